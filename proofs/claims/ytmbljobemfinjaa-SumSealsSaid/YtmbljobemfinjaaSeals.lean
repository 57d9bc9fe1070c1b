/-
  SumSeals: whatever the bytes, they are sealed and opened as the document says, in memory of their own.
-/
import Derived.Test.YtmbljobemfinjaaF
import Derived.Laws.BitsAllLaws
namespace Go.Proofs.Ytmbljobemfinjaa
open Go.ChangeShapes Go.WideShapes Go.ChangeAt Go.RowKit

/-- A slice that is read goes on being read. -/
theorem str_later {w u : World} {A : Option Addr} {n c : Nat} {l : List UInt8} (hn : l.length = n) (hr : Rd w w.heap.size A (bytesV l)) (hb : Below w.heap.size w u) : (convert 23 9 (.slice A n c)).run Try.prog u = .ok (.string ⟨l.toArray⟩) u :=
  str_of hn (hr.below hb)
/-- What is opened, and the error. -/
def openL (l : List UInt8) : List UInt8 := if opensB l then l.take (l.length - 4) else []
def errZ (l : List UInt8) : Int := if opensB l then 0 else 30
theorem open_gen (l : List UInt8) (A : Option Addr) (n c : Nat) (w : World) (hn : l.length = n) (hr : Rd w w.heap.size A (bytesV l)) (hc : n ≤ c) (hm : n ≤ 140737488355320) :
    Calls Try.prog 16 #[.slice A n c] w fun e w' => ∃ A3 n3 c3, e = .returned (.tuple #[.slice A3 n3 c3, .int .i64 (errZ l)]) ∧ w'.ownsRow w.heap.size 5 1 (.slice A3 n3 c3) n3 (bytesV (openL l)) ∧ Below w.heap.size w w' := by
  cases ho : opensB l with
  | true =>
    refine (open_yes l A n c w hn hr hc hm ho).mono fun e w' ⟨v, he, hm⟩ => ?_
    obtain ⟨_, A3, c3, rfl, _⟩ := own_rd hm.1
    refine ⟨A3, _, c3, by rw [he, errZ, if_pos ho], ?_, hm.2⟩
    rw [openL, if_pos ho, hn]; exact hm.1
  | false =>
    refine (open_no l A n c w hn hr hc hm ho).mono fun e w' ⟨he, hw⟩ => ⟨none, 0, 0, ?_, ?_, hw ▸ Below.refl _ _⟩
    · rw [he, errZ, if_neg (by rw [ho]; decide)]
    · rw [openL, if_neg (by rw [ho]; decide)]; exact World.ownsRow_nil _ _ _ _
theorem ropen_gen (l : List UInt8) (A : Option Addr) (n c : Nat) (w : World) (hn : l.length = n) (hr : Rd w w.heap.size A (bytesV l)) (hc : n ≤ c) (hm : n ≤ 140737488355320) :
    Calls Try.prog 17 #[.slice A n c] w fun e w' => ∃ A3 n3 c3, e = .returned (.tuple #[.slice A3 n3 c3, .int .i64 (errZ l)]) ∧ (openL l).length = n3 ∧ Rd w' w'.heap.size A3 (bytesV (openL l)) ∧ Below w.heap.size w w' := by
  cases ho : opensB l with
  | true =>
    refine (ropen_yes l A n c w hn hr hc hm ho).mono fun e w' ⟨he, hb⟩ => ⟨A, n - 4, c, ?_, ?_, ?_, hb⟩
    · rw [he, errZ, if_pos ho]
    · rw [openL, if_pos ho, List.length_take, hn]; omega
    · rw [openL, if_pos ho, bytesV_take]
      exact ((hr.below hb).more hb.size).take _
  | false =>
    refine (ropen_no l A n c w hn hr hc hm ho).mono fun e w' ⟨he, hb⟩ => ⟨none, 0, 0, ?_, ?_, ?_, hb⟩
    · rw [he, errZ, if_neg (by rw [ho]; decide)]
    · rw [openL, if_neg (by rw [ho]; decide)]; rfl
    · rw [openL, if_neg (by rw [ho]; decide)]; exact .inl rfl

theorem xor_byte (b : UInt8) : bits .xor .u8 (b.toNat : Int) 85 = ((b ^^^ 85).toNat : Int) := by
  have := u8_xor_nat b.toNat 85 b.toNat_lt (by decide)
  rw [UInt8.toNat_xor]
  exact this

set_option maxRecDepth 100000 in
set_option maxHeartbeats 3200000 in
theorem seals_body (k0 : List UInt8) (A0 : Option Addr) (n0 c0 m0 : Nat) (w : World) (Hf0 : Hid (∀ w, Calls Try.prog 10 #[.slice A0 n0 c0] w fun e w' => e = .returned (.slice A0 m0 c0) ∧ w = w'))
    (Hl0 : Hid (k0.length = m0)) (hs0 : Rd w w.heap.size A0 (bytesV k0)) (hk50 : m0 ≤ 50000) (hkc0 : m0 ≤ c0) :
    Calls Try.prog 4 #[.slice A0 n0 c0] w fun e w' => e = .returned (.bool true) ∧ Below w.heap.size w w' := by
  go_enter Try.func4, Try.ntmps4
  go_wp2_with (first
    | (go_at_call 11; refine (shown_any _).mono ?_; rintro e w1 ⟨rfl, hb⟩; have hx1 := str_of (c := c0) Hl0.out (hs0.below hb))
    | (go_at_call 10; (with_reducible refine (Hf0.out _).mono ?_); rintro e w' ⟨rfl, rfl⟩)
    | fail)
  refine (open_gen k0 A0 m0 c0 _ Hl0.out ((hs0.below hb).more hb.size) hkc0 (by omega)).mono ?_
  rintro e w2 ⟨A3, n3, c3, rfl, hown3, hb2⟩
  have hB2 := hb.trans (hb2.mono hb.size)
  clear hx1
  go_wp2_with fail
  refine (ropen_gen k0 A0 m0 c0 _ Hl0.out ((hs0.below hB2).more hB2.size) hkc0 (by omega)).mono ?_
  rintro e w4 ⟨A4, n4, c4, rfl, hln4, hr4, hb4⟩
  have hB4 := hB2.trans (hb4.mono hB2.size)
  have hown4 := own_below hown3 hb4
  have hr3 := own_rdp hown4
  have hln3 : (openL k0).length = n3 := by have := hown4.1; rw [length_bytesV] at this; omega
  have hr0 := (hs0.below hB4).more hB4.size
  have Hx : Hid (∀ u : World, Below w4.heap.size w4 u → (convert 23 9 (.slice A3 n3 c3)).run Try.prog u = .ok (.string ⟨(openL k0).toArray⟩) u ∧ (convert 23 9 (.slice A4 n4 c4)).run Try.prog u = .ok (.string ⟨(openL k0).toArray⟩) u) :=
    fun u hu => ⟨str_later hln3 hr3 hu, str_later hln4 hr4 hu⟩
  have Hr0 := Lib.hid hr0
  have Hown := Lib.hid hown4
  have hz1 := hb.size
  clear hown3 hown4 hr3 hr4 hln3 hln4 hr0 hb2 hb4 hB2
  generalize errZ k0 = z at *
  go_wp2_with fail
  refine wp_region_held_drew (S := fun u => Below w4.heap.size w4 u) (by kernel_rfl) (Below.refl _ _).drew (fun hHeld => ?_)
  refine wpAnyH_take (i := 0) (oi := _) (v := ?_) (by simp only [List.getElem?_toArray, List.getElem?_cons_zero]; rfl) (by kernel_rfl) (by kernel_rfl) (by kernel_rfl) (by exact fun _ _ _ h => h) (Or.inl ⟨by rfl, ?hyb0⟩) (by assumption) ?reb0
  case hyb0 => (intro u hu; have hxu := Hx.out u hu; go_simp <;> with_reducible rfl)
  try simp only [Act.put, List.setIfInBounds_toArray, List.set_cons_zero, List.set_cons_succ]
  refine wpAnyH_take (i := 1) (oi := _) (v := ?_) (by simp only [List.getElem?_toArray, List.getElem?_cons_succ, List.getElem?_cons_zero]; rfl) (by kernel_rfl) (by kernel_rfl) (by kernel_rfl) (by exact fun _ _ _ h => h) (Or.inl ⟨by rfl, ?hyb1⟩) (by assumption) ?reb1
  case hyb1 => (intro u hu; have hxu := Hx.out u hu; go_simp <;> with_reducible rfl)
  try simp only [Act.put, List.setIfInBounds_toArray, List.set_cons_zero, List.set_cons_succ]
  refine wpAnyH_take (i := 2) (oi := _) (v := ?_) (by simp only [List.getElem?_toArray, List.getElem?_cons_succ, List.getElem?_cons_zero]; rfl) (by kernel_rfl) (by kernel_rfl) (by kernel_rfl) (by exact fun _ _ _ h => h) (Or.inl ⟨by rfl, ?hyb2⟩) (by assumption) ?reb2
  case hyb2 => (intro u hu; have hxu := Hx.out u hu; go_simp <;> with_reducible rfl)
  try simp only [Act.put, List.setIfInBounds_toArray, List.set_cons_zero, List.set_cons_succ]
  refine wpAnyH_take (i := 3) (oi := _) (v := ?_) (by simp only [List.getElem?_toArray, List.getElem?_cons_succ, List.getElem?_cons_zero]; rfl) (by kernel_rfl) (by kernel_rfl) (by kernel_rfl) (by exact fun _ _ _ h => h) (Or.inl ⟨by rfl, ?hyb3⟩) (by assumption) ?reb3
  case hyb3 => (intro u hu; have hxu := Hx.out u hu; go_simp <;> with_reducible rfl)
  try simp only [Act.put, List.setIfInBounds_toArray, List.set_cons_zero, List.set_cons_succ]
  refine wpAnyH_take (i := 4) (oi := _) (v := ?_) (by simp only [List.getElem?_toArray, List.getElem?_cons_succ, List.getElem?_cons_zero]; rfl) (by kernel_rfl) (by kernel_rfl) (by kernel_rfl) (by exact fun _ _ _ h => h) (Or.inl ⟨by rfl, ?hyb4⟩) (by assumption) ?reb4
  case hyb4 => (intro u hu; have hxu := Hx.out u hu; go_simp <;> with_reducible rfl)
  try simp only [Act.put, List.setIfInBounds_toArray, List.set_cons_zero, List.set_cons_succ]
  refine wpAnyH_take (i := 5) (oi := _) (v := ?_) (by simp only [List.getElem?_toArray, List.getElem?_cons_succ, List.getElem?_cons_zero]; rfl) (by kernel_rfl) (by kernel_rfl) (by kernel_rfl) (by exact fun _ _ _ h => h) (Or.inl ⟨by rfl, ?hyb5⟩) (by assumption) ?reb5
  case hyb5 => (intro u hu; have hxu := Hx.out u hu; go_simp <;> with_reducible rfl)
  try simp only [Act.put, List.setIfInBounds_toArray, List.set_cons_zero, List.set_cons_succ]
  refine wpAnyH_take (i := 6) (oi := _) (v := ?_) (by simp only [List.getElem?_toArray, List.getElem?_cons_succ, List.getElem?_cons_zero]; rfl) (by kernel_rfl) (by kernel_rfl) (by kernel_rfl) (by exact fun _ _ _ h => h) (Or.inl ⟨by rfl, ?hyb6⟩) (by assumption) ?reb6
  case hyb6 => (intro u hu; have hxu := Hx.out u hu; go_simp <;> with_reducible rfl)
  try simp only [Act.put, List.setIfInBounds_toArray, List.set_cons_zero, List.set_cons_succ]
  refine wpAnyH_take (i := 7) (oi := _) (v := ?_) (by simp only [List.getElem?_toArray, List.getElem?_cons_succ, List.getElem?_cons_zero]; rfl) (by kernel_rfl) (by kernel_rfl) (by kernel_rfl) (by exact fun _ _ _ h => h) (Or.inl ⟨by rfl, ?hyb7⟩) (by assumption) ?reb7
  case hyb7 => (intro u hu; have hxu := Hx.out u hu; go_simp <;> with_reducible rfl)
  try simp only [Act.put, List.setIfInBounds_toArray, List.set_cons_zero, List.set_cons_succ]
  refine wpAnyH_take (i := 8) (oi := _) (v := ?_) (by simp only [List.getElem?_toArray, List.getElem?_cons_succ, List.getElem?_cons_zero]; rfl) (by kernel_rfl) (by kernel_rfl) (by kernel_rfl) (by exact fun _ _ _ h => h) (Or.inl ⟨by rfl, ?hyb8⟩) (by assumption) ?reb8
  case hyb8 => (intro u hu; have hxu := Hx.out u hu; go_simp <;> with_reducible rfl)
  try simp only [Act.put, List.setIfInBounds_toArray, List.set_cons_zero, List.set_cons_succ]
  refine wpAnyH_take (i := 9) (oi := _) (v := ?_) (by simp only [List.getElem?_toArray, List.getElem?_cons_succ, List.getElem?_cons_zero]; rfl) (by kernel_rfl) (by kernel_rfl) (by kernel_rfl) (by exact fun _ _ _ h => h) (Or.inl ⟨by rfl, ?hyb9⟩) (by assumption) ?reb9
  case hyb9 => (intro u hu; have hxu := Hx.out u hu; go_simp <;> with_reducible rfl)
  try simp only [Act.put, List.setIfInBounds_toArray, List.set_cons_zero, List.set_cons_succ]
  refine wpAnyH_take (i := 10) (oi := _) (v := ?_) (by simp only [List.getElem?_toArray, List.getElem?_cons_succ, List.getElem?_cons_zero]; rfl) (by kernel_rfl) (by kernel_rfl) (by kernel_rfl) (by exact fun _ _ _ h => h) (Or.inl ⟨by rfl, ?hyb10⟩) (by assumption) ?reb10
  case hyb10 => (intro u hu; have hxu := Hx.out u hu; go_simp <;> with_reducible rfl)
  try simp only [Act.put, List.setIfInBounds_toArray, List.set_cons_zero, List.set_cons_succ]
  refine wpAnyH_take (i := 11) (oi := _) (v := ?_) (by simp only [List.getElem?_toArray, List.getElem?_cons_succ, List.getElem?_cons_zero]; rfl) (by kernel_rfl) (by kernel_rfl) (by kernel_rfl) (by exact fun _ _ _ h => h) (Or.inl ⟨by rfl, ?hyb11⟩) (by assumption) ?reb11
  case hyb11 => (intro u hu; have hxu := Hx.out u hu; go_simp <;> with_reducible rfl)
  try simp only [Act.put, List.setIfInBounds_toArray, List.set_cons_zero, List.set_cons_succ]
  refine wpAnyH_take (i := 14) (oi := _) (v := ?_) (by simp only [List.getElem?_toArray, List.getElem?_cons_succ, List.getElem?_cons_zero]; rfl) (by kernel_rfl) (by kernel_rfl) (by kernel_rfl) (by exact fun _ _ _ h => h) (Or.inl ⟨by rfl, ?hyb14⟩) (by assumption) ?reb14
  case hyb14 => (intro u hu; have hxu := Hx.out u hu; go_simp <;> with_reducible rfl)
  try simp only [Act.put, List.setIfInBounds_toArray, List.set_cons_zero, List.set_cons_succ]
  refine wpAnyH_ready (rs := [12]) (by kernel_rfl) (by simp) ?_
  refine AllReadyH.cons (o := _) (by simp only [List.getElem?_toArray, List.getElem?_cons_succ, List.getElem?_cons_zero]; rfl) (fun K hK => ?_) AllReadyH.nil
  go_simp
  refine (seal_any k0 A0 m0 c0 _ Hl0.out ((Hr0.out.below (Below.refl _ _).drew).more (by simp)) hkc0 (by omega)).mono ?_
  rintro e w5 ⟨v, rfl, hown5, hb5⟩
  have hb5' : Below w4.heap.size w4 w5 := ((Below.refl _ w4).drew).trans (hb5.mono (by simp))
  obtain ⟨_, A5, c5, rfl, hc5, _, hr5⟩ := own_rd hown5
  have Hs5 : Hid (∀ u : World, Below w5.heap.size w5 u → (convert 23 9 (.slice A5 (sealed k0).length c5)).run Try.prog u = .ok (.string ⟨(sealed k0).toArray⟩) u) := fun u hu => str_later rfl hr5 hu
  go_simp
  refine hK.out _ _ hb5' (fun hHeld2 => ?_)
  refine held_strong (T := fun u => Below w5.heap.size w5 u) (fun u hu => hb5'.trans (hu.mono hb5'.size)) _ _ _ _ ?_
  clear hK K hHeld hHeld2 hown5 hr5
  have hHeld3 := Below.refl w5.heap.size w5
  refine wpAnyH_take (i := 13) (oi := _) (v := ?_) (by simp only [List.getElem?_toArray, List.getElem?_cons_succ, List.getElem?_cons_zero]; rfl) (by kernel_rfl) (by kernel_rfl) (by kernel_rfl) (by exact fun _ _ _ h => h) (Or.inl ⟨by rfl, ?hyc13⟩) (by exact hHeld3) ?rec13
  case hyc13 => (intro u hu; have hxu := Hs5.out u hu; go_simp <;> with_reducible rfl)
  try simp only [Act.put, List.setIfInBounds_toArray, List.set_cons_zero, List.set_cons_succ]
  refine wpAnyH_ready (rs := [15]) (by kernel_rfl) (by simp) ?_
  refine AllReadyH.cons (o := _) (by simp only [List.getElem?_toArray, List.getElem?_cons_succ, List.getElem?_cons_zero]; rfl) (fun K hK => ?_) AllReadyH.nil
  go_simp
  refine (rseal_any k0 A0 m0 c0 _ Hl0.out ((Hr0.out.below hb5').more hb5'.size) (by omega)).mono ?_
  rintro e w6 ⟨v, rfl, hown6, hb6⟩
  have hb6' : Below w4.heap.size w4 w6 := hb5'.trans (hb6.mono hb5'.size)
  obtain ⟨_, A6, c6, rfl, hc6, _, hr6⟩ := own_rd hown6
  have hs6 := str_of (c := c6) rfl hr6
  go_simp
  refine hK.out _ _ hb6 (fun hHeld4 => ?_)
  refine held_strong (T := fun u => u = w6) (by rintro _ rfl; exact hHeld4) _ _ _ _ ?_
  clear hK K hown6 hr6 hHeld4
  refine wpAnyH_take (i := 16) (oi := _) (v := ?_) (by simp only [List.getElem?_toArray, List.getElem?_cons_succ, List.getElem?_cons_zero]; rfl) (by kernel_rfl) (by kernel_rfl) (by kernel_rfl) (by exact fun _ _ _ h => h) (Or.inl ⟨by rfl, ?hyc16⟩) (by exact rfl) ?rec16
  case hyc16 => (rintro w rfl; go_simp <;> with_reducible rfl)
  try simp only [Act.put, List.setIfInBounds_toArray, List.set_cons_zero, List.set_cons_succ]
  refine wpAnyH_take (i := 17) (oi := _) (v := ?_) (by simp only [List.getElem?_toArray, List.getElem?_cons_succ, List.getElem?_cons_zero]; rfl) (by kernel_rfl) (by kernel_rfl) (by kernel_rfl) (by exact fun _ _ _ h => h) (Or.inl ⟨by rfl, ?hyc17⟩) (by exact rfl) ?rec17
  case hyc17 => (rintro w rfl; go_simp <;> with_reducible rfl)
  try simp only [Act.put, List.setIfInBounds_toArray, List.set_cons_zero, List.set_cons_succ]
  refine wpAnyH_take (i := 18) (oi := _) (v := ?_) (by simp only [List.getElem?_toArray, List.getElem?_cons_succ, List.getElem?_cons_zero]; rfl) (by kernel_rfl) (by kernel_rfl) (by kernel_rfl) (by exact fun _ _ _ h => h) (Or.inl ⟨by rfl, ?hyc18⟩) (by exact rfl) ?rec18
  case hyc18 => (rintro w rfl; go_simp <;> with_reducible rfl)
  try simp only [Act.put, List.setIfInBounds_toArray, List.set_cons_zero, List.set_cons_succ]
  refine wpAnyH_take (i := 19) (oi := _) (v := ?_) (by simp only [List.getElem?_toArray, List.getElem?_cons_succ, List.getElem?_cons_zero]; rfl) (by kernel_rfl) (by kernel_rfl) (by kernel_rfl) (by exact fun _ _ _ h => h) (Or.inl ⟨by rfl, ?hyc19⟩) (by exact rfl) ?rec19
  case hyc19 => (rintro w rfl; go_simp <;> with_reducible rfl)
  try simp only [Act.put, List.setIfInBounds_toArray, List.set_cons_zero, List.set_cons_succ]
  refine wpAnyH_done (by kernel_rfl) ?_ _
  clear hb5 hb5' Hs5 hHeld3 hb6 hs6
  have hown6 := own_below Hown.out hb6'
  have hB6 := hB4.trans (hb6'.mono hB4.size)
  have HLn : Hid ((openL k0).length = n3) := by have := hown6.1; rw [length_bytesV] at this; exact (by omega : (openL k0).length = n3)
  clear hb6' Hx Hown Hr0 hB4
  have hmm : n3 ≤ 9223372036854775807 := by
    rcases hown6.2 with ⟨_, h⟩ | ⟨_, cap, _, hv, _, _, h1, h2, _⟩
    · omega
    · unfold maxLen at h2; omega
  obtain ⟨wo, rfl⟩ : ∃ wo : World, wo = w1 := ⟨_, rfl⟩
  go_wp2_with fail
  go_loopw [48] (fun i wr => ∃ (j : Nat) (L : List UInt8), j ≤ n3 ∧ i = .int .i64 j ∧ Hid (L.length = n3) ∧ wr.ownsRow wo.heap.size 5 1 (.slice A3 n3 c3) n3 (bytesV L) ∧ Below w.heap.size w wr) (fun i _ => n3 - (intOf i).toNat)
  case atStart => exact ⟨0, openL k0, Nat.zero_le _, rfl, HLn, hown6, hB6⟩
  case round =>
    obtain ⟨j, L, hj, rfl, HL, hown, hbel⟩ := hrel
    clear hown6 hB6 HLn
    by_cases hlt : j < n3
    · obtain ⟨g, cap, hv, hcap⟩ := own_pos hown (by omega)
      injection hv with h1 _ h3
      subst h1
      subst h3
      have hjl : j < L.length := by have := HL.out; omega
      have hg := (hown.lt g rfl).1
      obtain ⟨b, hb'⟩ : ∃ b, L[j]? = some b := ⟨_, List.getElem?_eq_getElem hjl⟩
      have hcell : wr.cell? ⟨g, j, none⟩ = some (.int .u8 (b.toNat : Int)) := by
        rw [hown.cellAt j (by omega), bytesV, List.getElem?_map, hb']; rfl
      have hfr := hown.frozenAt j
      have hxor := xor_byte b
      have hown2 := (hown.stored j (.int .u8 ((b ^^^ 85).toNat : Int))).1
      have h2 : (bytesV L).set j (.int .u8 ((b ^^^ 85).toNat : Int)) = bytesV (L.set j (b ^^^ 85)) := by simp [bytesV, byteV, List.map_set]
      rw [h2] at hown2
      have hb2 := hbel.setCell (p := ⟨g, j, none⟩) (by simp; omega) (.int .u8 ((b ^^^ 85).toNat : Int))
      have HL2 : Hid ((L.set j (b ^^^ 85)).length = n3) := (List.length_set).trans HL.out
      clear hb' h2 hown hjl
      go_wp2_with fail
      go_roundw
      case rel => exact ⟨j + 1, _, hlt, by go_num, HL2, hown2, hb2⟩
      case measure => simp [intOf]; omega
    · have hx1 := str_of (c := c0) Hl0.out (hs0.below hbel)
      go_wp2_with fail
      go_ret
      exact ⟨rfl, hbel⟩

theorem seals_walk (l0 : List UInt8) (A0 : Option Addr) (n0 c0 : Nat) (w : World) (hn0 : l0.length = n0) (hr0 : Rd w w.heap.size A0 (bytesV l0)) (hc0 : n0 ≤ c0) (hm0 : c0 ≤ 9223372036854775807) :
    Calls Try.prog 4 #[.slice A0 n0 c0] w fun e w' => e = .returned (.bool true) ∧ Below w.heap.size w w' := by
  have hs0 := hr0.take 50000
  rw [← bytesV_take] at hs0
  exact seals_body (l0.take 50000) A0 n0 c0 (min n0 50000) w (Lib.hid (fun w => few_any A0 n0 c0 w hc0 hm0)) (few_len l0 n0 hn0) hs0 (Nat.min_le_right _ _) (by omega)

theorem seals_contract (H : Type) (enc : TypeId × Value → H) (W : World) (base : Nat) (args : Array Value) (ds gs : List (DataW H)) (before : List MemPlace)
    (hval : ∀ (j : Nat) t v, Try.f4.params[j]? = some t → args[j]? = some v → Value.okWide Try.prog W .any base t v)
    (hW : DataW.Whole enc Try.prog Try.f4.params.toList Rows.sumSealsSpec.vars false W args.toList ds gs before) :
    Calls Try.prog 4 args W fun e W' => ∃ v, e = .returned v ∧ Rows.sumSealsSpec.post enc Try.prog Try.f4 false true false false W args v W' := by
  have hW' := hW
  have hlt : ∀ x ∈ before, x.block < W.heap.size := fun x hx => hW.lt x hx
  obtain ⟨p, q, hA0, hV, rfl, _, _⟩ := hW
  have hA : DataW.TrodAll enc Try.prog W 0 (fun _ => true) true Try.f4.params.toList args.toList ds p := hA0
  rw [Try.params4] at hA hval
  obtain ⟨v0, vs0, d0, ds0, p0, q0, hargs, rfl, rfl, h0, r0⟩ := trodAll_cons hA
  obtain ⟨rfl, rfl, rfl⟩ := trodAll_nil r0
  obtain rfl : args = #[v0] := by cases args; simp_all
  obtain ⟨rfl, rfl⟩ := trodVars_none hV
  clear hA0
  obtain ⟨A0, n0, c0, l0, rfl, hn0, hc0, hm0, hr0⟩ := open_bytesL Try.underlying23 Try.underlying5 cells5 (hval 0 23 v0 rfl rfl) h0 (fun x hx => hlt x (by simp [hx]))
  unfold maxLen at hm0
  refine (seals_walk l0 A0 n0 c0 W hn0 hr0 hc0 hm0).mono fun e W' ⟨he, hb⟩ => ?_
  subst he
  exact ⟨_, rfl, law_post laid (by kernel_rfl) Try.underlying4 (by rw [Try.params4]; decide +kernel) rfl hW' ⟨rfl, rfl, rfl⟩ hb⟩

set_option maxRecDepth 100000 in
theorem seals_lifted (os : Os) (started : os.Started) (H : Type) (enc : TypeId × Value → H) :
    ReturnsInHanded {} Try.checked os 4 .any (Rows.sumSealsSpec.pre6 enc Try.prog Try.f4 Rows.sumSealsRow.domain false) (Rows.sumSealsSpec.post enc Try.prog Try.f4 false true false false) := by
  refine returnsInHanded_of_change (C := Try.checked) own started (by kernel_rfl) Try.func4
    (ChangeSpec.witness6 (enc := enc) (C := Try.checked) false ⟨#[], #[.slice none 0 0], []⟩ 8 (by kernel_rfl) (by kernel_rfl) (by kernel_rfl) (by kernel_rfl)) ?_
  intro W base args ds gs before hval hW _ _
  exact seals_contract H enc W base args ds gs before hval hW

/-- SumSeals is true for every input. -/
theorem seals_holds : Rows.SumSealsSaid :=
  OpenClaim.holds_of_wide 4 Try.f4 rfl rfl rfl rfl rfl rfl rfl ⟨rfl, rfl, rfl, rfl, rfl⟩ rfl rfl rfl rfl rfl (by kernel_rfl) Try.func4 (by kernel_rfl)
    (of_decide_eq_true (by kernel_rfl)) (by unfold Func.isWrapper; first | (rw [if_pos (by decide +kernel)]; kernel_rfl) | (rw [if_neg (by decide +kernel)]; exact ⟨rfl, rfl⟩))
    (fun os started H enc _ => seals_lifted os started H enc)
end Go.Proofs.Ytmbljobemfinjaa
