/-
  EntryAdds: whatever the bytes (the first 5,000), the entry and the name (of up to 1,000 bytes each), a directory with the entry more, and one without the name, are the document's, in memory of their own.
-/
import Derived.Test.YtlopndnjkphdnaaO
import Derived.Test.YtlopndnjkphdnaaEntryS
namespace Go.Proofs.Ytlopndnjkphdnaa
open Go.ChangeShapes Go.WideShapes Go.ChangeAt Go.RowKit Entry

/-- A row of one's own behind a store to another one. -/
theorem own_apart {w w' : World} {base g : Nat} {e : TypeId} {k : Nat} {v : Value} {n : Nat} {xs : List Value} (h : w.ownsRow base e k v n xs) (hg : g < base) (hgr : w.grownBy w' (some g)) : w'.ownsRow base e k v n xs :=
  h.kept hgr (by
    cases hb : v.ownBlock with
    | none => exact .inl rfl
    | some b =>
      refine .inr fun he => ?_
      injection he with he
      have := (h.lt b hb).1
      omega)
/-- While bytes are changed: they stay bytes of their own, and nothing that was there at the call is changed. -/
def Turning (w : World) (v : Value) (n : Nat) (wr : World) : Prop := (∃ ys : List UInt8, wr.ownsRow w.heap.size 5 1 v n (bytesV ys)) ∧ Below w.heap.size w wr
theorem turning_cell {w wr : World} {g n c : Nat} (h : Turning w (.slice (some ⟨g, 0, none⟩) n c) n wr) (j : Nat) (hj : j < n) :
    ∃ y : UInt8, wr.cell? ⟨g, j, none⟩ = some (.int .u8 (y.toNat : Int)) ∧ wr.frozen? ⟨g, j, none⟩ = false ∧
      Turning w (.slice (some ⟨g, 0, none⟩) n c) n (wr.setCell ⟨g, j, none⟩ (.int .u8 (bits .xor .u8 (y.toNat : Int) 85))) ∧ wr.grownBy (wr.setCell ⟨g, j, none⟩ (.int .u8 (bits .xor .u8 (y.toNat : Int) 85))) (some g) := by
  obtain ⟨⟨ys, hown⟩, hb⟩ := h
  have hl : ys.length = n := by have := hown.1; rw [length_bytesV] at this; omega
  have hc := hown.cellAt j (by omega)
  rw [List.getElem?_eq_getElem (by rw [length_bytesV]; omega)] at hc
  have h1 := hown.stored j (byteV (ys[j] ^^^ 85))
  have e : bits .xor .u8 (ys[j].toNat : Int) 85 = ((ys[j] ^^^ 85).toNat : Int) := by
    have := u8_xor_nat ys[j].toNat 85 ys[j].toNat_lt (by decide)
    rw [UInt8.toNat_xor]
    exact this
  have e2 : (bytesV ys).set j (byteV (ys[j] ^^^ 85)) = bytesV (ys.set j (ys[j] ^^^ 85)) := by simp [bytesV, List.map_set]
  rw [e2] at h1
  refine ⟨ys[j], by rw [hc]; simp [bytesV, byteV], hown.frozenAt j, ⟨⟨ys.set j (ys[j] ^^^ 85), ?_⟩, hb.setCell (hown.lt g rfl).1 _⟩, ?_⟩
  · rw [e]; exact h1.1
  · rw [e]; exact h1.2
theorem own_blk {w : World} {base n c m : Nat} {A : Option Addr} {xs : List Value} (h : w.ownsRow base 5 1 (.slice A n c) m xs) (hn : 0 < m) : ∃ g, A = some ⟨g, 0, none⟩ ∧ base ≤ g ∧ n = m := by
  rcases h.2 with ⟨_, h0⟩ | ⟨g, cap, _, hv, hb, _⟩
  · omega
  · injection hv with h1 h2 _
    exact ⟨g, h1, hb, h2⟩
theorem own_max {w : World} {base : Nat} {e : TypeId} {k : Nat} {v : Value} {n : Nat} {xs : List Value} (h : w.ownsRow base e k v n xs) : n ≤ 9223372036854775807 := by
  rcases h.2 with ⟨_, h0⟩ | ⟨g, cap, _, _, _, _, h1, h2, _⟩
  · omega
  · unfold maxLen at h2
    omega
theorem ent_keep {w w2 u : World} {g0 : Nat} {s0 : ByteArray} {i0 : Int} (k0 : Bk w2 g0 23 [.string s0, .int .i64 i0]) (hw : Below w.heap.size w w2) (hb : Below w2.heap.size w2 u) :
    u.cell? ⟨g0, 0, none⟩ = some (.string s0) ∧ u.cell? ⟨g0, 1, none⟩ = some (.int .i64 i0) ∧ Below w.heap.size w u := by
  have k0' := k0.below hb k0.lt
  exact ⟨k0'.cell 0, k0'.cell 1, hw.trans (hb.mono hw.size)⟩

set_option maxHeartbeats 3200000 in
set_option maxRecDepth 100000 in
theorem adds_in (l : List UInt8) (A : Option Addr) (n c : Nat) (s : ByteArray) (i : Int) (t : ByteArray) (w : World) (hn : l.length = n) (hc : n ≤ c) (hm : c ≤ maxLen) (hr : Rd w w.heap.size A (bytesV l)) (hs : s.size ≤ 1000) (ht : t.size ≤ 1000) :
    Calls Try.prog 5 #[.slice A n c, .agg #[.string s, .int .i64 i], .string t] w fun e w' => e = .returned (.bool true) ∧ Below w.heap.size w w' := by
  have hm5 : min n 5000 ≤ c := by omega
  have hl5 := length_few hn
  have H23 := Lib.hid (fun (W : World) (h : Rd W W.heap.size A (bytesV l)) => add_any (l.take 5000) A (min n 5000) c s i W hl5 (rd_few h) hm5 hm (by omega))
  have H24 := Lib.hid (fun (W : World) (h : Rd W W.heap.size A (bytesV l)) => radd_any (l.take 5000) A (min n 5000) c s i W hl5 (rd_few h) hm5 hm)
  have H25 := Lib.hid (fun (W : World) (h : Rd W W.heap.size A (bytesV l)) => remove_any (l.take 5000) A (min n 5000) c t W hl5 (rd_few h) hm5 hm (by omega))
  have H26 := Lib.hid (fun (W : World) (h : Rd W W.heap.size A (bytesV l)) => rremove_any (l.take 5000) A (min n 5000) c t W hl5 (rd_few h) hm5 hm)
  have H14 : Hid (∀ W : World, Calls Try.prog 14 #[.slice A n c] W fun e w' => e = .returned (.slice A (min n 5000) c) ∧ W = w') := Lib.hid fun W => few_any A n c W hc hm
  have Hs : Hid (∀ u, Below w.heap.size w u → (convert 24 9 (.slice A (min n 5000) c)).run Try.prog u = .ok (.string ⟨(l.take 5000).toArray⟩) u) := Lib.hid fun u hu => str_of hl5 ((rd_few hr).below hu)
  generalize addE hsh (l.take 5000) s.data.toList i = ra at *
  generalize remE hsh (l.take 5000) t.data.toList = rr at *
  obtain ⟨CA, ka⟩ := ra
  obtain ⟨CR, kr⟩ := rr
  obtain ⟨m1, hm1⟩ : ∃ m1, CA.length = m1 := ⟨_, rfl⟩
  obtain ⟨m2, hm2⟩ : ∃ m2, CR.length = m2 := ⟨_, rfl⟩
  have HL1 : Hid ((CA, ka).1.length = m1) := Lib.hid hm1
  have HL2 : Hid ((CR, kr).1.length = m2) := Lib.hid hm2
  have Hr := Lib.hid hr
  have hs1 : ¬ 1000 < (s.size : Int) := by omega
  have ht1 : ¬ 1000 < (t.size : Int) := by omega
  generalize min n 5000 = p at *
  generalize l.take 5000 = fl at *
  clear hn hc hm hr hm5 hl5 hs ht hm1 hm2
  go_enter Try.func5, Try.ntmps5
  go_wp2_with (first
    | (go_at_call 10; (with_reducible refine (shown_any _).mono ?_); rintro e w1 ⟨he, hb1⟩; obtain rfl := he; obtain ⟨hk1, hb1', hs1'⟩ := kept_ent hb1; obtain ⟨a0, a1⟩ := ent_cells hk1; have HK1 := Lib.hid hk1; have HB1 := Lib.hid hb1'; have hcv1 := Hs.out _ hb1'; clear hb1 hb1' hk1)
    | (go_at_call 14; (with_reducible refine (H14.out _).mono ?_); rintro e wf ⟨he, hwf⟩; obtain rfl := he; subst hwf))
  have HD1 := Lib.hid (below_drew (Below.refl w1.heap.size w1))
  have HE1 := Lib.hid (below_drew HB1.out)
  go_region_held3 (fun u => u.cell? ⟨w.heap.size, 0, none⟩ = some (.string s) ∧ u.cell? ⟨w.heap.size, 1, none⟩ = some (.int .i64 i) ∧ Below w.heap.size w u)
    (first | exact ent_keep HK1.out HB1.out HD1.out | exact ent_keep HK1.out HB1.out HD2.out)
    (first
      | (go_at_call 14; refine (H14.out _).mono ?_; rintro e wf ⟨he, hwf⟩; obtain rfl := he; subst hwf)
      | (go_at_call 23; refine (H23.out _ ((Hr.out.below HE1.out).more HE1.out.size)).mono ?_; rintro e w2 ⟨v2, he, hown2, hb2⟩; obtain rfl := he; rw [HL1.out] at hown2; obtain ⟨A2, c2, hv2, -⟩ := own_sh hown2; subst hv2; have HD2 := Lib.hid (HD1.out.trans (hb2.mono HD1.out.size)); have HB2 := Lib.hid (HE1.out.trans (hb2.mono HE1.out.size)); have HO2 := Lib.hid (own_mono hown2 HE1.out.size); clear hb2 hown2))
  go_wp2
  have HK2 := Lib.hid (HK1.out.below HD2.out HK1.out.lt)
  have HE2 := Lib.hid (below_drew HB2.out)
  have HD2' := Lib.hid (below_drew (Below.refl w2.heap.size w2))
  obtain ⟨b0, b1⟩ := ent_cells HK2.out
  go_region_held3 (fun u => u.cell? ⟨w.heap.size, 0, none⟩ = some (.string s) ∧ u.cell? ⟨w.heap.size, 1, none⟩ = some (.int .i64 i) ∧ Below w.heap.size w u)
    (first | exact ent_keep HK2.out HB2.out HD2'.out | exact ent_keep HK2.out HB2.out HD3.out)
    (first
      | (go_at_call 14; refine (H14.out _).mono ?_; rintro e wf ⟨he, hwf⟩; obtain rfl := he; subst hwf)
      | (go_at_call 24; refine (H24.out _ ((Hr.out.below HE2.out).more HE2.out.size)).mono ?_; rintro e w3 hh; obtain ⟨A3, c3, he, -, -, hr3, hb3⟩ := hh.got HL1.out; obtain rfl := he; have HD3 := Lib.hid (HD2'.out.trans (hb3.mono HD2'.out.size)); have HB3 := Lib.hid (HE2.out.trans (hb3.mono HE2.out.size)); have HR3 := Lib.hid hr3; clear hh hb3 hr3))
  have HO3 := Lib.hid (own_below HO2.out HD3.out)
  have HS2 := Lib.hid (show w2.heap.size ≤ w3.heap.size from HD3.out.size)
  clear b0 b1
  go_wp2_with (first
    | (go_at_call 14; (with_reducible refine (H14.out _).mono ?_); rintro e wf ⟨he, hwf⟩; obtain rfl := he; subst hwf)
    | (go_at_call 25; (with_reducible refine (H25.out _ ((Hr.out.below HB3.out).more HB3.out.size)).mono ?_); rintro e w4 ⟨v4, he, hown4, hb4⟩; obtain rfl := he; rw [HL2.out] at hown4; obtain ⟨A4, c4, hv4, -⟩ := own_sh hown4; subst hv4; have HB4 := Lib.hid (HB3.out.trans (hb4.mono HB3.out.size)); have HO4 := Lib.hid hown4; have HO34 := Lib.hid (own_below HO3.out hb4); have HR34 := Lib.hid ((HR3.out.below hb4).more hb4.size); have HLT := Lib.hid (fun k hk => (HO3.out.lt k hk).2); clear hb4 hown4)
    | (go_at_call 26; (with_reducible refine (H26.out _ ((Hr.out.below HB4.out).more HB4.out.size)).mono ?_); rintro e w5 hh; obtain ⟨A5, c5, he, -, -, hr5, hb5⟩ := hh.got HL2.out; obtain rfl := he; have HB5 := Lib.hid (HB4.out.trans (hb5.mono HB4.out.size)); have HO35 := Lib.hid (own_below HO34.out hb5); have HO45 := Lib.hid (own_below HO4.out hb5); have e1 := str_of (c := c3) HL1.out ((HR34.out.below hb5).more hb5.size); have e2 := str_of (c := c2) HL1.out (own_rdp HO35.out); have e3 := str_of (c := c4) HL2.out (own_rdp HO45.out); have e4 := str_of (c := c5) HL2.out hr5; clear hh hb5 hr5))
  have hturn : Turning w (.slice A2 m1 c2) m1 w5 := ⟨⟨_, HO35.out⟩, HB5.out⟩
  clear e1 e2 e3 e4
  go_loopw [86] (fun z wr => ∃ j : Nat, j ≤ m1 ∧ z = .int .i64 j ∧ Turning w (.slice A2 m1 c2) m1 wr ∧ wr.ownsRow w3.heap.size 5 1 (.slice A4 m2 c4) m2 (bytesV CR)) (fun z _ => m1 - (intOf z).toNat)
  case atStart => exact ⟨0, Nat.zero_le _, rfl, hturn, HO45.out⟩
  case round =>
    obtain ⟨j, hj, rfl, ht, ho⟩ := hrel
    by_cases hlt : j < m1
    · obtain ⟨g2, rfl, hg2, -⟩ := own_blk HO35.out (by omega)
      obtain ⟨y, hcell, hfr, ht2, hgr⟩ := turning_cell ht j hlt
      have ho2 := own_apart ho (HLT.out g2 rfl) hgr
      have hjw : IntKind.i64.wrap ((j : Int) + 1) = ((j + 1 : Nat) : Int) := by rw [IntKind.wrap_i64]; have := own_max HO35.out; omega
      clear ht hturn ho hgr
      go_wp2
      go_roundw
      case rel => exact ⟨j + 1, by omega, by first | rfl | (congr 1), ht2, ho2⟩
      case measure => simp [intOf]; omega
    · have hturn2 : Turning w (.slice A4 m2 c4) m2 wr := ⟨⟨_, own_mono ho HB3.out.size⟩, ht.2⟩
      clear ht hturn ho
      go_wp2
      go_loopw [98] (fun z wr => ∃ j : Nat, j ≤ m2 ∧ z = .int .i64 j ∧ Turning w (.slice A4 m2 c4) m2 wr) (fun z _ => m2 - (intOf z).toNat)
      case atStart => exact ⟨0, Nat.zero_le _, rfl, hturn2⟩
      case round =>
        obtain ⟨j2, hj2, rfl, ht⟩ := hrel
        by_cases hlt2 : j2 < m2
        · obtain ⟨g4, rfl, hg4, -⟩ := own_blk HO45.out (by omega)
          obtain ⟨y, hcell, hfr, ht2, hgr⟩ := turning_cell ht j2 hlt2
          have hjw : IntKind.i64.wrap ((j2 : Int) + 1) = ((j2 + 1 : Nat) : Int) := by rw [IntKind.wrap_i64]; have := own_max HO45.out; omega
          clear ht hturn2 hgr
          go_wp2
          go_roundw
          case rel => exact ⟨j2 + 1, by omega, by first | rfl | (congr 1), ht2⟩
          case measure => simp [intOf]; omega
        · have hcv := Hs.out _ ht.2
          have hbw := ht.2
          clear ht hturn2
          go_wp2_with (go_at_call 14; (with_reducible refine (H14.out _).mono ?_); rintro e wf ⟨he, hwf⟩; obtain rfl := he; subst hwf)
          go_ret
          exact ⟨rfl, hbw⟩
set_option maxHeartbeats 800000 in
theorem adds_walk (l : List UInt8) (A : Option Addr) (n c : Nat) (s : ByteArray) (i : Int) (t : ByteArray) (w : World) (hn : l.length = n) (hc : n ≤ c) (hm : c ≤ maxLen) (hr : Rd w w.heap.size A (bytesV l)) :
    Calls Try.prog 5 #[.slice A n c, .agg #[.string s, .int .i64 i], .string t] w fun e w' => e = .returned (.bool true) ∧ Below w.heap.size w w' := by
  by_cases h : s.size ≤ 1000
  · by_cases h2 : t.size ≤ 1000
    · exact adds_in l A n c s i t w hn hc hm hr h h2
    · have hs1 : decide (1000 < (s.size : Int)) = false := decide_eq_false (by omega)
      have ht1 : decide (1000 < (t.size : Int)) = true := decide_eq_true (by omega)
      clear hn hc hm hr h h2
      go_enter Try.func5, Try.ntmps5
      go_wp2_with (go_at_call 10; (with_reducible refine (shown_any _).mono ?_); rintro e w1 ⟨he, hb1⟩; obtain rfl := he; obtain ⟨hk1, hb1', hs1'⟩ := kept_ent hb1; obtain ⟨a0, a1⟩ := ent_cells hk1; have HB1 := Lib.hid hb1'; clear hb1 hb1')
      go_ret
      exact ⟨rfl, HB1.out⟩
  · have hs1 : decide (1000 < (s.size : Int)) = true := decide_eq_true (by omega)
    clear hn hc hm hr h
    go_enter Try.func5, Try.ntmps5
    go_wp2_with (go_at_call 10; (with_reducible refine (shown_any _).mono ?_); rintro e w1 ⟨he, hb1⟩; obtain rfl := he; obtain ⟨hk1, hb1', hs1'⟩ := kept_ent hb1; obtain ⟨a0, a1⟩ := ent_cells hk1; have HB1 := Lib.hid hb1'; clear hb1 hb1')
    go_ret
    exact ⟨rfl, HB1.out⟩

theorem adds_contract (H : Type) (enc : TypeId × Value → H) (W : World) (base : Nat) (args : Array Value) (ds gs : List (DataW H)) (before : List MemPlace)
    (hval : ∀ (j : Nat) t v, Try.f5.params[j]? = some t → args[j]? = some v → Value.okWide Try.prog W .any base t v)
    (hW : DataW.Whole enc Try.prog Try.f5.params.toList Rows.entryAddsSpec.vars false W args.toList ds gs before) :
    Calls Try.prog 5 args W fun e W' => ∃ v, e = .returned v ∧ Rows.entryAddsSpec.post enc Try.prog Try.f5 false true false false W args v W' := by
  have hW' := hW
  have hlt : ∀ x ∈ before, x.block < W.heap.size := fun x hx => hW.lt x hx
  obtain ⟨p, q, hA0, hV, rfl, _, _⟩ := hW
  have hA : DataW.TrodAll enc Try.prog W 0 (fun _ => true) true Try.f5.params.toList args.toList ds p := hA0
  rw [Try.params5] at hA hval
  obtain ⟨v0, vs0, d0, ds0, p0, q0, hargs, rfl, rfl, h0, r0⟩ := trodAll_cons hA
  obtain ⟨v1, vs1, d1, ds1, p1, q1, rfl, rfl, rfl, h1, r1⟩ := trodAll_cons r0
  obtain ⟨v2, vs2, d2, ds2, p2, q2, rfl, rfl, rfl, h2, r2⟩ := trodAll_cons r1
  obtain ⟨rfl, rfl, rfl⟩ := trodAll_nil r2
  obtain rfl : args = #[v0, v1, v2] := by cases args; simp_all
  obtain ⟨rfl, rfl⟩ := trodVars_none hV
  clear hA0
  obtain ⟨A0, n0, c0, l0, rfl, hn0, hc0, hm0, hr0⟩ := open_bytesL Try.underlying24 Try.underlying5 cells5 (hval 0 24 v0 rfl rfl) h0 (fun x hx => hlt x (by simp [hx]))
  unfold maxLen at hm0
  obtain ⟨s1, i1, rfl, hs1, hj1, hk1⟩ := open_ent (hval 1 23 v1 rfl rfl) h1
  unfold maxLen at hs1
  obtain ⟨s2, rfl, rfl, rfl, hs2⟩ := Go.ChangeMaps.open_string Try.underlying9 (hval 2 9 v2 rfl rfl) h2
  unfold maxLen at hs2
  refine (adds_walk l0 A0 n0 c0 s1 i1 s2 W hn0 hc0 (by unfold maxLen; omega) hr0).mono fun e W' ⟨he, hb⟩ => ?_
  subst he
  exact ⟨_, rfl, law_post laid (by kernel_rfl) Try.underlying4 (by rw [Try.params5]; decide +kernel) rfl hW' ⟨rfl, rfl, rfl⟩ hb⟩

set_option maxRecDepth 100000 in
theorem adds_lifted (os : Os) (started : os.Started) (H : Type) (enc : TypeId × Value → H) :
    ReturnsInHanded {} Try.checked os 5 .any (Rows.entryAddsSpec.pre6 enc Try.prog Try.f5 Rows.entryAddsRow.domain false) (Rows.entryAddsSpec.post enc Try.prog Try.f5 false true false false) := by
  refine returnsInHanded_of_change (C := Try.checked) own started (by kernel_rfl) Try.func5
    (ChangeSpec.witness6 (enc := enc) (C := Try.checked) false ⟨#[], #[.slice none 0 0, .agg #[.string .empty, .int .i64 0], .string .empty], []⟩ 8 (by kernel_rfl) (by kernel_rfl) (by kernel_rfl) (by kernel_rfl)) ?_
  intro W base args ds gs before hval hW _ _
  exact adds_contract H enc W base args ds gs before hval hW

/-- EntryAdds is true for every input. -/
theorem adds_holds : Rows.EntryAddsSaid :=
  OpenClaim.holds_of_wide 5 Try.f5 rfl rfl rfl rfl rfl rfl rfl ⟨rfl, rfl, rfl, rfl, rfl⟩ rfl rfl rfl rfl rfl (by kernel_rfl) Try.func5 (by kernel_rfl)
    (of_decide_eq_true (by kernel_rfl)) (by unfold Func.isWrapper; first | (rw [if_pos (by decide +kernel)]; kernel_rfl) | (rw [if_neg (by decide +kernel)]; exact ⟨rfl, rfl⟩))
    (fun os started H enc _ => adds_lifted os started H enc)
end Go.Proofs.Ytlopndnjkphdnaa
