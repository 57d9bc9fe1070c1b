/-
  Parse, by the program: a loop by goto between two labels.
-/
import Derived.Test.YthpppkkagepomaaEntryX2
import Derived.Test.YthpppkkagepomaaPathShelf
import Derived.Test.YthpppkkagepomaaPathB
import Derived.Test.YthpppkkagepomaaPathS
import Derived.Test.YthpppkkagepomaaPathG
import Derived.WalkMore
namespace Go.Proofs.Ythpppkkagepomaa.Path
open Go.RowKit Go.Proofs.Ythpppkkagepomaa.Entry

theorem info9 : (Try.prog.info? 9).map (fun i => (i.zero, i.size, i.bytes)) = some (some (.string .empty), 1, 16) := by kernel_rfl
/-- append onto an own row of strings. -/
theorem wpList_app9 (w : World) {ops : Array Oper} {rest : List Oper} {o : Oper} {a : Act} {Q : Exit → Act → World → Prop} (hgd : o.guard = none) (s x : Operand)
    (ho : o.op = .call { callee := .builtin .append, args := #[s, x], argTypes := #[22, 22] })
    (base : Nat) (v : Value) (n : Nat) (l : List (List UInt8)) (hs : a.eval s = v) (hown : w.ownsRow base 9 1 v n (strsV l))
    (B : Nat) (A : Option Addr) (m c : Nat) (k : List (List UInt8)) (hx : a.eval x = .slice A m c) (hm : k.length = m) (hr : Rd w B A (strsV k)) (h63 : n + m ≤ 1000000) (hbase : base ≤ w.heap.size)
    (h : ∀ v' w', w'.ownsRow base 9 1 v' (n + m) (strsV (l ++ k)) → w.grownBy w' v.ownBlock → wpList Try.prog ops Q rest (a.put o.dst v') w') : wpList Try.prog ops Q (o :: rest) a w := by
  obtain ⟨i0, hi, hz0, hz1, hz2⟩ := info_parts info9
  exact wpList_strs w hgd s x 22 ho base 9 i0 Try.underlying22 hi hz0 hz1 hz2 v n l hs hown B A m c k hx hm hr h63 hbase h
theorem rd_one (w : World) (t : ByteArray) (e : TypeId) : Rd (w.alloc (.cells #[.string t] e)) (w.heap.size + 1) (some ⟨w.heap.size, 0, none⟩) (strsV [t.data.toList]) := by
  refine .inr ⟨w.heap.size, 0, rfl, by omega, fun i u hu => ?_⟩
  rw [World.cell?_alloc_at _ _ _ _ rfl]
  cases i with
  | zero =>
    have e1 : strV t.data.toList = u := by simpa [strsV] using hu
    rw [strV_of] at e1
    rw [← e1]; rfl
  | succ i => simp [strsV] at hu
theorem part_data (s : ByteArray) (f p : Nat) : (s.extract f p).data.toList = (s.data.toList.drop f).take (p - f) := by
  rw [ByteArray.data_extract, Array.toList_extract, List.extract_eq_take_drop]
/-- A copy of a text. -/
theorem clone_any (s : ByteArray) (w : World) (hs : s.size ≤ 281474976710656) :
    Calls Try.prog 22 #[.string s] w fun e w' => e = .returned (.string s) ∧ Below w.heap.size w w' := by
  have HC : Hid (∀ w : World, Calls Try.prog 29 #[.string s] w fun e w' => e = .returned (.string s) ∧ Below w.heap.size w w') := fun w => Any.stringslite_Clone Try.laysM316 s w hs
  go_enter Try.func22, Try.ntmps22
  go_wp2_with (go_at_call 29; (with_reducible refine (HC.out _).mono ?_); rintro e w1 ⟨he, hb⟩; obtain rfl := he)
  go_ret
  exact ⟨rfl, hb⟩

/-- What a call hands back that answers with names: a row of its own, and OK or an error. -/
def HandsP (w : World) (r : List (List UInt8) × Nat) (e : Ending) (w' : World) : Prop :=
  ∃ v, e = .returned (.tuple #[v, .int .i64 (r.2 : Int)]) ∧ w'.ownsRow w.heap.size 9 1 v r.1.length (strsV r.1) ∧ Below w.heap.size w w'
theorem hands_none {w w' : World} {s : List UInt8} (h : parP s = none) (hb : Below w.heap.size w w') : HandsP w (parseP s) (.returned (.tuple #[.slice none 0 0, .int .i64 130])) w' := by
  rw [parse_none h]
  exact ⟨_, rfl, World.ownsRow_nil _ _ _ _, hb⟩
theorem hands_some {w w' : World} {s : List UInt8} {l : List (List UInt8)} {v : Value} (h : parP s = some l) (hv : w'.ownsRow w.heap.size 9 1 v l.length (strsV l)) (hb : Below w.heap.size w w') : HandsP w (parseP s) (.returned (.tuple #[v, .int .i64 0])) w' := by
  rw [parse_some h]
  exact ⟨_, rfl, hv, hb⟩

/-- What is held at a label. -/
structure Got (w : World) (L : List (List UInt8)) (v : Value) (w' : World) : Prop where
  own : w'.ownsRow w.heap.size 9 1 v L.length (strsV L)
  below : Below w.heap.size w w'
theorem Got.on {w w' w2 : World} {L : List (List UInt8)} {v : Value} (h : Got w L v w') (hb : Below w'.heap.size w' w2) : Got w L v w2 := ⟨own_below h.own hb, h.below.trans (hb.mono h.below.size)⟩
theorem Got.add {w w' w2 : World} {L : List (List UInt8)} {x : List UInt8} {v v' : Value} {o : Obj} (h : Got w L v w') (ho : w2.ownsRow w.heap.size 9 1 v' (L.length + 1) (strsV (L ++ [x]))) (hg : (w'.alloc o).grownBy w2 v.ownBlock) : Got w (L ++ [x]) v' w2 :=
  ⟨by rw [List.length_append, List.length_singleton]; exact ho, (h.below.alloc h.below.size _).grown hg (by simp; have := h.below.size; omega) (fun k hk => (h.own.lt k hk).1)⟩
theorem Got.slice {w w' : World} {L : List (List UInt8)} {v : Value} (h : Got w L v w') : ∃ A c, v = .slice A L.length c := by
  obtain ⟨_, A, c, hv, _⟩ := own_rd h.own
  exact ⟨A, c, hv⟩

/-- At the label of a slash: so much is read. -/
def AtSlash (w : World) (s : ByteArray) (a : Act) (w' : World) : Prop :=
  ∃ (p : Nat) (L : List (List UInt8)) (v u6 u7 u8 u9 u10 u11 u12 u13 u14 u15 u16 u17 u18 u19 u20 u21 u22 u23 u24 u25 u26 u27 u28 u29 u30 u31 u32 u33 u34 u35 u36 u37 u38 u39 u40 u41 u42 u43 u44 u45 u46 u47 u48 u49 u50 u51 u52 u53 u54 u55 u56 u57 : Value), a = { tmps := #[.string s, undef, .slice none 0 0, .int .i64 0, v, .int .i64 (p : Int), u6, u7, u8, u9, u10, u11, u12, u13, u14, u15, u16, u17, u18, u19, u20, u21, u22, u23, u24, u25, u26, u27, u28, u29, u30, u31, u32, u33, u34, u35, u36, u37, u38, u39, u40, u41, u42, u43, u44, u45, u46, u47, u48, u49, u50, u51, u52, u53, u54, u55, u56, u57], defers := [] } ∧ AtS s.data.toList p L ∧ Got w L v w'
/-- At the label of a name that began at f. -/
def AtName (w : World) (s : ByteArray) (a : Act) (w' : World) : Prop :=
  ∃ (f p : Nat) (L : List (List UInt8)) (v u7 u8 u9 u10 u11 u12 u13 u14 u15 u16 u17 u18 u19 u20 u21 u22 u23 u24 u25 u26 u27 u28 u29 u30 u31 u32 u33 u34 u35 u36 u37 u38 u39 u40 u41 u42 u43 u44 u45 u46 u47 u48 u49 u50 u51 u52 u53 u54 u55 u56 u57 : Value), a = { tmps := #[.string s, undef, .slice none 0 0, .int .i64 0, v, .int .i64 (p : Int), .int .i64 (f : Int), u7, u8, u9, u10, u11, u12, u13, u14, u15, u16, u17, u18, u19, u20, u21, u22, u23, u24, u25, u26, u27, u28, u29, u30, u31, u32, u33, u34, u35, u36, u37, u38, u39, u40, u41, u42, u43, u44, u45, u46, u47, u48, u49, u50, u51, u52, u53, u54, u55, u56, u57], defers := [] } ∧ AtN s.data.toList f p L ∧ Got w L v w'
set_option maxRecDepth 100000 in
set_option maxHeartbeats 3200000 in
theorem parse_in (s : ByteArray) (w : World) (hs : s.size ≤ 9223372036854775807) (i1 : (s.toList == [47]) = false) :
    Calls Try.prog 9 #[.string s] w fun e w' => HandsP w (parseP s.data.toList) e w' := by
  have hS : s.data.toList ≠ [47] := by
    intro h
    rw [ByteArray.toList_eq, h] at i1
    cases i1
  have HS := Lib.hid hS
  clear hS
  go_enter Try.func9, Try.ntmps9
  go_wp2
  refine wp_scope_two 0 1 (AtSlash w s) (AtName w s) (fun a _ => 2 * (s.size - (intOf (a.tmps.getD 5 undef)).toNat)) (fun a _ => 2 * (s.size - (intOf (a.tmps.getD 5 undef)).toNat) + 1) rfl rfl ?_ ?_ ?_
  · have HA0 := Lib.hid (AtS.zero s.data.toList)
    have HG : Hid (Got w [] (.slice none 0 0) w) := Lib.hid ⟨World.ownsRow_nil _ _ _ _, Below.refl _ _⟩
    go_wp2
    go_step3
    by_cases hpn : 0 = s.size
    · have HN := Lib.hid (HA0.out.end (hpn.trans (Lib.size_eq s)))
      have hpe : ((0 : Int) == (s.size : Int)) = true := by simp; omega
      go_wp2
      try rw [jumps_ret]
      go_ret2
      exact hands_none HN.out HG.out.below
    · have hlt : 0 < s.size := by omega
      have hpe : ((0 : Int) == (s.size : Int)) = false := by simp; omega
      have hlti : (0 : Int) < (s.size : Int) := by omega
      obtain ⟨c, hc⟩ : ∃ c : UInt8, s[0]'hlt = c := ⟨_, rfl⟩
      have hcl := Lib.data_getElem? s 0 hlt
      rw [hc] at hcl
      have u1 := u8_is c 47
      have c1 : ((47 : UInt8).toNat : Int) = 47 := rfl
      rw [c1] at u1
      clear c1
      cases b1 : (c == 47)
      · have hne : c ≠ 47 := by intro h; rw [h] at b1; cases b1
        have HN := Lib.hid (HA0.out.other hcl hne)
        rw [b1] at u1
        have u2 : ((c.toNat : Int) != 47) = true := by rw [bne, u1]; rfl
        clear hcl hne b1
        go_wp2
        try rw [jumps_ret]
        go_ret2
        exact hands_none HN.out HG.out.below
      · have hc47 : c = 47 := by simpa using b1
        rw [hc47] at hcl
        rw [b1] at u1
        have u2 : ((c.toNat : Int) != 47) = false := by rw [bne, u1]; rfl
        have HA := Lib.hid (HA0.out.go hcl (by simp))
        clear hcl b1 hc47
        go_wp2
        go_step3
        obtain ⟨p, hq⟩ : ∃ p, 0 + 1 = p := ⟨_, rfl⟩
        have h1 : Value.int IntKind.i64 1 = Value.int IntKind.i64 (p : Int) := by rw [← hq]; rfl
        rw [h1]
        rw [hq] at HA
        have hple : p ≤ s.size := by omega
        clear hq h1 hpe hlti u1 u2 hc HA0 hpn hlt
        by_cases hpq : p = s.size
        · have hlt : ¬ (p : Int) < (s.size : Int) := by omega
          have HPN := Lib.hid (hpq.trans (Lib.size_eq s))
          clear hpq
          have HN := Lib.hid (HA.out.bad HS.out (.inl HPN.out) (by rw [Nat.sub_self]; rfl))
          go_wp2_with (first | (go_at_call 21; (with_reducible refine (right_any ByteArray.empty _).mono ?_); rintro e w1 ⟨he, hb1⟩; obtain rfl := he; rw [show nameB ByteArray.empty.data.toList = false from rfl]))
          try rw [jumps_ret]
          go_ret2
          exact hands_none HN.out ((HG.out.on hb1).below)
        · have hlt : p < s.size := by omega
          have hlti : (p : Int) < (s.size : Int) := by omega
          obtain ⟨c, hc⟩ : ∃ c : UInt8, s[p]'hlt = c := ⟨_, rfl⟩
          have hcl := Lib.data_getElem? s p hlt
          rw [hc] at hcl
          have u1 := u8_is c 47
          have c1 : ((47 : UInt8).toNat : Int) = 47 := rfl
          rw [c1] at u1
          clear c1
          cases b1 : (c == 47)
          · have hne : c ≠ 47 := by intro h; rw [h] at b1; cases b1
            have HC := Lib.hid hcl
            have HA2 := Lib.hid (HA.out.char HC.out hne)
            rw [b1] at u1
            have u2 : ((c.toNat : Int) != 47) = true := by rw [bne, u1]; rfl
            clear hcl hne b1
            go_wp2
            go_step3
            exact .inr ⟨rfl, ⟨p, p + 1, _, _, _, _, _, _, _, _, _, _, _, _, _, _, _, _, _, _, _, _, _, _, _, _, _, _, _, _, _, _, _, _, _, _, _, _, _, _, _, _, _, _, _, _, _, _, _, _, _, _, _, _, _, rfl, HA2.out, HG.out⟩⟩
          · have hc47 : c = 47 := by simpa using b1
            rw [hc47] at hcl
            have HC := Lib.hid hcl
            rw [b1] at u1
            have u2 : ((c.toNat : Int) != 47) = false := by rw [bne, u1]; rfl
            clear hcl b1 hc47
            have HN := Lib.hid (HA.out.bad HS.out (.inr HC.out) (by rw [Nat.sub_self]; rfl))
            go_wp2_with (first | (go_at_call 21; (with_reducible refine (right_any ByteArray.empty _).mono ?_); rintro e w1 ⟨he, hb1⟩; obtain rfl := he; rw [show nameB ByteArray.empty.data.toList = false from rfl]))
            try rw [jumps_ret]
            go_ret2
            exact hands_none HN.out ((HG.out.on hb1).below)
  · rintro a wc ⟨p0, L, v, u6, u7, u8, u9, u10, u11, u12, u13, u14, u15, u16, u17, u18, u19, u20, u21, u22, u23, u24, u25, u26, u27, u28, u29, u30, u31, u32, u33, u34, u35, u36, u37, u38, u39, u40, u41, u42, u43, u44, u45, u46, u47, u48, u49, u50, u51, u52, u53, u54, u55, u56, u57, rfl, hA, hG⟩
    obtain ⟨A, c0, rfl⟩ := hG.slice
    have HA0 := Lib.hid hA
    have HG := Lib.hid hG
    have hple := hA.le
    rw [← Lib.size_eq] at hple
    clear hA hG
    by_cases hpn : p0 = s.size
    · have HN := Lib.hid (HA0.out.end (hpn.trans (Lib.size_eq s)))
      have hpe : ((p0 : Int) == (s.size : Int)) = true := by simp; omega
      go_wp2
      try rw [jumps_ret]
      go_ret2
      exact hands_none HN.out HG.out.below
    · have hlt : p0 < s.size := by omega
      have hpe : ((p0 : Int) == (s.size : Int)) = false := by simp; omega
      have hlti : (p0 : Int) < (s.size : Int) := by omega
      obtain ⟨c, hc⟩ : ∃ c : UInt8, s[p0]'hlt = c := ⟨_, rfl⟩
      have hcl := Lib.data_getElem? s p0 hlt
      rw [hc] at hcl
      have u1 := u8_is c 47
      have c1 : ((47 : UInt8).toNat : Int) = 47 := rfl
      rw [c1] at u1
      clear c1
      cases b1 : (c == 47)
      · have hne : c ≠ 47 := by intro h; rw [h] at b1; cases b1
        have HN := Lib.hid (HA0.out.other hcl hne)
        rw [b1] at u1
        have u2 : ((c.toNat : Int) != 47) = true := by rw [bne, u1]; rfl
        clear hcl hne b1
        go_wp2
        try rw [jumps_ret]
        go_ret2
        exact hands_none HN.out HG.out.below
      · have hc47 : c = 47 := by simpa using b1
        rw [hc47] at hcl
        rw [b1] at u1
        have u2 : ((c.toNat : Int) != 47) = false := by rw [bne, u1]; rfl
        by_cases hl : L.length = 16
        · have HN := Lib.hid (HA0.out.full HS.out hcl hl)
          have hle : ((L.length : Int) == 16) = true := by simp; omega
          clear hcl b1 hc47
          go_wp2
          try rw [jumps_ret]
          go_ret2
          exact hands_none HN.out HG.out.below
        · have hle : ((L.length : Int) == 16) = false := by simp; omega
          have HA := Lib.hid (HA0.out.go hcl hl)
          obtain ⟨p, hq⟩ : ∃ p, p0 + 1 = p := ⟨_, rfl⟩
          have hw0 : (p0 : Int) + 1 = ((p0 + 1 : Nat) : Int) := by omega
          clear hcl b1 hc47 hl
          go_wp2
          go_step3
          rw [hq] at HA
          have hpp : p0 < p := by omega
          have hple : p ≤ s.size := by omega
          clear hq hw0 hpe hlti hle u1 u2 hc HA0 hpn hlt
          by_cases hpq : p = s.size
          · have hlt : ¬ (p : Int) < (s.size : Int) := by omega
            have HPN := Lib.hid (hpq.trans (Lib.size_eq s))
            clear hpq
            have HN := Lib.hid (HA.out.bad HS.out (.inl HPN.out) (by rw [Nat.sub_self]; rfl))
            go_wp2_with (first | (go_at_call 21; (with_reducible refine (right_any ByteArray.empty _).mono ?_); rintro e w1 ⟨he, hb1⟩; obtain rfl := he; rw [show nameB ByteArray.empty.data.toList = false from rfl]))
            try rw [jumps_ret]
            go_ret2
            exact hands_none HN.out ((HG.out.on hb1).below)
          · have hlt : p < s.size := by omega
            have hlti : (p : Int) < (s.size : Int) := by omega
            obtain ⟨c, hc⟩ : ∃ c : UInt8, s[p]'hlt = c := ⟨_, rfl⟩
            have hcl := Lib.data_getElem? s p hlt
            rw [hc] at hcl
            have u1 := u8_is c 47
            have c1 : ((47 : UInt8).toNat : Int) = 47 := rfl
            rw [c1] at u1
            clear c1
            cases b1 : (c == 47)
            · have hne : c ≠ 47 := by intro h; rw [h] at b1; cases b1
              have HC := Lib.hid hcl
              have HA2 := Lib.hid (HA.out.char HC.out hne)
              rw [b1] at u1
              have u2 : ((c.toNat : Int) != 47) = true := by rw [bne, u1]; rfl
              clear hcl hne b1
              go_wp2
              go_step3
              exact .inr ⟨rfl, ⟨p, p + 1, _, _, _, _, _, _, _, _, _, _, _, _, _, _, _, _, _, _, _, _, _, _, _, _, _, _, _, _, _, _, _, _, _, _, _, _, _, _, _, _, _, _, _, _, _, _, _, _, _, _, _, _, _, rfl, HA2.out, HG.out⟩, by (simp [intOf]) <;> omega⟩
            · have hc47 : c = 47 := by simpa using b1
              rw [hc47] at hcl
              have HC := Lib.hid hcl
              rw [b1] at u1
              have u2 : ((c.toNat : Int) != 47) = false := by rw [bne, u1]; rfl
              clear hcl b1 hc47
              have HN := Lib.hid (HA.out.bad HS.out (.inr HC.out) (by rw [Nat.sub_self]; rfl))
              go_wp2_with (first | (go_at_call 21; (with_reducible refine (right_any ByteArray.empty _).mono ?_); rintro e w1 ⟨he, hb1⟩; obtain rfl := he; rw [show nameB ByteArray.empty.data.toList = false from rfl]))
              try rw [jumps_ret]
              go_ret2
              exact hands_none HN.out ((HG.out.on hb1).below)
  · rintro a wc ⟨f, p, L, v, u7, u8, u9, u10, u11, u12, u13, u14, u15, u16, u17, u18, u19, u20, u21, u22, u23, u24, u25, u26, u27, u28, u29, u30, u31, u32, u33, u34, u35, u36, u37, u38, u39, u40, u41, u42, u43, u44, u45, u46, u47, u48, u49, u50, u51, u52, u53, u54, u55, u56, u57, rfl, hA, hG⟩
    obtain ⟨A, c0, rfl⟩ := hG.slice
    have HA := Lib.hid hA
    have HG := Lib.hid hG
    have hple := hA.le
    have hfp := hA.fp
    rw [← Lib.size_eq] at hple
    clear hA hG
    by_cases hpq : p = s.size
    · have hlt : ¬ (p : Int) < (s.size : Int) := by omega
      have HPN := Lib.hid (hpq.trans (Lib.size_eq s))
      clear hpq
      have hnx := part_data s f p
      generalize hX : s.extract f p = X at *
      have hXl : X.size = X.data.toList.length := rfl
      cases hb : nameB X.data.toList
      · have HN := Lib.hid (HA.out.bad HS.out (.inl HPN.out) (by rw [← hnx]; exact hb))
        clear hnx hXl
        go_wp2_with (first | (go_at_call 21; (with_reducible refine (right_any X _).mono ?_); rintro e w1 ⟨he, hb1⟩; obtain rfl := he; rw [hb]))
        try rw [jumps_ret]
        go_ret2
        exact hands_none HN.out ((HG.out.on hb1).below)
      · have hX13 := (name_len hb).2
        have HNM := Lib.hid (by have := hb; rw [hnx] at this; exact this : nameB ((s.data.toList.drop f).take (p - f)) = true)
        have HX := Lib.hid hnx
        clear hnx
        have hXs : X.size ≤ 281474976710656 := by omega
        go_wp2_with (first
          | (go_at_call 21; (with_reducible refine (right_any X _).mono ?_); rintro e w1 ⟨he, hb1⟩; obtain rfl := he; rw [hb]; have HG1 := Lib.hid (HG.out.on hb1); clear hb1)
          | (go_at_call 22; (with_reducible refine (clone_any X _ hXs).mono ?_); rintro e w2 ⟨he, hb2⟩; obtain rfl := he; have HG2 := Lib.hid (HG1.out.on hb2); clear hb2)
          | (at_builtin; refine wpList_app9 _ rfl (.tmp 45) (.tmp 51) rfl w.heap.size _ L.length L rfl (HG2.out.own.alloc _) _ _ 1 1 [X.data.toList] rfl rfl (rd_one _ X 9) (by have := HA.out.len; omega) (by simp; have := HG2.out.below.size; omega) ?_))
        intro v3 w3 hown3 hg3
        have hG3 := HG2.out.add hown3 hg3
        rw [HX.out] at hG3
        have HG3 := Lib.hid hG3
        clear hown3 hg3 hG3
        go_wp2
        try rw [jumps_ret]
        go_ret2
        exact hands_some (HA.out.done HNM.out HPN.out) HG3.out.own HG3.out.below
    · have hlt : p < s.size := by omega
      have hlti : (p : Int) < (s.size : Int) := by omega
      obtain ⟨c, hc⟩ : ∃ c : UInt8, s[p]'hlt = c := ⟨_, rfl⟩
      have hcl := Lib.data_getElem? s p hlt
      rw [hc] at hcl
      have u1 := u8_is c 47
      have c1 : ((47 : UInt8).toNat : Int) = 47 := rfl
      rw [c1] at u1
      clear c1
      cases b1 : (c == 47)
      · have hne : c ≠ 47 := by intro h; rw [h] at b1; cases b1
        have HC := Lib.hid hcl
        have HA2 := Lib.hid (HA.out.char HC.out hne)
        rw [b1] at u1
        have u2 : ((c.toNat : Int) != 47) = true := by rw [bne, u1]; rfl
        clear hcl hne b1
        go_wp2
        go_step3
        exact .inr ⟨rfl, ⟨f, p + 1, _, _, _, _, _, _, _, _, _, _, _, _, _, _, _, _, _, _, _, _, _, _, _, _, _, _, _, _, _, _, _, _, _, _, _, _, _, _, _, _, _, _, _, _, _, _, _, _, _, _, _, _, _, rfl, HA2.out, HG.out⟩, by (simp [intOf]) <;> omega⟩
      · have hc47 : c = 47 := by simpa using b1
        rw [hc47] at hcl
        have HC := Lib.hid hcl
        rw [b1] at u1
        have u2 : ((c.toNat : Int) != 47) = false := by rw [bne, u1]; rfl
        clear hcl b1 hc47
        have hnx := part_data s f p
        generalize hX : s.extract f p = X at *
        have hXl : X.size = X.data.toList.length := rfl
        cases hb : nameB X.data.toList
        · have HN := Lib.hid (HA.out.bad HS.out (.inr HC.out) (by rw [← hnx]; exact hb))
          clear hnx hXl
          go_wp2_with (first | (go_at_call 21; (with_reducible refine (right_any X _).mono ?_); rintro e w1 ⟨he, hb1⟩; obtain rfl := he; rw [hb]))
          try rw [jumps_ret]
          go_ret2
          exact hands_none HN.out ((HG.out.on hb1).below)
        · have hX13 := (name_len hb).2
          have HNM := Lib.hid (by have := hb; rw [hnx] at this; exact this : nameB ((s.data.toList.drop f).take (p - f)) = true)
          have HX := Lib.hid hnx
          clear hnx
          have hXs : X.size ≤ 281474976710656 := by omega
          go_wp2_with (first
            | (go_at_call 21; (with_reducible refine (right_any X _).mono ?_); rintro e w1 ⟨he, hb1⟩; obtain rfl := he; rw [hb]; have HG1 := Lib.hid (HG.out.on hb1); clear hb1)
            | (go_at_call 22; (with_reducible refine (clone_any X _ hXs).mono ?_); rintro e w2 ⟨he, hb2⟩; obtain rfl := he; have HG2 := Lib.hid (HG1.out.on hb2); clear hb2)
            | (at_builtin; refine wpList_app9 _ rfl (.tmp 45) (.tmp 51) rfl w.heap.size _ L.length L rfl (HG2.out.own.alloc _) _ _ 1 1 [X.data.toList] rfl rfl (rd_one _ X 9) (by have := HA.out.len; omega) (by simp; have := HG2.out.below.size; omega) ?_))
          intro v3 w3 hown3 hg3
          have hG3 := HG2.out.add hown3 hg3
          rw [HX.out] at hG3
          have HG3 := Lib.hid hG3
          clear hown3 hg3 hG3
          go_wp2
          go_step3
          exact .inl ⟨rfl, ⟨p, _, _, _, _, _, _, _, _, _, _, _, _, _, _, _, _, _, _, _, _, _, _, _, _, _, _, _, _, _, _, _, _, _, _, _, _, _, _, _, _, _, _, _, _, _, _, _, _, _, _, _, _, _, _, rfl, HA.out.slash HNM.out HC.out, HG3.out⟩, by (simp [intOf]) <;> omega⟩
/-- Parse, of any text. -/
theorem parse_any (s : ByteArray) (w : World) (hs : s.size ≤ 9223372036854775807) :
    Calls Try.prog 9 #[.string s] w fun e w' => HandsP w (parseP s.data.toList) e w' := by
  cases i1 : (s.toList == [47])
  · exact parse_in s w hs i1
  · have h : s.data.toList = [47] := by rw [ByteArray.toList_eq] at i1; simpa using i1
    have HP := Lib.hid (show parP s.data.toList = some [] by rw [h]; exact parP_root)
    clear h
    go_enter Try.func9, Try.ntmps9
    go_wp2
    refine wp_scope_straight ?_
    go_wp2
    try simp only [Exit.straight]
    go_ret2
    exact hands_some HP.out (World.ownsRow_nil _ _ _ _) (Below.refl _ _)
end Go.Proofs.Ythpppkkagepomaa.Path
