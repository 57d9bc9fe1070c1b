/-
  What a crash leaves of what is known, on paper; sectors as they are read, one behind the other.
-/
import Derived.Test.YtaflpigpeckhoaaGreatQTopB
import Derived.Test.YtaflpigpeckhoaaGreatQTopA
import Derived.Test.YtaflpigpeckhoaaGreatQMetaX12
import Derived.Test.YtaflpigpeckhoaaGreatQMetaX3
import Derived.Test.YtaflpigpeckhoaaGreatQMetaO
namespace Go.Proofs.YtaflpigpeckhoaaGreat.Top
open Go.RowKit Meta Keep Pat Jrn

theorem vals_len {m : Meta.Met} (h : Right G0 m) : pats m ≠ [] := fun e => by
  have := pats_len h
  rw [e] at this
  cases this
/-- Behind a crash there is what was, or what was to be: as a whole. -/
theorem crashed {k k3 : Dk Sx} {m1 m2 : Meta.Met} {q' : Nat} {x : Int} (hR : Jrn.Rest 1 30 88 k 1) (h1 : Has (vw 1 30 k.safe) m1) (hm2 : Right G0 m2) (hD : Done 1 30 88 1 k k3 (pats m2) q' x) (t : Nat) :
    k3.un.length ≤ 30 ∧ ∃ mF, (mF = m2 ∨ (x ≠ 0 ∧ mF = m1)) ∧ ∃ q l, Img 1 30 88 (k3.crash t).safe q l ∧ q ≤ 2 ∧ Has (vw 1 30 (puts (k3.crash t).safe l)) mF := by
  have h2 : Has (vw 1 30 (puts k.safe (pats m2))) m2 := has_puts hR.img.len hm2
  rcases hD with ⟨_, _, g3, g4, _, _⟩ | ⟨_, g2, _, g4⟩
  · refine ⟨by rw [g3.un]; exact Nat.zero_le _, m2, .inl rfl, ?_⟩
    obtain ⟨q, l, i1, i2, i3⟩ := rest_fallen (N := 2) g3 (Nat.le_refl _) t
    exact ⟨q, l, i1, i2, by rw [i3, g4]; exact h2⟩
  · refine ⟨g4.un, ?_⟩
    obtain ⟨V, hV, q, l, i1, i2, i3⟩ := g4.safe t
    rcases hV with rfl | rfl
    · exact ⟨m1, .inr ⟨by rw [g2]; decide, rfl⟩, q, l, i1, i2, by rw [i3]; exact h1⟩
    · exact ⟨m2, .inl rfl, q, l, i1, i2, by rw [i3]; exact h2⟩
theorem has_read {k : Dk Sx} {q : Nat} {m : Meta.Met} (hR : Jrn.Rest 1 30 88 k q) (h : Has (vw 1 30 k.safe) m) {i : Nat} (hi : i < 9) {y : List UInt8} (hy : (secs m)[i]? = some y) : k.now[31 + i]? = some (sxOf y) := by
  rw [now_of_un hR.un, ← vw_out (F := 1) (n := 30) (S := k.safe) (.inr (by omega) : Out 1 30 (31 + i)), h i hi, List.getElem?_map, hy]
  rfl
/-- Sectors that were read, each in a block of its own. -/
structure SRow (u : World) (base : Nat) (v : Value) (L : List Sc) (l : List (List UInt8)) : Prop where
  len : L.length = l.length
  row : u.ownsRow base 33 1 v l.length (secsV L l)
  each : ∀ (i : Nat) (s : Sc) (b : List UInt8), L[i]? = some s → l[i]? = some b → ∃ g, s.A = some ⟨g, 0, none⟩ ∧ b.length ≤ s.c ∧ s.c ≤ maxLen ∧ Bk u g 93 (bytesV b)
section
variable {u u' : World} {base : Nat} {v : Value} {L : List Sc} {l : List (List UInt8)}
theorem SRow.nil (u : World) (base : Nat) : SRow u base (.slice none 0 0) [] [] := ⟨rfl, World.ownsRow_nil _ _ _ _, fun i s b h => by simp at h⟩
theorem SRow.below (h : SRow u base v L l) (hb : Below u.heap.size u u') : SRow u' base v L l :=
  ⟨h.len, own_below h.row hb, fun i s b h1 h2 => by
    obtain ⟨g, e1, e2, e3, e4⟩ := h.each i s b h1 h2
    exact ⟨g, e1, e2, e3, e4.below hb e4.lt⟩⟩
theorem SRow.at_ {A : Option Addr} {n c : Nat} (h : SRow u base (.slice A n c) L l) : n = l.length ∧ SecsAt u u.heap.size A L l := by
  obtain ⟨_, A', c', hv, hc, hm, hr⟩ := own_rd h.row
  injection hv with h1 h2 h3
  subst h1 h2 h3
  refine ⟨rfl, h.len, hr, fun i s b h1 h2 => ?_⟩
  obtain ⟨g, e1, e2, e3, e4⟩ := h.each i s b h1 h2
  rw [e1]
  have := e4.rd b.length 0
  rw [List.drop_zero, List.take_of_length_le (by rw [length_bytesV]; exact Nat.le_refl _)] at this
  exact ⟨this, e2, e3⟩
theorem SRow.slice (h : SRow u base v L l) : ∃ A c, v = .slice A l.length c ∧ l.length ≤ c := by
  obtain ⟨_, A, c, hv, hc, _⟩ := own_rd h.row
  exact ⟨A, c, hv, hc⟩
theorem SRow.push (h : SRow u base v L l) {v' : Value} {n : Nat} (S : Sc) (b : List UInt8) (hn : l.length = n) (hown : u'.ownsRow base 33 1 v' (n + 1) (secsV L l ++ [.slice S.A b.length S.c])) (hg : u.grownBy u' v.ownBlock) {g : Nat} (hS : S.A = some ⟨g, 0, none⟩) (hc : b.length ≤ S.c) (hm : S.c ≤ maxLen) (hb : Bk u g 93 (bytesV b)) : SRow u' base v' (L ++ [S]) (l ++ [b]) := by
  have hk : ∀ (g : Nat) (b : List UInt8), Bk u g 93 (bytesV b) → Bk u' g 93 (bytesV b) := fun g b hb => hb.grown hg (bk_ne hb h.row (by decide))
  refine ⟨by rw [List.length_append, List.length_append, h.len]; rfl, by rw [List.length_append, List.length_singleton, hn, secsV_snoc h.len]; exact hown, fun i s b' h1 h2 => ?_⟩
  rcases Nat.lt_or_ge i L.length with hi | hi
  · rw [List.getElem?_append_left hi] at h1
    rw [List.getElem?_append_left (by rw [← h.len]; exact hi)] at h2
    obtain ⟨g', e1, e2, e3, e4⟩ := h.each i s b' h1 h2
    exact ⟨g', e1, e2, e3, hk _ _ e4⟩
  · rw [List.getElem?_append_right hi] at h1
    rw [List.getElem?_append_right (by rw [← h.len]; exact hi), ← h.len] at h2
    have hz : i - L.length = 0 := by
      have := (List.getElem?_eq_some_iff.1 h1).1
      simp at this
      omega
    rw [hz] at h1 h2
    simp only [List.getElem?_cons_zero, Option.some.injEq] at h1 h2
    subst h1 h2
    exact ⟨g, hS, hc, hm, hk _ _ hb⟩
end
/-- append of a sector that was read. -/
theorem wpList_srow (w : World) {ops : Array Oper} {rest : List Oper} {o : Oper} {a : Act} {Q : Exit → Act → World → Prop} (hgd : o.guard = none) (s x : Operand)
    (ho : o.op = .call { callee := .builtin .append, args := #[s, x], argTypes := #[44, 44] })
    (base : Nat) (v : Value) (L : List Sc) (l : List (List UInt8)) (n : Nat) (hn : l.length = n) (hs : a.eval s = v) (hown : SRow w base v L l)
    (g1 : Nat) (S : Sc) (b : List UInt8) (hx : a.eval x = .slice (some ⟨g1, 0, none⟩) 1 1) (hc1 : w.cell? ⟨g1, 0, none⟩ = some (.slice S.A b.length S.c)) (g : Nat) (hS : S.A = some ⟨g, 0, none⟩) (hc : b.length ≤ S.c) (hm : S.c ≤ maxLen) (hb : Bk w g 93 (bytesV b)) (hlen : n ≤ 100000) (hbase : base ≤ w.heap.size)
    (h : ∀ v' w', SRow w' base v' (L ++ [S]) (l ++ [b]) → w.grownBy w' v.ownBlock → wpList Tryz.prog ops Q rest (a.put o.dst v') w') : wpList Tryz.prog ops Q (o :: rest) a w := by
  obtain ⟨i0, hi, hz0, hz1, hz2⟩ := info_parts info_bytes
  subst hn
  refine wpList_app w hgd s x 44 ho base 33 i0 _ 24 Tryz.underlying44 hi hz0 hz1 hz2 rfl v l.length _ hs hown.row (g1 + 1) (some ⟨g1, 0, none⟩) 1 1 [.slice S.A b.length S.c] hx rfl (.inr ⟨g1, 0, rfl, by omega, fun j u hu => ?_⟩) (fun u hu => by rw [List.mem_singleton.1 hu]; rfl) (by unfold maxLen; omega) (by omega) hbase ?_
  · cases j with
    | zero => simp only [List.getElem?_cons_zero, Option.some.injEq] at hu; subst hu; exact hc1
    | succ j => simp at hu
  · intro v' w' h1 h2
    exact h v' w' (hown.push S b rfl h1 h2 hS hc hm hb) h2
end Go.Proofs.YtaflpigpeckhoaaGreat.Top

/-
  What is known, committed by a journal, is, whenever the power fails and whichever writes are there, what it was, or what it was to be, as a whole: for any changes, any further ones (the first 20), any cut, any survival.
  No condition is set.
-/
namespace Go.Proofs.YtaflpigpeckhoaaGreat
open Go.RowKit Meta Keep Pat Jrn Top

theorem Top.new0 (u : World) : Calls Tryz.prog 5 #[.agg #[.int .i64 30, .int .i64 12, .int .i64 6, .int .i64 8]] u fun e w' => ∃ A0 k0 A1 k1 A2 k2 A3 k3, e = .returned (.tuple #[.agg #[.slice A0 16 k0, .slice A1 6 k1, .slice A2 64 k2, .slice A3 12 k3], .int .i64 0]) ∧ OwnM w' u.heap.size ⟨A0, k0, A1, k1, A2, k2, A3, k3⟩ (newM G0) ∧ Below u.heap.size u w' := by
  have := Meta.new_any G0 u
  rw [newP_yes valid0] at this
  refine this.mono ?_
  rintro e w' ⟨⟨A0, k0, A1, k1, A2, k2, A3, k3⟩, he, ho, hb⟩
  exact ⟨A0, k0, A1, k1, A2, k2, A3, k3, he, ho, hb⟩
structure Top.Like (m : Meta.Met) : Prop where
  r : Right G0 m
  o : Okm m
  l0 : m.rows.length = 16
  l1 : m.own.length = 6
  l2 : m.used.length = 64
  l3 : m.ino.length = 12
theorem Top.like_new : Like (newM G0) := ⟨newM_right valid0, newM_okm _, rfl, rfl, rfl, rfl⟩
theorem Top.Like.chg {m : Meta.Met} (h : Like m) (l : List Kn) : Like (chg m l) := by
  have hl := fold_lens (l.take 20) m
  exact ⟨chg_right h.r l, chg_okm h.o l, hl.1.trans h.l0, hl.2.1.trans h.l1, hl.2.2.1.trans h.l2, hl.2.2.2.trans h.l3⟩
theorem Top.img0 : Img 1 30 88 (Dk.fresh 88 zx).safe 0 [] :=
  ⟨rfl, ⟨zx, rfl, .inr ⟨rfl, rfl, rfl⟩⟩, loads_nil _ _, fun p hp => (by cases hp), by rw [length_stored]; decide⟩
theorem Top.done_ok {F n T q q' : Nat} {k k' : Dk Sx} {l : List (Nat × Sx)} {e : Int} (h : Done F n T q k k' l q' e) (hc : k.cut = false) : e = 0 ∧ q' = q + 1 ∧ Jrn.Rest F n T k' (q + 1) ∧ vw F n k'.safe = vw F n (puts k.safe l) := by
  rcases h with ⟨h1, h2, h3, h4, _⟩ | ⟨h1, _⟩
  · exact ⟨h1, h2, h3, h4⟩
  · rw [hc] at h1; cases h1
theorem Top.take0 {m : Meta.Met} (h : Like m) (A : Option Addr) (c : Nat) (L : List Sc) (u : World) (hs : SecsAt u u.heap.size A L (secs m)) (hc : 9 ≤ c) : Calls Tryz.prog 14 #[.agg #[.int .i64 30, .int .i64 12, .int .i64 6, .int .i64 8], .slice A 9 c] u fun e w' => ∃ A0 k0 A1 k1 A2 k2 A3 k3, e = .returned (.tuple #[.agg #[.slice A0 16 k0, .slice A1 6 k1, .slice A2 64 k2, .slice A3 12 k3], .int .i64 0]) ∧ OwnM w' u.heap.size ⟨A0, k0, A1, k1, A2, k2, A3, k3⟩ m ∧ Below u.heap.size u w' := by
  have := ptake_any G0 (secs m) A 9 c L u (secs_nine h.r) hs (by decide) hc
  rw [tak_secs h.r h.o] at this
  refine this.mono ?_
  rintro e w' ⟨⟨A0, k0, A1, k1, A2, k2, A3, k3⟩, he, ho, hb⟩
  exact ⟨A0, k0, A1, k1, A2, k2, A3, k3, by rw [he, ← h.l0, ← h.l1, ← h.l2, ← h.l3]; rfl, ho, hb⟩
theorem Top.same0 {m n : Meta.Met} (hm : Like m) (hn : Like n) {P1 P2 : Nat} (A0 A1 A2 A3 B0 B1 B2 B3 : Option Addr) (k0 k1 k2 k3 d0 d1 d2 d3 : Nat) (u : World) (h1 : OwnM u P1 ⟨A0, k0, A1, k1, A2, k2, A3, k3⟩ m) (h2 : OwnM u P2 ⟨B0, d0, B1, d1, B2, d2, B3, d3⟩ n) (gB : Nat) (hg : Bk u gB 25 [.int .i64 30, .int .i64 12, .int .i64 6, .int .i64 8]) (bb : Bool) (hbb : (secs m == secs n) = bb) :
    Calls Tryz.prog 15 #[.agg #[.slice A0 16 k0, .slice A1 6 k1, .slice A2 64 k2, .slice A3 12 k3], .agg #[.slice B0 16 d0, .slice B1 6 d1, .slice B2 64 d2, .slice B3 12 d3], .pointer (some ⟨gB, 0, none⟩)] u fun e w' => e = .returned (.bool bb) ∧ Below u.heap.size u w' := by
  subst hbb
  exact same_top m n hm.o hn.o hm.r hn.r A0 A1 A2 A3 B0 B1 B2 B3 16 k0 6 k1 64 k2 12 k3 d0 d1 d2 d3 u hm.l0 hm.l1 hm.l2 hm.l3 hn.l0 hn.l1 hn.l2 hn.l3 h1.lies h2.lies gB hg
theorem Top.beq_self (l : List (List UInt8)) : (l == l) = true := by simp
set_option maxRecDepth 100000 in
set_option maxHeartbeats 25600000 in
theorem top_walk (l more : List Kn) (hok : ∀ x ∈ l, x.Ok) (hok2 : ∀ x ∈ more, x.Ok) (LA MA : Option Addr) (ln lc mn mc : Nat) (hln : l.length = ln) (hmn : more.length = mn) (cut : Int) (th : Int) (hth : 0 ≤ th ∧ th ≤ 18446744073709551615) (w : World) (hr : Rd w w.heap.size LA (knV l)) (hr2 : Rd w w.heap.size MA (knV more)) :
    Calls Tryz.prog 3 #[.slice LA ln lc, .slice MA mn mc, .int .i64 cut, .int .u64 th] w fun e w' => e = .returned (.bool true) ∧ Below w.heap.size w w' := by
  obtain ⟨t, rfl⟩ := Int.eq_ofNat_of_zero_le hth.1
  have ht : t < 18446744073709551616 := by omega
  have HLK0 := Lib.hid Top.like_new
  have HLK1 := Lib.hid (HLK0.out.chg l)
  have HLK2 := Lib.hid (HLK1.out.chg more)
  have HR1 := Lib.hid hr
  have HR2 := Lib.hid hr2
  have HOK1 := Lib.hid hok
  have HOK2 := Lib.hid hok2
  have HLN := Lib.hid hln
  have HMN := Lib.hid hmn
  have HT := Lib.hid ht
  have HC1 : Hid (∀ (u : World), Below w.heap.size w u → ∀ (A0 A1 A2 A3 : Option Addr) (k0 k1 k2 k3 : Nat), OwnM u w.heap.size ⟨A0, k0, A1, k1, A2, k2, A3, k3⟩ (newM G0) → Calls Tryz.prog 9 #[.agg #[.int .i64 30, .int .i64 12, .int .i64 6, .int .i64 8], .agg #[.slice A0 16 k0, .slice A1 6 k1, .slice A2 64 k2, .slice A3 12 k3], .slice LA ln lc] u fun e w' => ∃ B0 d0 B1 d1 B2 d2 B3 d3, e = .returned (.tuple #[.agg #[.slice B0 16 d0, .slice B1 6 d1, .slice B2 64 d2, .slice B3 12 d3], .bool true]) ∧ OwnM w' u.heap.size ⟨B0, d0, B1, d1, B2, d2, B3, d3⟩ (chg (newM G0) l) ∧ Below u.heap.size u w') := Lib.hid (fun u hu A0 A1 A2 A3 k0 k1 k2 k3 hom =>
    change_any (newM G0) HLK0.out.o HLK0.out.r A0 A1 A2 A3 16 k0 6 k1 64 k2 12 k3 u rfl rfl rfl rfl hom.lies l HOK1.out LA ln lc HLN.out ((HR1.out.below hu).more hu.size))
  have HC2 : Hid (∀ (u : World), Below w.heap.size w u → ∀ (A0 A1 A2 A3 : Option Addr) (k0 k1 k2 k3 : Nat), OwnM u w.heap.size ⟨A0, k0, A1, k1, A2, k2, A3, k3⟩ (chg (newM G0) l) → Calls Tryz.prog 9 #[.agg #[.int .i64 30, .int .i64 12, .int .i64 6, .int .i64 8], .agg #[.slice A0 16 k0, .slice A1 6 k1, .slice A2 64 k2, .slice A3 12 k3], .slice MA mn mc] u fun e w' => ∃ B0 d0 B1 d1 B2 d2 B3 d3, e = .returned (.tuple #[.agg #[.slice B0 16 d0, .slice B1 6 d1, .slice B2 64 d2, .slice B3 12 d3], .bool true]) ∧ OwnM w' u.heap.size ⟨B0, d0, B1, d1, B2, d2, B3, d3⟩ (chg (chg (newM G0) l) more) ∧ Below u.heap.size u w') := Lib.hid (fun u hu A0 A1 A2 A3 k0 k1 k2 k3 hom =>
    change_any (chg (newM G0) l) HLK1.out.o HLK1.out.r A0 A1 A2 A3 16 k0 6 k1 64 k2 12 k3 u HLK1.out.l0 HLK1.out.l1 HLK1.out.l2 HLK1.out.l3 hom.lies more HOK2.out MA mn mc HMN.out ((HR2.out.below hu).more hu.size))
  have HNEW : Hid (∀ (u : World), Calls Tryz.prog 5 #[.agg #[.int .i64 30, .int .i64 12, .int .i64 6, .int .i64 8]] u fun e w' => ∃ A0 k0 A1 k1 A2 k2 A3 k3, e = .returned (.tuple #[.agg #[.slice A0 16 k0, .slice A1 6 k1, .slice A2 64 k2, .slice A3 12 k3], .int .i64 0]) ∧ OwnM w' u.heap.size ⟨A0, k0, A1, k1, A2, k2, A3, k3⟩ (newM G0) ∧ Below u.heap.size u w') := Lib.hid Top.new0
  clear hok hok2 hln hmn hr hr2 ht hth HR1 HR2 HOK1 HOK2 HLN HMN
  have HL1 : Hid (∀ (u : World) (A0 A1 A2 A3 : Option Addr) (k0 k1 k2 k3 : Nat) (gB pB : Nat), OwnM u w.heap.size ⟨A0, k0, A1, k1, A2, k2, A3, k3⟩ (chg (newM G0) l) → Bk u gB 25 [.int .i64 30, .int .i64 12, .int .i64 6, .int .i64 8] → Bk u pB 28 [.int .i64 1, .int .i64 31, .int .i64 32, .int .i64 33, .int .i64 34, .int .i64 40, .int .i64 88] → Calls Tryz.prog 7 #[.agg #[.slice A0 16 k0, .slice A1 6 k1, .slice A2 64 k2, .slice A3 12 k3], .pointer (some ⟨gB, 0, none⟩), .pointer (some ⟨pB, 0, none⟩)] u fun e w' => ∃ A c P, e = .returned (.slice A 9 c) ∧ PatsOwn w' u.heap.size (.slice A 9 c) P ∧ P.map (fun p => (p.s, p.x)) = ints (pats (chg (newM G0) l)) ∧ Below u.heap.size u w') := Lib.hid (fun u A0 A1 A2 A3 k0 k1 k2 k3 gB pB hom hg hp =>
    lay_top _ HLK1.out.o HLK1.out.r A0 A1 A2 A3 16 k0 6 k1 64 k2 12 k3 u HLK1.out.l0 HLK1.out.l1 HLK1.out.l2 HLK1.out.l3 hom.lies gB pB hg hp)
  have HL2 : Hid (∀ (u : World) (A0 A1 A2 A3 : Option Addr) (k0 k1 k2 k3 : Nat) (gB pB : Nat), OwnM u w.heap.size ⟨A0, k0, A1, k1, A2, k2, A3, k3⟩ (chg (chg (newM G0) l) more) → Bk u gB 25 [.int .i64 30, .int .i64 12, .int .i64 6, .int .i64 8] → Bk u pB 28 [.int .i64 1, .int .i64 31, .int .i64 32, .int .i64 33, .int .i64 34, .int .i64 40, .int .i64 88] → Calls Tryz.prog 7 #[.agg #[.slice A0 16 k0, .slice A1 6 k1, .slice A2 64 k2, .slice A3 12 k3], .pointer (some ⟨gB, 0, none⟩), .pointer (some ⟨pB, 0, none⟩)] u fun e w' => ∃ A c P, e = .returned (.slice A 9 c) ∧ PatsOwn w' u.heap.size (.slice A 9 c) P ∧ P.map (fun p => (p.s, p.x)) = ints (pats (chg (chg (newM G0) l) more)) ∧ Below u.heap.size u w') := Lib.hid (fun u A0 A1 A2 A3 k0 k1 k2 k3 gB pB hom hg hp =>
    lay_top _ HLK2.out.o HLK2.out.r A0 A1 A2 A3 16 k0 6 k1 64 k2 12 k3 u HLK2.out.l0 HLK2.out.l1 HLK2.out.l2 HLK2.out.l3 hom.lies gB pB hg hp)
  generalize chg (chg (newM G0) l) more = m2 at *
  generalize chg (newM G0) l = m1 at *
  generalize newM G0 = m0 at *
  have HB := Lib.hid (Below.refl w.heap.size w)
  have HOPEN : Hid (∀ (u : World) (S : Nat → Prop) (b q : Nat) (k : Dk Sx) (l : List (Nat × Sx)), DO w.heap.size u S b k → w.heap.size ≤ u.heap.size → Img 1 30 88 k.safe q l → k.un = [] → k.dead = false → k.cut = false → q < 18446744073709551616 → Calls Tryz.prog 6 #[.pointer (some ⟨b, 0, none⟩), .int .i64 1, .int .i64 30] u fun e w' => ∃ (bj : Nat) (S' : Nat → Prop) (k' : Dk Sx), e = .returned (.tuple #[.pointer (some ⟨bj, 0, none⟩), .int .i64 (l.length : Int), .int .i64 0]) ∧ DJ w.heap.size w' S' bj b 1 30 q k' ∧ Jrn.Rest 1 30 88 k' q ∧ vw 1 30 k'.safe = vw 1 30 (puts k.safe l) ∧ k'.cut = false ∧ Keep.Good u w' ∧ Below w.heap.size u w') := Lib.hid (fun u S b q k l h1 h2 h3 h4 h5 h6 h7 => jopen_any plc0 (by decide) (by decide) h1 h2 h3 h4 h5 h6 h7)
  go_enter Tryz.func3, Tryz.ntmps3
  go_upto_region 2 with fail
  have hal := al_below w (.cells #[.int .i64 30, .int .i64 12, .int .i64 6, .int .i64 8] 25)
  replace HB := Lib.hid (HB.out.trans (hal.mono HB.out.size))
  have HG := Lib.hid (Bk.new w 25 [.int .i64 30, .int .i64 12, .int .i64 6, .int .i64 8])
  clear hal
  generalize w.alloc (.cells #[.int .i64 30, .int .i64 12, .int .i64 6, .int .i64 8] 25) = U1 at *
  obtain ⟨g0, g1, g2, g3⟩ := four_cells HG.out
  go_upto_region 3 with (go_at_call 4; have HB0 := HB; (with_reducible refine (empty_any _).mono ?_); rintro e w1 ⟨b, S, he, hdo, hb⟩; obtain rfl := he; replace HB := Lib.hid (HB.out.trans (hb.mono HB.out.size)); replace HG := Lib.hid (HG.out.below hb HG.out.lt); have HD : Hid (DO w.heap.size w1 S b (Dk.fresh 88 zx)) := Lib.hid ⟨hdo.disk, fun i hi => Nat.le_trans HB0.out.size (hdo.lo i hi)⟩; clear hdo; clear g0 g1 g2 g3; clear hb; obtain ⟨g0, g1, g2, g3⟩ := four_cells HG.out)
  have hal := al_below w1 (.cells #[.int .i64 1, .int .i64 31, .int .i64 32, .int .i64 33, .int .i64 34, .int .i64 40, .int .i64 88] 28)
  replace HB := Lib.hid (HB.out.trans (hal.mono HB.out.size))
  replace HG := Lib.hid (HG.out.below hal HG.out.lt)
  replace HD := Lib.hid (HD.out.below hal)
  have HP := Lib.hid (Bk.new w1 28 [.int .i64 1, .int .i64 31, .int .i64 32, .int .i64 33, .int .i64 34, .int .i64 40, .int .i64 88])
  clear g0 g1 g2 g3
  clear hal
  generalize hzU2 : w1.heap.size = zU2 at *
  clear hzU2
  generalize w1.alloc (.cells #[.int .i64 1, .int .i64 31, .int .i64 32, .int .i64 33, .int .i64 34, .int .i64 40, .int .i64 88] 28) = U2 at *
  obtain ⟨l0, l1, l2, l3, l4, l5, l6⟩ := seven_cells HP.out
  obtain ⟨g0, g1, g2, g3⟩ := four_cells HG.out
  go_upto_region 4 with (go_at_call 5; have HB1 := HB; (with_reducible refine (HNEW.out _).mono ?_); rintro e w2 ⟨A0, k0, A1, k1, A2, k2, A3, k3, he, hom, hb⟩; obtain rfl := he; replace HB := Lib.hid (HB.out.trans (hb.mono HB.out.size)); replace HG := Lib.hid (HG.out.below hb HG.out.lt); replace HD := Lib.hid (HD.out.below hb); replace HP := Lib.hid (HP.out.below hb HP.out.lt); have HM := Lib.hid (hom.base (base' := w.heap.size) HB1.out.size); clear hom; clear g0 g1 g2 g3 l0 l1 l2 l3 l4 l5 l6; clear hb; obtain ⟨g0, g1, g2, g3⟩ := four_cells HG.out; obtain ⟨l0, l1, l2, l3, l4, l5, l6⟩ := seven_cells HP.out)
  have hal := al_below w2 (.cells #[.slice A0 16 k0, .slice A1 6 k1, .slice A2 64 k2, .slice A3 12 k3] 36)
  replace HB := Lib.hid (HB.out.trans (hal.mono HB.out.size))
  replace HG := Lib.hid (HG.out.below hal HG.out.lt)
  replace HD := Lib.hid (HD.out.below hal)
  replace HP := Lib.hid (HP.out.below hal HP.out.lt)
  replace HM := Lib.hid (HM.out.below hal)
  have HMB := Lib.hid (Bk.new w2 36 [.slice A0 16 k0, .slice A1 6 k1, .slice A2 64 k2, .slice A3 12 k3])
  clear g0 g1 g2 g3 l0 l1 l2 l3 l4 l5 l6
  clear hal
  generalize hzU3 : w2.heap.size = zU3 at *
  clear hzU3
  generalize w2.alloc (.cells #[.slice A0 16 k0, .slice A1 6 k1, .slice A2 64 k2, .slice A3 12 k3] 36) = U3 at *
  obtain ⟨g0, g1, g2, g3⟩ := four_cells HG.out
  obtain ⟨l0, l1, l2, l3, l4, l5, l6⟩ := seven_cells HP.out
  obtain ⟨m0_, m1_, m2_, m3_⟩ := four_cells HMB.out
  go_upto_region 6 with fail
  go_upto_region 7 with (go_at_call 6; (with_reducible refine (HOPEN.out _ _ _ 0 _ [] HD.out HB.out.size Top.img0 rfl rfl rfl (by decide)).mono ?_); rintro e w3 ⟨bj, S1, k1_, he, hdj, hrs, hvw, hct, hgd, hb⟩; obtain rfl := he; replace HB := Lib.hid (HB.out.trans hb); replace HG := Lib.hid (hgd.bk HG.out); replace HP := Lib.hid (hgd.bk HP.out); replace HM := Lib.hid (hgd.met HM.out); replace HMB := Lib.hid (hgd.bk HMB.out); have HD1 := Lib.hid hdj; have HRS := Lib.hid hrs; have HCT := Lib.hid hct; clear HD hdj hrs hvw hct; clear g0 g1 g2 g3 l0 l1 l2 l3 l4 l5 l6 m0_ m1_ m2_ m3_; clear hb hgd; obtain ⟨g0, g1, g2, g3⟩ := four_cells HG.out; obtain ⟨l0, l1, l2, l3, l4, l5, l6⟩ := seven_cells HP.out; obtain ⟨m0_, m1_, m2_, m3_⟩ := four_cells HMB.out)
  go_upto_region 10 with fail
  go_upto_region 11 with (go_at_call 9; have HBx := HB; (with_reducible refine (HC1.out _ HB.out _ _ _ _ _ _ _ _ HM.out).mono ?_); rintro e w4 ⟨B0, d0, B1, d1, B2, d2, B3, d3, he, hom, hb⟩; obtain rfl := he; replace HB := Lib.hid (HB.out.trans (hb.mono HB.out.size)); replace HG := Lib.hid (HG.out.below hb HG.out.lt); replace HP := Lib.hid (HP.out.below hb HP.out.lt); replace HM := Lib.hid (HM.out.below hb); replace HMB := Lib.hid (HMB.out.below hb HMB.out.lt); replace HD1 := Lib.hid (HD1.out.below hb); have HO1 := Lib.hid (hom.base (base' := w.heap.size) HBx.out.size); clear hom; clear g0 g1 g2 g3 l0 l1 l2 l3 l4 l5 l6 m0_ m1_ m2_ m3_; clear hb; obtain ⟨g0, g1, g2, g3⟩ := four_cells HG.out; obtain ⟨l0, l1, l2, l3, l4, l5, l6⟩ := seven_cells HP.out; obtain ⟨m0_, m1_, m2_, m3_⟩ := four_cells HMB.out)
  clear HBx
  have hal := al_below w4 (.cells #[.slice B0 16 d0, .slice B1 6 d1, .slice B2 64 d2, .slice B3 12 d3] 36)
  replace HB := Lib.hid (HB.out.trans (hal.mono HB.out.size))
  replace HG := Lib.hid (HG.out.below hal HG.out.lt)
  replace HP := Lib.hid (HP.out.below hal HP.out.lt)
  replace HM := Lib.hid (HM.out.below hal)
  replace HMB := Lib.hid (HMB.out.below hal HMB.out.lt)
  replace HD1 := Lib.hid (HD1.out.below hal)
  replace HO1 := Lib.hid (HO1.out.below hal)
  have HB1_ := Lib.hid (Bk.new w4 36 [.slice B0 16 d0, .slice B1 6 d1, .slice B2 64 d2, .slice B3 12 d3])
  clear g0 g1 g2 g3 l0 l1 l2 l3 l4 l5 l6 m0_ m1_ m2_ m3_
  clear hal
  generalize hzU4 : w4.heap.size = zU4 at *
  clear hzU4
  generalize w4.alloc (.cells #[.slice B0 16 d0, .slice B1 6 d1, .slice B2 64 d2, .slice B3 12 d3] 36) = U4 at *
  obtain ⟨g0, g1, g2, g3⟩ := four_cells HG.out
  obtain ⟨l0, l1, l2, l3, l4, l5, l6⟩ := seven_cells HP.out
  obtain ⟨m0_, m1_, m2_, m3_⟩ := four_cells HMB.out
  obtain ⟨n0_, n1_, n2_, n3_⟩ := four_cells HB1_.out
  go_upto_region 12 with (go_at_call 9; have HBx := HB; (with_reducible refine (HC2.out _ HB.out _ _ _ _ _ _ _ _ HO1.out).mono ?_); rintro e w5 ⟨C0, f0, C1, f1, C2, f2, C3, f3, he, hom, hb⟩; obtain rfl := he; replace HB := Lib.hid (HB.out.trans (hb.mono HB.out.size)); replace HG := Lib.hid (HG.out.below hb HG.out.lt); replace HP := Lib.hid (HP.out.below hb HP.out.lt); replace HM := Lib.hid (HM.out.below hb); replace HMB := Lib.hid (HMB.out.below hb HMB.out.lt); replace HD1 := Lib.hid (HD1.out.below hb); replace HO1 := Lib.hid (HO1.out.below hb); replace HB1_ := Lib.hid (HB1_.out.below hb HB1_.out.lt); have HO2 := Lib.hid (hom.base (base' := w.heap.size) HBx.out.size); clear hom; clear g0 g1 g2 g3 l0 l1 l2 l3 l4 l5 l6 m0_ m1_ m2_ m3_ n0_ n1_ n2_ n3_; clear hb; obtain ⟨g0, g1, g2, g3⟩ := four_cells HG.out; obtain ⟨l0, l1, l2, l3, l4, l5, l6⟩ := seven_cells HP.out; obtain ⟨m0_, m1_, m2_, m3_⟩ := four_cells HMB.out; obtain ⟨n0_, n1_, n2_, n3_⟩ := four_cells HB1_.out)
  clear HBx
  have hal := al_below w5 (.cells #[.slice C0 16 f0, .slice C1 6 f1, .slice C2 64 f2, .slice C3 12 f3] 36)
  replace HB := Lib.hid (HB.out.trans (hal.mono HB.out.size))
  replace HG := Lib.hid (HG.out.below hal HG.out.lt)
  replace HP := Lib.hid (HP.out.below hal HP.out.lt)
  replace HM := Lib.hid (HM.out.below hal)
  replace HMB := Lib.hid (HMB.out.below hal HMB.out.lt)
  replace HD1 := Lib.hid (HD1.out.below hal)
  replace HO1 := Lib.hid (HO1.out.below hal)
  replace HB1_ := Lib.hid (HB1_.out.below hal HB1_.out.lt)
  replace HO2 := Lib.hid (HO2.out.below hal)
  have HB2_ := Lib.hid (Bk.new w5 36 [.slice C0 16 f0, .slice C1 6 f1, .slice C2 64 f2, .slice C3 12 f3])
  clear g0 g1 g2 g3 l0 l1 l2 l3 l4 l5 l6 m0_ m1_ m2_ m3_ n0_ n1_ n2_ n3_
  clear hal
  generalize hzU5 : w5.heap.size = zU5 at *
  clear hzU5
  generalize w5.alloc (.cells #[.slice C0 16 f0, .slice C1 6 f1, .slice C2 64 f2, .slice C3 12 f3] 36) = U5 at *
  obtain ⟨g0, g1, g2, g3⟩ := four_cells HG.out
  obtain ⟨l0, l1, l2, l3, l4, l5, l6⟩ := seven_cells HP.out
  obtain ⟨m0_, m1_, m2_, m3_⟩ := four_cells HMB.out
  obtain ⟨n0_, n1_, n2_, n3_⟩ := four_cells HB1_.out
  obtain ⟨o0_, o1_, o2_, o3_⟩ := four_cells HB2_.out
  go_upto_region 14 with (first
    | (go_at_call 7; have HLT := Lib.hid (fun i hi => HD1.out.disk.lt (i := i) hi); (with_reducible refine (HL1.out _ _ _ _ _ _ _ _ _ _ _ HO1.out HG.out HP.out).mono ?_); rintro e w6 ⟨LA2, lc2, P2, he, hpo, hpm, hb⟩; obtain rfl := he; replace HB := Lib.hid (HB.out.trans (hb.mono HB.out.size)); replace HG := Lib.hid (HG.out.below hb HG.out.lt); replace HP := Lib.hid (HP.out.below hb HP.out.lt); replace HM := Lib.hid (HM.out.below hb); replace HMB := Lib.hid (HMB.out.below hb HMB.out.lt); replace HD1 := Lib.hid (HD1.out.below hb); replace HO1 := Lib.hid (HO1.out.below hb); replace HB1_ := Lib.hid (HB1_.out.below hb HB1_.out.lt); replace HO2 := Lib.hid (HO2.out.below hb); replace HB2_ := Lib.hid (HB2_.out.below hb HB2_.out.lt); have HPO := Lib.hid hpo; have HPM := Lib.hid hpm; obtain ⟨hgp, hA9, hc9⟩ := hpo.first (by decide); have HC9 := Lib.hid hc9; clear hpo hpm hA9 hc9 hgp; clear g0 g1 g2 g3 l0 l1 l2 l3 l4 l5 l6 m0_ m1_ m2_ m3_ n0_ n1_ n2_ n3_ o0_ o1_ o2_ o3_; clear hb; obtain ⟨g0, g1, g2, g3⟩ := four_cells HG.out; obtain ⟨l0, l1, l2, l3, l4, l5, l6⟩ := seven_cells HP.out; obtain ⟨m0_, m1_, m2_, m3_⟩ := four_cells HMB.out; obtain ⟨n0_, n1_, n2_, n3_⟩ := four_cells HB1_.out; obtain ⟨o0_, o1_, o2_, o3_⟩ := four_cells HB2_.out)
    | (go_at_call 10; (with_reducible refine (jcommit_any plc0 (by decide) (by decide) HD1.out HB.out.size HRS.out (vals_len HLK1.out.r) (pats_vals HLK1.out.r) (pats_room HLK1.out.r) (by decide) (pats_len HLK1.out.r) HC9.out (HPO.out.pats HPM.out) HLT.out).mono ?_); rintro e w7 ⟨S2, k2_, q2, x2, he, hdj, hdn, hgd, hb⟩; obtain ⟨hx, hq, hrs2, hvw2⟩ := done_ok hdn HCT.out; subst hx hq; have HRS2 := Lib.hid hrs2; have HVW2 := Lib.hid hvw2; clear hdn hrs2 hvw2; obtain rfl := he; replace HB := Lib.hid (HB.out.trans hb); replace HG := Lib.hid (hgd.bk HG.out); replace HP := Lib.hid (hgd.bk HP.out); replace HM := Lib.hid (hgd.met HM.out); replace HMB := Lib.hid (hgd.bk HMB.out); replace HO1 := Lib.hid (hgd.met HO1.out); replace HB1_ := Lib.hid (hgd.bk HB1_.out); replace HO2 := Lib.hid (hgd.met HO2.out); replace HB2_ := Lib.hid (hgd.bk HB2_.out); have HD2 := Lib.hid hdj; clear HD1 HPO HPM HC9 HLT hdj; clear g0 g1 g2 g3 l0 l1 l2 l3 l4 l5 l6 m0_ m1_ m2_ m3_ n0_ n1_ n2_ n3_ o0_ o1_ o2_ o3_; clear hb hgd; obtain ⟨g0, g1, g2, g3⟩ := four_cells HG.out; obtain ⟨l0, l1, l2, l3, l4, l5, l6⟩ := seven_cells HP.out; obtain ⟨m0_, m1_, m2_, m3_⟩ := four_cells HMB.out; obtain ⟨n0_, n1_, n2_, n3_⟩ := four_cells HB1_.out; obtain ⟨o0_, o1_, o2_, o3_⟩ := four_cells HB2_.out))
  have HHAS : Hid (Has (vw 1 30 k2_.safe) m1) := Lib.hid (by rw [HVW2.out]; exact has_puts HRS.out.img.len HLK1.out.r)
  go_upto_region 15 with (go_at_call 11; (with_reducible refine (dcut_any HD2.out HB.out.size cut).mono ?_); rintro e w8 ⟨he, ⟨S3, hdj⟩, hgd, hb⟩; obtain rfl := he; replace HB := Lib.hid (HB.out.trans hb); replace HG := Lib.hid (hgd.bk HG.out); replace HP := Lib.hid (hgd.bk HP.out); replace HM := Lib.hid (hgd.met HM.out); replace HMB := Lib.hid (hgd.bk HMB.out); replace HO1 := Lib.hid (hgd.met HO1.out); replace HB1_ := Lib.hid (hgd.bk HB1_.out); replace HO2 := Lib.hid (hgd.met HO2.out); replace HB2_ := Lib.hid (hgd.bk HB2_.out); have HD3 := Lib.hid hdj; clear HD2 hdj; clear g0 g1 g2 g3 l0 l1 l2 l3 l4 l5 l6 m0_ m1_ m2_ m3_ n0_ n1_ n2_ n3_ o0_ o1_ o2_ o3_; clear hb hgd; obtain ⟨g0, g1, g2, g3⟩ := four_cells HG.out; obtain ⟨l0, l1, l2, l3, l4, l5, l6⟩ := seven_cells HP.out; obtain ⟨m0_, m1_, m2_, m3_⟩ := four_cells HMB.out; obtain ⟨n0_, n1_, n2_, n3_⟩ := four_cells HB1_.out; obtain ⟨o0_, o1_, o2_, o3_⟩ := four_cells HB2_.out)
  have HRS3 := Lib.hid (rest_cut HRS2.out cut).1
  have HHAS3 : Hid (Has (vw 1 30 (k2_.cutAt cut).safe) m1) := Lib.hid (by rw [(rest_cut HRS2.out cut).2]; exact HHAS.out)
  generalize k2_.cutAt cut = kc at *
  clear HHAS HRS2 HVW2 HRS HCT
  go_upto_region 16 with (first
    | (go_at_call 7; have HLT := Lib.hid (fun i hi => HD3.out.disk.lt (i := i) hi); (with_reducible refine (HL2.out _ _ _ _ _ _ _ _ _ _ _ HO2.out HG.out HP.out).mono ?_); rintro e w9 ⟨LA4, lc4, P4, he, hpo, hpm, hb⟩; obtain rfl := he; replace HB := Lib.hid (HB.out.trans (hb.mono HB.out.size)); replace HG := Lib.hid (HG.out.below hb HG.out.lt); replace HP := Lib.hid (HP.out.below hb HP.out.lt); replace HM := Lib.hid (HM.out.below hb); replace HMB := Lib.hid (HMB.out.below hb HMB.out.lt); replace HO1 := Lib.hid (HO1.out.below hb); replace HB1_ := Lib.hid (HB1_.out.below hb HB1_.out.lt); replace HO2 := Lib.hid (HO2.out.below hb); replace HB2_ := Lib.hid (HB2_.out.below hb HB2_.out.lt); replace HD3 := Lib.hid (HD3.out.below hb); have HPO := Lib.hid hpo; have HPM := Lib.hid hpm; obtain ⟨hgp, hA9, hc9⟩ := hpo.first (by decide); have HC9 := Lib.hid hc9; clear hpo hpm hA9 hc9 hgp; clear g0 g1 g2 g3 l0 l1 l2 l3 l4 l5 l6 m0_ m1_ m2_ m3_ n0_ n1_ n2_ n3_ o0_ o1_ o2_ o3_; clear hb; obtain ⟨g0, g1, g2, g3⟩ := four_cells HG.out; obtain ⟨l0, l1, l2, l3, l4, l5, l6⟩ := seven_cells HP.out; obtain ⟨m0_, m1_, m2_, m3_⟩ := four_cells HMB.out; obtain ⟨n0_, n1_, n2_, n3_⟩ := four_cells HB1_.out; obtain ⟨o0_, o1_, o2_, o3_⟩ := four_cells HB2_.out)
    | (go_at_call 10; (with_reducible refine (jcommit_any plc0 (by decide) (by decide) HD3.out HB.out.size HRS3.out (vals_len HLK2.out.r) (pats_vals HLK2.out.r) (pats_room HLK2.out.r) (by decide) (pats_len HLK2.out.r) HC9.out (HPO.out.pats HPM.out) HLT.out).mono ?_); rintro e w10 ⟨S4, k4_, q4, x4, he, hdj, hdn, hgd, hb⟩; have HDN := Lib.hid hdn; clear hdn; obtain rfl := he; replace HB := Lib.hid (HB.out.trans hb); replace HG := Lib.hid (hgd.bk HG.out); replace HP := Lib.hid (hgd.bk HP.out); replace HM := Lib.hid (hgd.met HM.out); replace HMB := Lib.hid (hgd.bk HMB.out); replace HO1 := Lib.hid (hgd.met HO1.out); replace HB1_ := Lib.hid (hgd.bk HB1_.out); replace HO2 := Lib.hid (hgd.met HO2.out); replace HB2_ := Lib.hid (hgd.bk HB2_.out); have HD4 := Lib.hid hdj; clear HD3 HPO HPM HC9 HLT hdj; clear g0 g1 g2 g3 l0 l1 l2 l3 l4 l5 l6 m0_ m1_ m2_ m3_ n0_ n1_ n2_ n3_ o0_ o1_ o2_ o3_; clear hb hgd; obtain ⟨g0, g1, g2, g3⟩ := four_cells HG.out; obtain ⟨l0, l1, l2, l3, l4, l5, l6⟩ := seven_cells HP.out; obtain ⟨m0_, m1_, m2_, m3_⟩ := four_cells HMB.out; obtain ⟨n0_, n1_, n2_, n3_⟩ := four_cells HB1_.out; obtain ⟨o0_, o1_, o2_, o3_⟩ := four_cells HB2_.out))
  obtain ⟨hun, mF, hmF, q5, lp, hI, hq5, hhas⟩ := crashed HRS3.out HHAS3.out HLK2.out.r HDN.out t
  have HUN : Hid (k4_.un.length ≤ 1073741824) := Lib.hid (by omega)
  have HMF := Lib.hid hmF
  have HI := Lib.hid hI
  have HQ5 : Hid (q5 < 18446744073709551616) := Lib.hid (by omega)
  have HHAS5 := Lib.hid hhas
  clear hun hmF hI hq5 hhas HRS3 HHAS3 HDN
  go_upto_region 17 with (go_at_call 12; (with_reducible refine (dcrash_any HD4.out.only HB.out.size HUN.out t HT.out).mono ?_); rintro e w11 ⟨he, ⟨S5, hdo⟩, hgd, hb⟩; obtain rfl := he; replace HB := Lib.hid (HB.out.trans hb); replace HG := Lib.hid (hgd.bk HG.out); replace HP := Lib.hid (hgd.bk HP.out); replace HM := Lib.hid (hgd.met HM.out); replace HMB := Lib.hid (hgd.bk HMB.out); replace HO1 := Lib.hid (hgd.met HO1.out); replace HB1_ := Lib.hid (hgd.bk HB1_.out); replace HO2 := Lib.hid (hgd.met HO2.out); replace HB2_ := Lib.hid (hgd.bk HB2_.out); have HD5 := Lib.hid hdo; clear HD4 hdo; clear g0 g1 g2 g3 l0 l1 l2 l3 l4 l5 l6 m0_ m1_ m2_ m3_ n0_ n1_ n2_ n3_ o0_ o1_ o2_ o3_; clear hb hgd; obtain ⟨g0, g1, g2, g3⟩ := four_cells HG.out; obtain ⟨l0, l1, l2, l3, l4, l5, l6⟩ := seven_cells HP.out; obtain ⟨m0_, m1_, m2_, m3_⟩ := four_cells HMB.out; obtain ⟨n0_, n1_, n2_, n3_⟩ := four_cells HB1_.out; obtain ⟨o0_, o1_, o2_, o3_⟩ := four_cells HB2_.out)
  go_upto_region 18 with (go_at_call 6; (with_reducible refine (HOPEN.out _ _ _ q5 _ lp HD5.out HB.out.size HI.out rfl rfl rfl HQ5.out).mono ?_); rintro e w12 ⟨bj2, S6, k6_, he, hdj, hrs, hvw, hct, hgd, hb⟩; obtain rfl := he; replace HB := Lib.hid (HB.out.trans hb); replace HG := Lib.hid (hgd.bk HG.out); replace HP := Lib.hid (hgd.bk HP.out); replace HM := Lib.hid (hgd.met HM.out); replace HMB := Lib.hid (hgd.bk HMB.out); replace HO1 := Lib.hid (hgd.met HO1.out); replace HB1_ := Lib.hid (hgd.bk HB1_.out); replace HO2 := Lib.hid (hgd.met HO2.out); replace HB2_ := Lib.hid (hgd.bk HB2_.out); have HD6 := Lib.hid hdj.only; have HRS6 := Lib.hid hrs; have HHAS6 : Hid (Has (vw 1 30 k6_.safe) mF) := Lib.hid (by rw [hvw]; exact HHAS5.out); clear HD5 hdj hrs hvw hct; clear g0 g1 g2 g3 l0 l1 l2 l3 l4 l5 l6 m0_ m1_ m2_ m3_ n0_ n1_ n2_ n3_ o0_ o1_ o2_ o3_; clear hb hgd; obtain ⟨g0, g1, g2, g3⟩ := four_cells HG.out; obtain ⟨l0, l1, l2, l3, l4, l5, l6⟩ := seven_cells HP.out; obtain ⟨m0_, m1_, m2_, m3_⟩ := four_cells HMB.out; obtain ⟨n0_, n1_, n2_, n3_⟩ := four_cells HB1_.out; obtain ⟨o0_, o1_, o2_, o3_⟩ := four_cells HB2_.out)
  clear HI HHAS5 HUN
  go_upto_region 21 with fail
  have HLKF : Hid (Like mF) := Lib.hid (by rcases HMF.out with h | ⟨_, h⟩ <;> first | (rw [h]; exact HLK2.out) | (rw [h]; exact HLK1.out))
  have H9 := Lib.hid (secs_nine HLKF.out.r)
  have H64 := Lib.hid (secs_64 HLKF.out.r HLKF.out.o)
  have HRDS : Hid (∀ (a : Nat) (y : List UInt8), a < 9 → (secs mF)[a]? = some y → k6_.now[31 + a]? = some (sxOf y)) := Lib.hid (fun a y ha hy => has_read HRS6.out HHAS6.out ha hy)
  have HDEAD := Lib.hid HRS6.out.dead
  clear HRS6 HHAS6
  go_wp2_with fail
  clear g0 g1 g2 g3 l0 l1 l2 l3 l4 l5 l6 m0_ m1_ m2_ m3_ n0_ n1_ n2_ n3_ o0_ o1_ o2_ o3_
  have HTK9 : Hid ((secs mF).take 9 = secs mF) := Lib.hid (List.take_of_length_le (by rw [H9.out]; exact Nat.le_refl _))
  obtain ⟨sm, hsm⟩ : ∃ sm, secs mF = sm := ⟨_, rfl⟩
  have HSM := Lib.hid hsm
  rw [hsm] at H9 H64 HRDS HTK9
  clear hsm
  go_loopw [25, 26, 27, 28] (fun sv iv _ _ wr => ∃ (a : Nat) (L : List Sc), iv = .int .i64 (31 + (a : Int)) ∧ a ≤ 9 ∧ Hid (Below w12.heap.size w12 wr) ∧ Hid (SRow wr w12.heap.size sv L (sm.take a))) (fun _ iv _ _ _ => 40 - (intOf iv).toNat)
  case atStart => exact ⟨0, [], rfl, Nat.zero_le _, Lib.hid (Below.refl _ _), Lib.hid (SRow.nil _ _)⟩
  case round =>
    obtain ⟨a, L, rfl, ha, HBR, HSR⟩ := hrel
    obtain ⟨l0, l1, l2, l3, l4, l5, l6⟩ := seven_cells (HP.out.below HBR.out HP.out.lt)
    by_cases hlt : a < 9
    · obtain ⟨y, hy⟩ : ∃ y, sm[a]? = some y := ⟨_, List.getElem?_eq_getElem (by rw [H9.out]; exact hlt)⟩
      have hy64 := H64.out y (List.mem_of_getElem? hy)
      have hrd := dread_any (HD6.out.below HBR.out) (HRDS.out a y hlt hy) HDEAD.out
      rw [show ((31 + a : Nat) : Int) = 31 + (a : Int) by omega, sxOf_b hy64] at hrd
      have HREAD := Lib.hid hrd
      have HTA : Hid (sm.take (a + 1) = sm.take a ++ [y]) := Lib.hid (by rw [List.take_add_one, hy]; rfl)
      have HTL : Hid ((sm.take a).length = a) := Lib.hid (by rw [List.length_take, H9.out]; omega)
      have HY := Lib.hid hy64
      have hlti : 31 + (a : Int) < 40 := by omega
      have hiw : IntKind.i64.wrap (31 + (a : Int) + 1) = 31 + ((a + 1 : Nat) : Int) := by rw [IntKind.wrap_i64]; omega
      clear hrd hy hy64
      go_upto_region 25 with (go_at_call 13; (with_reducible refine HREAD.out.mono ?_); rintro e wq ⟨he, hbk, hb⟩; obtain rfl := he; have HBR1 := Lib.hid (HBR.out.trans (hb.mono HBR.out.size)); have HSR1 := Lib.hid (HSR.out.below hb); have HBK := Lib.hid hbk; have HBQ := Lib.hid hbk.lt; clear hb hbk l0 l1 l2 l3 l4 l5 l6)
      have hal := al_below wq (.cells #[.slice (some ⟨wr.heap.size, 0, none⟩) 64 64] 33)
      have HSR2 := Lib.hid (HSR1.out.below hal)
      have HBR2 := Lib.hid (HBR1.out.trans (hal.mono HBR1.out.size))
      have HBK2 := Lib.hid (HBK.out.below hal HBQ.out)
      have HCC : Hid ((wq.alloc (.cells #[.slice (some ⟨wr.heap.size, 0, none⟩) 64 64] 33)).cell? ⟨wq.heap.size, 0, none⟩ = some (.slice (some ⟨wr.heap.size, 0, none⟩) y.length 64)) := Lib.hid (by rw [HY.out]; exact (Bk.new wq 33 [.slice (some ⟨wr.heap.size, 0, none⟩) 64 64]).cell 0)
      have HCP : Hid (y.length ≤ 64) := Lib.hid (by rw [HY.out]; exact Nat.le_refl _)
      have HMX : Hid (64 ≤ maxLen) := Lib.hid (by decide)
      have HA9 : Hid (a ≤ 100000) := Lib.hid (by omega)
      have HSQ := Lib.hid HBR2.out.size
      clear hal HSR1 HBR1 HBK HBQ HREAD HSR HBR
      go_wp2_with (at_builtin; refine wpList_srow _ rfl (.tmp 136) (.tmp 138) rfl w12.heap.size _ L (sm.take a) a HTL.out rfl HSR2.out wq.heap.size ⟨some ⟨wr.heap.size, 0, none⟩, 64⟩ y rfl HCC.out wr.heap.size rfl HCP.out HMX.out HBK2.out HA9.out HSQ.out ?_; intro v3 w3 hsr hgr; have HSR3 := Lib.hid hsr; have HBR3 := Lib.hid (HBR2.out.grown hgr HSQ.out (fun q hq => (HSR2.out.row.lt q hq).1)); clear hsr hgr)
      go_roundw
      case rel => exact ⟨a + 1, L ++ [⟨some ⟨wr.heap.size, 0, none⟩, 64⟩], by first | rfl | (congr 1), hlt, HBR3, by rw [HTA.out]; exact HSR3⟩
      case measure => simp [intOf]; omega
    · obtain rfl : 9 = a := by omega
      clear l0 l1 l2 l3 l4 l5 l6 hlt ha
      obtain ⟨A, c, hv, hc⟩ := HSR.out.slice
      rw [HTK9.out] at HSR
      rw [HTK9.out, H9.out] at hv hc
      subst hv
      have HC9 := Lib.hid hc
      have HSA : Hid (SecsAt wr wr.heap.size A L (secs mF)) := Lib.hid (by rw [HSM.out]; have h := HSR.out; rw [show Value.slice A 9 c = .slice A sm.length c by rw [H9.out]] at h; exact h.at_.2)
      clear hc HSR
      have hb := HBR.out
      replace HB := Lib.hid (HB.out.trans (hb.mono HB.out.size))
      replace HG := Lib.hid (HG.out.below hb HG.out.lt)
      replace HP := Lib.hid (HP.out.below hb HP.out.lt)
      replace HM := Lib.hid (HM.out.below hb)
      replace HMB := Lib.hid (HMB.out.below hb HMB.out.lt)
      replace HO1 := Lib.hid (HO1.out.below hb)
      replace HB1_ := Lib.hid (HB1_.out.below hb HB1_.out.lt)
      replace HO2 := Lib.hid (HO2.out.below hb)
      replace HB2_ := Lib.hid (HB2_.out.below hb HB2_.out.lt)
      replace HD6 := Lib.hid (HD6.out.below hb)
      clear hb HBR HD6
      generalize wr = wE at *
      obtain ⟨g0, g1, g2, g3⟩ := four_cells HG.out
      obtain ⟨l0, l1, l2, l3, l4, l5, l6⟩ := seven_cells HP.out
      obtain ⟨m0_, m1_, m2_, m3_⟩ := four_cells HMB.out
      obtain ⟨n0_, n1_, n2_, n3_⟩ := four_cells HB1_.out
      obtain ⟨o0_, o1_, o2_, o3_⟩ := four_cells HB2_.out
      go_upto_region 26 with fail
      go_upto_region 27 with (go_at_call 14; have HBx := HB; (with_reducible refine (Top.take0 HLKF.out _ _ _ _ HSA.out HC9.out).mono ?_); rintro e wF ⟨D0, h0, D1, h1, D2, h2, D3, h3, he, hom, hb⟩; obtain rfl := he; replace HB := Lib.hid (HB.out.trans (hb.mono HB.out.size)); replace HG := Lib.hid (HG.out.below hb HG.out.lt); replace HP := Lib.hid (HP.out.below hb HP.out.lt); replace HM := Lib.hid (HM.out.below hb); replace HMB := Lib.hid (HMB.out.below hb HMB.out.lt); replace HO1 := Lib.hid (HO1.out.below hb); replace HB1_ := Lib.hid (HB1_.out.below hb HB1_.out.lt); replace HO2 := Lib.hid (HO2.out.below hb); replace HB2_ := Lib.hid (HB2_.out.below hb HB2_.out.lt); have HOF := Lib.hid (hom.base (base' := w.heap.size) HBx.out.size); clear hom HSA; clear g0 g1 g2 g3 l0 l1 l2 l3 l4 l5 l6 m0_ m1_ m2_ m3_ n0_ n1_ n2_ n3_ o0_ o1_ o2_ o3_; clear hb; obtain ⟨g0, g1, g2, g3⟩ := four_cells HG.out; obtain ⟨l0, l1, l2, l3, l4, l5, l6⟩ := seven_cells HP.out; obtain ⟨m0_, m1_, m2_, m3_⟩ := four_cells HMB.out; obtain ⟨n0_, n1_, n2_, n3_⟩ := four_cells HB1_.out; obtain ⟨o0_, o1_, o2_, o3_⟩ := four_cells HB2_.out)
      clear HBx
      have hal := al_below wF (.cells #[.slice D0 16 h0, .slice D1 6 h1, .slice D2 64 h2, .slice D3 12 h3] 36)
      replace HB := Lib.hid (HB.out.trans (hal.mono HB.out.size))
      replace HG := Lib.hid (HG.out.below hal HG.out.lt)
      replace HP := Lib.hid (HP.out.below hal HP.out.lt)
      replace HM := Lib.hid (HM.out.below hal)
      replace HMB := Lib.hid (HMB.out.below hal HMB.out.lt)
      replace HO1 := Lib.hid (HO1.out.below hal)
      replace HB1_ := Lib.hid (HB1_.out.below hal HB1_.out.lt)
      replace HO2 := Lib.hid (HO2.out.below hal)
      replace HB2_ := Lib.hid (HB2_.out.below hal HB2_.out.lt)
      replace HOF := Lib.hid (HOF.out.below hal)
      have HFB := Lib.hid (Bk.new wF 36 [.slice D0 16 h0, .slice D1 6 h1, .slice D2 64 h2, .slice D3 12 h3])
      clear g0 g1 g2 g3 l0 l1 l2 l3 l4 l5 l6 m0_ m1_ m2_ m3_ n0_ n1_ n2_ n3_ o0_ o1_ o2_ o3_
      clear hal
      generalize hzU6 : wF.heap.size = zU6 at *
      clear hzU6
      generalize wF.alloc (.cells #[.slice D0 16 h0, .slice D1 6 h1, .slice D2 64 h2, .slice D3 12 h3] 36) = U6 at *
      obtain ⟨g0, g1, g2, g3⟩ := four_cells HG.out
      obtain ⟨l0, l1, l2, l3, l4, l5, l6⟩ := seven_cells HP.out
      obtain ⟨m0_, m1_, m2_, m3_⟩ := four_cells HMB.out
      obtain ⟨n0_, n1_, n2_, n3_⟩ := four_cells HB1_.out
      obtain ⟨o0_, o1_, o2_, o3_⟩ := four_cells HB2_.out
      obtain ⟨s0_, s1_, s2_, s3_⟩ := four_cells HFB.out
      go_upto_region 28 with fail
      have HE2 : Hid (mF = m2 → (secs mF == secs m2) = true) := Lib.hid (fun h => by rw [h]; exact Top.beq_self _)
      cases hbb : (secs mF == secs m2) with
      | true =>
        have HBB := Lib.hid hbb
        clear hbb
        go_wp2_with (first
          | (go_at_call 15; (with_reducible refine (Top.same0 HLKF.out HLK2.out _ _ _ _ _ _ _ _ _ _ _ _ _ _ _ _ _ HOF.out HO2.out _ HG.out true HBB.out).mono ?_); rintro e w14 ⟨he, hb⟩; obtain rfl := he; replace HB := Lib.hid (HB.out.trans (hb.mono HB.out.size)); replace HG := Lib.hid (HG.out.below hb HG.out.lt); replace HP := Lib.hid (HP.out.below hb HP.out.lt); replace HM := Lib.hid (HM.out.below hb); replace HMB := Lib.hid (HMB.out.below hb HMB.out.lt); replace HO1 := Lib.hid (HO1.out.below hb); replace HB1_ := Lib.hid (HB1_.out.below hb HB1_.out.lt); replace HO2 := Lib.hid (HO2.out.below hb); replace HB2_ := Lib.hid (HB2_.out.below hb HB2_.out.lt); replace HOF := Lib.hid (HOF.out.below hb); replace HFB := Lib.hid (HFB.out.below hb HFB.out.lt); clear g0 g1 g2 g3 l0 l1 l2 l3 l4 l5 l6 m0_ m1_ m2_ m3_ n0_ n1_ n2_ n3_ o0_ o1_ o2_ o3_ s0_ s1_ s2_ s3_; clear hb; obtain ⟨g0, g1, g2, g3⟩ := four_cells HG.out; obtain ⟨l0, l1, l2, l3, l4, l5, l6⟩ := seven_cells HP.out; obtain ⟨m0_, m1_, m2_, m3_⟩ := four_cells HMB.out; obtain ⟨n0_, n1_, n2_, n3_⟩ := four_cells HB1_.out; obtain ⟨o0_, o1_, o2_, o3_⟩ := four_cells HB2_.out; obtain ⟨s0_, s1_, s2_, s3_⟩ := four_cells HFB.out))
        go_ret
        exact ⟨rfl, HB.out⟩
      | false =>
        have HBB := Lib.hid hbb
        have hx4 : x4 ≠ 0 := by
          rcases HMF.out with h | ⟨h, _⟩
          · rw [HE2.out h] at hbb; cases hbb
          · exact h
        have HBC : Hid ((secs mF == secs m1) = true) := Lib.hid (by
          rcases HMF.out with h | ⟨_, h⟩
          · rw [HE2.out h] at hbb; cases hbb
          · rw [h]; exact Top.beq_self _)
        have hx5 : (x4 != 0) = true := by simp [hx4]
        clear hbb
        go_wp2_with (first
          | (go_at_call 15; (with_reducible refine (Top.same0 HLKF.out HLK2.out _ _ _ _ _ _ _ _ _ _ _ _ _ _ _ _ _ HOF.out HO2.out _ HG.out false HBB.out).mono ?_); rintro e w14 ⟨he, hb⟩; obtain rfl := he; replace HB := Lib.hid (HB.out.trans (hb.mono HB.out.size)); replace HG := Lib.hid (HG.out.below hb HG.out.lt); replace HP := Lib.hid (HP.out.below hb HP.out.lt); replace HM := Lib.hid (HM.out.below hb); replace HMB := Lib.hid (HMB.out.below hb HMB.out.lt); replace HO1 := Lib.hid (HO1.out.below hb); replace HB1_ := Lib.hid (HB1_.out.below hb HB1_.out.lt); replace HO2 := Lib.hid (HO2.out.below hb); replace HB2_ := Lib.hid (HB2_.out.below hb HB2_.out.lt); replace HOF := Lib.hid (HOF.out.below hb); replace HFB := Lib.hid (HFB.out.below hb HFB.out.lt); clear g0 g1 g2 g3 l0 l1 l2 l3 l4 l5 l6 m0_ m1_ m2_ m3_ n0_ n1_ n2_ n3_ o0_ o1_ o2_ o3_ s0_ s1_ s2_ s3_; clear hb; obtain ⟨g0, g1, g2, g3⟩ := four_cells HG.out; obtain ⟨l0, l1, l2, l3, l4, l5, l6⟩ := seven_cells HP.out; obtain ⟨m0_, m1_, m2_, m3_⟩ := four_cells HMB.out; obtain ⟨n0_, n1_, n2_, n3_⟩ := four_cells HB1_.out; obtain ⟨o0_, o1_, o2_, o3_⟩ := four_cells HB2_.out; obtain ⟨s0_, s1_, s2_, s3_⟩ := four_cells HFB.out)
          | (go_at_call 15; (with_reducible refine (Top.same0 HLKF.out HLK1.out _ _ _ _ _ _ _ _ _ _ _ _ _ _ _ _ _ HOF.out HO1.out _ HG.out true HBC.out).mono ?_); rintro e w15 ⟨he, hb⟩; obtain rfl := he; replace HB := Lib.hid (HB.out.trans (hb.mono HB.out.size)); replace HG := Lib.hid (HG.out.below hb HG.out.lt); replace HP := Lib.hid (HP.out.below hb HP.out.lt); replace HM := Lib.hid (HM.out.below hb); replace HMB := Lib.hid (HMB.out.below hb HMB.out.lt); replace HO1 := Lib.hid (HO1.out.below hb); replace HB1_ := Lib.hid (HB1_.out.below hb HB1_.out.lt); replace HO2 := Lib.hid (HO2.out.below hb); replace HB2_ := Lib.hid (HB2_.out.below hb HB2_.out.lt); replace HOF := Lib.hid (HOF.out.below hb); replace HFB := Lib.hid (HFB.out.below hb HFB.out.lt); clear g0 g1 g2 g3 l0 l1 l2 l3 l4 l5 l6 m0_ m1_ m2_ m3_ n0_ n1_ n2_ n3_ o0_ o1_ o2_ o3_ s0_ s1_ s2_ s3_; clear hb; obtain ⟨g0, g1, g2, g3⟩ := four_cells HG.out; obtain ⟨l0, l1, l2, l3, l4, l5, l6⟩ := seven_cells HP.out; obtain ⟨m0_, m1_, m2_, m3_⟩ := four_cells HMB.out; obtain ⟨n0_, n1_, n2_, n3_⟩ := four_cells HB1_.out; obtain ⟨o0_, o1_, o2_, o3_⟩ := four_cells HB2_.out; obtain ⟨s0_, s1_, s2_, s3_⟩ := four_cells HFB.out))
        go_ret
        exact ⟨rfl, HB.out⟩
end Go.Proofs.YtaflpigpeckhoaaGreat

/-
  Arguments: changes that came in.
-/
namespace Go.Proofs.YtaflpigpeckhoaaGreat.Top
open Go.RowKit Go.ChangeShapes Go.WideShapes Go.ChangeAt Go.Deep Go.Joins Meta

theorem cellsK : Tryz.prog.cellsOf 5 = 1 ∧ Tryz.prog.cellsOf 47 = 1 ∧ Tryz.prog.cellsOf 82 = 4 := by
  refine ⟨?_, ?_, ?_⟩ <;> kernel_rfl
theorem knV_flat (l : List Kn) : knV l = l.flatMap knC := rfl
section
variable {H : Type} {enc : TypeId × Value → H} {W : World}
set_option maxRecDepth 100000 in
theorem one_known (fuel : Nat) (cs : List Value) (d : DataW H) (p : List MemPlace) (hcl : cs.length = 4) (_hp : ∀ y ∈ p, y.block < W.heap.size) (h : DataW.trod enc Tryz.prog W 0 (fun _ => true) true fuel 82 cs = some (d, p)) : ∃ x : Kn, cs = knC x ∧ x.Ok := by
  obtain ⟨xs, n, _, hx, _, hlen, hf⟩ := DataW.trod_struct Tryz.underlying82 h
  obtain ⟨c0, c1, c2, c3, rfl⟩ : ∃ c0 c1 c2 c3, cs = [c0, c1, c2, c3] := by
    match cs, hcl with
    | [c0, c1, c2, c3], _ => exact ⟨c0, c1, c2, c3, rfl⟩
  obtain ⟨y0, y1, y2, y3, rfl⟩ : ∃ y0 y1 y2 y3, xs = [y0, y1, y2, y3] := by
    match xs, hlen with
    | [y0, y1, y2, y3], _ => exact ⟨y0, y1, y2, y3, rfl⟩
  have k5 := cellsK.1
  have k6 := cellsK.2.1
  have h0 : DataW.trod enc Tryz.prog W 0 (fun _ => true) true n 5 [c0] = some y0 := by simpa [k5] using hf 0 _ rfl
  have h1 : DataW.trod enc Tryz.prog W 0 (fun _ => true) true n 47 [c1] = some y1 := by simpa [k6] using hf 1 _ rfl
  have h2 : DataW.trod enc Tryz.prog W 0 (fun _ => true) true n 5 [c2] = some y2 := by simpa [k5] using hf 2 _ rfl
  have h3 : DataW.trod enc Tryz.prog W 0 (fun _ => true) true n 47 [c3] = some y3 := by simpa [k6] using hf 3 _ rfl
  obtain ⟨z0, e0, _, w0⟩ := DataW.trod_int Tryz.underlying5 h0
  obtain ⟨z1, e1, _, w1⟩ := DataW.trod_int Tryz.underlying47 h1
  obtain ⟨z2, e2, _, w2⟩ := DataW.trod_int Tryz.underlying5 h2
  obtain ⟨z3, e3, _, w3⟩ := DataW.trod_int Tryz.underlying47 h3
  obtain ⟨m0, rfl, b0⟩ := u8_nat w0
  obtain ⟨m1, rfl, b1⟩ := u16_nat w1
  obtain ⟨m2, rfl, b2⟩ := u8_nat w2
  obtain ⟨m3, rfl, b3⟩ := u16_nat w3
  cases e0; cases e1; cases e2; cases e3
  exact ⟨⟨m0, m1, m2, m3⟩, rfl, ⟨b0, b1, b2, b3⟩⟩
set_option maxRecDepth 100000 in
theorem open_known {base : Nat} {v : Value} {d : DataW H} {p : List MemPlace} (hval : Value.okWide Tryz.prog W .any base 22 v) (h : DataW.Trod enc Tryz.prog W 0 (fun _ => true) true 22 v d p) (hlt : ∀ x ∈ p, x.block < W.heap.size) :
    ∃ (A : Option Addr) (n c : Nat) (l : List Kn), v = .slice A n c ∧ l.length = n ∧ n ≤ c ∧ c ≤ maxLen ∧ Rd W W.heap.size A (knV l) ∧ ∀ x ∈ l, x.Ok := by
  obtain ⟨a1, len, cap, rfl⟩ := okWide_slice Tryz.underlying22 hval
  obtain ⟨fuel, hf⟩ := h
  obtain ⟨A, n, c, l, h1, h2, h3, h4, h5, h6, _⟩ := open_list Tryz.underlying22 cellsK.2.2 (by omega) knC ⟨0, 0, 0, 0⟩ Kn.Ok one_known hf hlt
  exact ⟨A, n, c, l, h1, h2, h3, h4, h5, h6⟩
end
end Go.Proofs.YtaflpigpeckhoaaGreat.Top

/-
  What is known, committed by a journal, is, whenever the power fails and whichever writes are there, what it was, or what it was to be, as a whole: for any changes, any further ones (the first 20), any cut, any survival.
  No condition is set.
-/
namespace Go.Proofs.YtaflpigpeckhoaaGreat
open Go.RowKit Go.ChangeShapes Go.WideShapes Go.ChangeAt Go.Deep Go.Joins Meta

set_option maxRecDepth 100000 in
theorem top_contract (H : Type) (enc : TypeId × Value → H) (W : World) (base : Nat) (args : Array Value) (ds gs : List (DataW H)) (before : List MemPlace)
    (hval : ∀ (j : Nat) t v, Tryz.f3.params[j]? = some t → args[j]? = some v → Value.okWide Tryz.prog W .any base t v)
    (hW : DataW.Whole enc Tryz.prog Tryz.f3.params.toList Rows.topKnownSpec.vars false W args.toList ds gs before) :
    Calls Tryz.prog 3 args W fun e W' => ∃ v, e = .returned v ∧ Rows.topKnownSpec.post enc Tryz.prog Tryz.f3 false true false false W args v W' := by
  have hW' := hW
  have hlt : ∀ x ∈ before, x.block < W.heap.size := fun x hx => hW.lt x hx
  obtain ⟨p, q, hA0, hV, rfl, _, _⟩ := hW
  have hA : DataW.TrodAll enc Tryz.prog W 0 (fun _ => true) true Tryz.f3.params.toList args.toList ds p := hA0
  rw [Tryz.params3] at hA hval
  obtain ⟨v0, vs0, d0, ds0, p0, q0, hargs, rfl, rfl, h0, r0⟩ := trodAll_cons hA
  obtain ⟨v1, vs1, d1, ds1, p1, q1, rfl, rfl, rfl, h1, r1⟩ := trodAll_cons r0
  obtain ⟨v2, vs2, d2, ds2, p2, q2, rfl, rfl, rfl, h2, r2⟩ := trodAll_cons r1
  obtain ⟨v3, vs3, d3, ds3, p3, q3, rfl, rfl, rfl, h3, r3⟩ := trodAll_cons r2
  obtain ⟨rfl, rfl, rfl⟩ := trodAll_nil r3
  obtain rfl : args = #[v0, v1, v2, v3] := by cases args; simp_all
  obtain ⟨rfl, rfl⟩ := trodVars_none hV
  clear hA0
  obtain ⟨A0, n0, c0, l0, rfl, hn0, hc0, hm0, hr0, ho0⟩ := Top.open_known (hval 0 22 v0 rfl rfl) h0 (fun x hx => hlt x (by simp [hx]))
  unfold maxLen at hm0
  obtain ⟨A1, n1, c1, l1, rfl, hn1, hc1, hm1, hr1, ho1⟩ := Top.open_known (hval 1 22 v1 rfl rfl) h1 (fun x hx => hlt x (by simp [hx]))
  unfold maxLen at hm1
  obtain ⟨a2, rfl, rfl, rfl, wa2⟩ := open_int Tryz.underlying3 (hval 2 3 v2 rfl rfl) h2
  have bd2 := bounds_i64 wa2
  obtain ⟨a3, rfl, rfl, rfl, wa3⟩ := open_int Tryz.underlying23 (hval 3 23 v3 rfl rfl) h3
  have bd3 := bounds_u64 wa3
  refine (top_walk l0 l1 ho0 ho1 A0 A1 n0 c0 n1 c1 hn0 hn1 a2 a3 (by omega) W hr0 hr1).mono fun e W' ⟨he, hb⟩ => ?_
  subst he
  exact ⟨_, rfl, law_post laid (by kernel_rfl) Tryz.underlying4 (by rw [Tryz.params3]; decide +kernel) rfl hW' ⟨rfl, rfl, rfl⟩ hb⟩

set_option maxRecDepth 100000 in
theorem top_lifted (os : Os) (started : os.Started) (H : Type) (enc : TypeId × Value → H) :
    ReturnsInHanded {} Tryz.checked os 3 .any (Rows.topKnownSpec.pre6 enc Tryz.prog Tryz.f3 Rows.topKnownRow.domain false) (Rows.topKnownSpec.post enc Tryz.prog Tryz.f3 false true false false) := by
  refine returnsInHanded_of_change (C := Tryz.checked) own started (by kernel_rfl) Tryz.func3
    (ChangeSpec.witness6 (enc := enc) (C := Tryz.checked) false ⟨#[], #[.slice none 0 0, .slice none 0 0, .int .i64 0, .int .u64 0], []⟩ 8 (by kernel_rfl) (by kernel_rfl) (by kernel_rfl) (by kernel_rfl)) ?_
  intro W base args ds gs before hval hW _ _
  exact top_contract H enc W base args ds gs before hval hW

/-- TopKnown is true for every input. -/
theorem top_holds : Rows.TopKnownSaid :=
  OpenClaim.holds_of_wide 3 Tryz.f3 rfl rfl rfl rfl rfl rfl rfl ⟨rfl, rfl, rfl, rfl, rfl⟩ rfl rfl rfl rfl rfl (by kernel_rfl) Tryz.func3 (by kernel_rfl)
    (of_decide_eq_true (by kernel_rfl)) (by unfold Func.isWrapper; first | (rw [if_pos (by decide +kernel)]; kernel_rfl) | (rw [if_neg (by decide +kernel)]; exact ⟨rfl, rfl⟩))
    (fun os started H enc _ => top_lifted os started H enc)
end Go.Proofs.YtaflpigpeckhoaaGreat
