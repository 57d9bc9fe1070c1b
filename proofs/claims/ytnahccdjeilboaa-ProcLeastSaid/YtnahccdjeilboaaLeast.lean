/-
  Statement ProcLeast: what is opened has the least number that is not open, eight may be open, and all that are open are held. No condition.
-/
import Derived.Test.YtnahccdjeilboaaK
namespace Go.Proofs.Ytnahccdjeilboaa.Prc
open Go.RowKit Go.ChangeShapes Go.WideShapes Go.ChangeAt Apart
attribute [local go_sem ↓] Go.wp_at_zero Go.wp_at_succ

/-! On paper. -/
theorem cnt_upd {t : Tb} {p : Nat} (hp : t.fil p = none) (x : Int × Int) (i : Int) (m : Nat) : cnt { t with fil := upd t.fil p (some x) } i m = cnt t i m + if p < m ∧ x.1 = i then 1 else 0 := by
  induction m with
  | zero =>
    rw [if_neg (fun h => absurd h.1 (Nat.not_lt_zero _))]
    rfl
  | succ m ih =>
    rw [cnt_succ, cnt_succ, ih]
    show _ + (if hit i (upd t.fil p (some x) m) = true then 1 else 0) = _
    by_cases h1 : m = p
    · subst h1
      have e1 : (if m < m ∧ x.1 = i then 1 else 0) = 0 := if_neg (fun h => absurd h.1 (Nat.lt_irrefl _))
      rw [upd_same, hp, hit_none, hit_some, e1]
      by_cases h2 : x.1 = i
      · have e2 : (if m < m + 1 ∧ x.1 = i then 1 else 0) = 1 := if_pos ⟨Nat.lt_succ_self _, h2⟩
        rw [e2]
        simp [h2]
      · have e2 : (if m < m + 1 ∧ x.1 = i then 1 else 0) = 0 := if_neg (fun h => h2 h.2)
        rw [e2]
        simp [h2]
    · rw [upd_other _ _ h1]
      have h3 : (p < m + 1 ∧ x.1 = i) ↔ (p < m ∧ x.1 = i) := by constructor <;> rintro ⟨a, b⟩ <;> exact ⟨by omega, b⟩
      by_cases h4 : p < m ∧ x.1 = i
      · rw [if_pos h4, if_pos (h3.2 h4)]
        omega
      · rw [if_neg h4, if_neg (fun h => h4 (h3.1 h))]
        omega
/-- What is asked in the end. -/
def kL (l : List UInt8) (k : Nat) : Nat := (l.getD k 0).toNat % 64
theorem kL_lt (l : List UInt8) (k : Nat) : kL l k < 64 := Nat.mod_lt _ (by omega)
/-- One process that has opened the first j. -/
def lt (l : List UInt8) (j : Nat) : Tb := ⟨1, fun _ => 0, fun k => if k < min j 8 then some ((kL l k : Int), 0) else none⟩
theorem lt_fil (l : List UInt8) (j k : Nat) : (lt l j).fil k = if k < min j 8 then some ((kL l k : Int), 0) else none := rfl
theorem lt_zero (l : List UInt8) : lt l 0 = empty 1 := by
  unfold lt empty
  simp
theorem lt_low (l : List UInt8) (j : Nat) : low (lt l j).fil 0 = min j 8 := by
  refine low_eq (by omega) (fun i hi h => ?_) (fun h => ?_)
  · rw [lt_fil, if_pos (by omega)] at h
    cases h
  · rw [lt_fil, if_neg (by omega)]
theorem lt_open {l : List UInt8} {j : Nat} : openA (lt l j) 0 (kL l j : Int) = if j < 8 then ((j : Int), 0, lt l (j + 1)) else (0, 5, lt l (j + 1)) := by
  have h1 : hasB (lt l j).n 0 = true := has_of (q := 0) Nat.zero_lt_one
  have h2 : inoB (kL l j : Int) = true := by
    have := kL_lt l j
    simp only [inoB, Bool.and_eq_true, decide_eq_true_eq]
    omega
  unfold openA
  rw [h1, h2]
  simp only [Bool.and_self, if_true]
  rw [show (0 : Int).toNat * 8 = 0 from rfl, lt_low]
  by_cases hj : j < 8
  · rw [if_pos (by omega), if_pos hj, show min j 8 = j by omega, Nat.zero_add]
    refine Prod.ext rfl (Prod.ext rfl ?_)
    have hf : upd (lt l j).fil j (some ((kL l j : Int), 0)) = (lt l (j + 1)).fil := by
      funext k
      rw [lt_fil]
      by_cases e : k = j
      · rw [e, upd_same, if_pos (by omega)]
      · rw [upd_other _ _ e, lt_fil]
        by_cases h3 : k < min j 8
        · rw [if_pos h3, if_pos (by omega)]
        · rw [if_neg h3, if_neg (by omega)]
    show ({ lt l j with fil := upd (lt l j).fil j (some ((kL l j : Int), 0)) } : Tb) = lt l (j + 1)
    rw [hf]
    rfl
  · rw [if_neg (by omega), if_neg hj]
    refine Prod.ext rfl (Prod.ext rfl ?_)
    unfold lt
    rw [show min j 8 = 8 by omega, show min (j + 1) 8 = 8 by omega]
/-- How many of each. -/
def fL (l : List UInt8) (j r : Nat) : Nat := holdsA (lt l j) (r : Int)
theorem fL_le (l : List UInt8) (j r : Nat) : fL l j r ≤ 64 := cnt_le _ _ _
theorem fL_succ (l : List UInt8) {j : Nat} (hj : j < 8) (r : Nat) : (if r = kL l j then fL l j (kL l j) + 1 else fL l j r) = fL l (j + 1) r := by
  have h1 : (lt l (j + 1)) = { lt l j with fil := upd (lt l j).fil j (some ((kL l j : Int), 0)) } := by
    have := congrArg (fun x => x.2.2) (lt_open (l := l) (j := j))
    rw [if_pos hj] at this
    have h2 : hasB (lt l j).n 0 = true := has_of (q := 0) Nat.zero_lt_one
    have h3 : inoB (kL l j : Int) = true := by
      have := kL_lt l j
      simp only [inoB, Bool.and_eq_true, decide_eq_true_eq]
      omega
    unfold openA at this
    rw [h2, h3] at this
    simp only [Bool.and_self, if_true] at this
    rw [show (0 : Int).toNat * 8 = 0 from rfl, lt_low, if_pos (by omega), show min j 8 = j by omega, Nat.zero_add] at this
    exact this.symm
  have h4 : (lt l j).fil j = none := by
    rw [lt_fil, if_neg (by omega)]
  unfold fL holdsA
  rw [h1, cnt_upd h4]
  by_cases e : r = kL l j
  · rw [if_pos e, if_pos ⟨by omega, by rw [e]⟩, e]
  · rw [if_neg e, if_neg (fun h => e (by have := h.2; simp at this; omega))]
    rfl
theorem fL_full (l : List UInt8) {j : Nat} (hj : 8 ≤ j) : lt l j = lt l (j + 1) := by
  unfold lt
  rw [show min j 8 = 8 by omega, show min (j + 1) 8 = 8 by omega]
theorem fL_zero (l : List UInt8) (r : Nat) : fL l 0 r = 0 := by
  unfold fL holdsA
  rw [lt_zero]
  have : ∀ m, cnt (empty 1) (r : Int) m = 0 := fun m => by
    induction m with
    | zero => rfl
    | succ m ih =>
      rw [cnt_succ, ih]
      rfl
  exact this 64
theorem St.as {W u : World} {b : Nat} {t t' : Tb} {C C' : Asr} (h : St W b t C u) (h1 : t = t') (h2 : C = C') : St W b t' C' u := h1 ▸ h2 ▸ h
theorem cells5 : Try.prog.cellsOf 5 = 1 := by kernel_rfl
theorem rem_at (w : World) (a b c : Nat) (hb : b ≠ 0) (h : (a : Int) % (b : Int) = (c : Int)) : (binOp .rem 3 (.int .i64 (a : Int)) (.int .i64 (b : Int))).run Try.prog w = .ok (.int .i64 (c : Int)) w := by
  simp [binOp, go_sem]
  rw [if_neg hb, Int.tmod_eq_emod_of_nonneg (by omega), h]
theorem wpList_rem {ops : Array Oper} {rest : List Oper} {o : Oper} {a : Go.Act} {w : World} {Q : Exit → Go.Act → World → Prop} (hgd : o.guard = none) (x y : Operand) (ho : o.op = .binOp .rem 3 x y 3) (vx vy v : Value) (hx : a.eval x = vx) (hy : a.eval y = vy)
    (hrun : (binOp .rem 3 vx vy).run Try.prog w = .ok v w) (h : wpList Try.prog ops Q rest (a.put o.dst v) w) : wpList Try.prog ops Q (o :: rest) a w := by
  refine wpList_plain hgd fun K hK => ?_
  unfold Oper.wp execOp
  have hg : (eqGuard BinOp.rem 3 x y vx vy).run Try.prog w = .ok () w := by simp [eqGuard]
  simp only [ho, Sem.run_bind, Sem.run_pure, Result.andThen_ok, hx, hy, hrun, hg]
  exact hK _ _ h
/-- One closed. -/
def lc (l : List UInt8) (j c : Nat) : Tb := { lt l j with fil := upd (lt l j).fil c none }
theorem lt_at {l : List UInt8} {j c : Nat} (hc : c < min j 8) : (lt l j).at_ 0 (c : Int) = some ((kL l c : Int), 0) := by
  unfold Tb.at_
  rw [show hasB (lt l j).n 0 = true from has_of (q := 0) Nat.zero_lt_one, fd_of (by omega)]
  show (lt l j).fil (ix 0 (c : Int)) = _
  rw [show ix 0 (c : Int) = c from by have := ix_nat 0 c; simpa using this]
  exact if_pos hc
theorem lt_close {l : List UInt8} {j c : Nat} (hc : c < min j 8) : closeA (lt l j) 0 (c : Int) = ((kL l c : Int), 0, lc l j c) := by
  unfold closeA
  rw [lt_at hc, show ix 0 (c : Int) = c from by have := ix_nat 0 c; simpa using this]
  rfl
theorem lc_close {l : List UInt8} {j c : Nat} (hc : c < min j 8) : closeA (lc l j c) 0 (c : Int) = (0, 2, lc l j c) := by
  have h1 : (lc l j c).at_ 0 (c : Int) = none := by
    unfold Tb.at_
    rw [show hasB (lc l j c).n 0 = true from has_of (q := 0) Nat.zero_lt_one, fd_of (by omega)]
    show (lc l j c).fil (ix 0 (c : Int)) = _
    rw [show ix 0 (c : Int) = c from by have := ix_nat 0 c; simpa using this]
    exact upd_same _ _ _
  unfold closeA
  rw [h1]
  have : (lc l j c).why 0 (c : Int) = 2 := by
    unfold Tb.why
    rw [h1, show hasB (lc l j c).n 0 = true from has_of (q := 0) Nat.zero_lt_one]
    rfl
  rw [this]
theorem lc_open {l : List UInt8} {j c : Nat} (hc : c < min j 8) : (openA (lc l j c) 0 9).1 = (c : Int) ∧ (openA (lc l j c) 0 9).2.1 = 0 := by
  have h1 : low (lc l j c).fil 0 = c := by
    refine low_eq (by omega) (fun i hi h => ?_) (fun h => ?_)
    · have h : upd (lt l j).fil c none (0 + i) = none := h
      rw [upd_other _ _ (by omega)] at h
      rw [lt_fil, if_pos (by omega)] at h
      cases h
    · rw [Nat.zero_add]
      exact upd_same _ _ _
  unfold openA
  rw [show hasB (lc l j c).n 0 = true from has_of (q := 0) Nat.zero_lt_one, show inoB 9 = true by decide]
  simp only [Bool.and_self, if_true]
  rw [show (0 : Int).toNat * 8 = 0 from rfl, h1, if_pos (by omega)]
  exact ⟨rfl, rfl⟩

theorem Cm.le {w : World} {g M M' : Nat} {f : Nat → Nat} (h : Cm w g f M) (hM : M ≤ M') : Cm w g f M' := by
  obtain ⟨a, t, n, h1, h2, h3⟩ := h
  exact ⟨a, t, n, h1, by omega, h3⟩
/-! Beside a table. -/
def CmA (g : Nat) (f : Nat → Nat) (M : Nat) : Asr := fun P w => Cm w g f M ∧ ∀ i, P i ↔ i = g
theorem cm_lcl (g : Nat) (f : Nat → Nat) (M : Nat) : Lcl (CmA g f M) := ⟨fun _ _ _ ⟨h1, h2⟩ hk _ => ⟨h1.keep (hk g ((h2 g).2 rfl)), h2⟩⟩
section
variable {W u w' : World} {b g M M' : Nat} {t : Tb} {f f' : Nat → Nat}
theorem St.cm (H : St W b t (CmA g f M) u) : Cm u g f M := by
  obtain ⟨P, h1⟩ := H.rest
  exact h1.1
theorem St.map (H : St W b t Emp u) : St W b t (CmA u.heap.size (fun _ => 0) 0) (u.alloc (.map #[] 0)) := by
  obtain ⟨h1, ⟨P, ⟨P1, P2, h2, -, h4, h5⟩, h6⟩, h7⟩ := H
  have hb : Below u.heap.size u (u.alloc (.map #[] 0)) := (Below.refl _ u).alloc (Nat.le_refl _) _
  have hl1 : ∀ i, P1 i → W.heap.size ≤ i ∧ i < u.heap.size := fun i hi => h6 i ((h4 i).2 (.inl hi))
  refine ⟨h1, ⟨fun i => P1 i ∨ i = u.heap.size, ⟨P1, fun i => i = u.heap.size, (tab_lcl b t).out _ _ _ h2 (fun i hi => hb.block i (hl1 i hi).2) hb.size, ⟨Cm.made u, fun i => Iff.rfl⟩, fun i => Iff.rfl, fun i hi hj => ?_⟩, fun i hi => ?_⟩, h7.trans (hb.mono h7.size)⟩
  · have hj : i = u.heap.size := hj
    have := (hl1 i hi).2
    omega
  · rcases hi with hi | rfl
    · exact ⟨(hl1 i hi).1, by have := (hl1 i hi).2; simp; omega⟩
    · exact ⟨h7.size, by simp⟩
theorem St.count (H : St W b t (CmA g f M) u) (hm : Cm w' g f' M') (hg : u.grownBy w' (some g)) : St W b t (CmA g f' M') w' := by
  obtain ⟨h1, h2, h3⟩ := H
  have := Now.next (A' := star (TabA b t) (CmA g f' M')) (w' := w') h2 h3.size (fun P g1 g2 => Nx.right (tab_lcl b t) g1 g2 (fun P1 g3 g4 => ⟨P1, ⟨hm, g3.2⟩, Kept.of_grown hg (fun k hk => by cases hk; exact (g3.2 _).2 rfl), fun i hi => ⟨.inl hi, Nat.lt_of_lt_of_le (g4 i hi) hg.size⟩⟩))
  exact ⟨h1, this.1, h3.trans this.2⟩
end
set_option maxRecDepth 100000 in
set_option maxHeartbeats 3200000 in
theorem least_walk (l : List UInt8) (A : Option Addr) (m c : Nat) (wh : Nat) (hwh : wh < 256) (w : World) (hn : l.length = m) (hc : m ≤ c) (hm : c ≤ 9223372036854775807) (hr : Rd w w.heap.size A (bytesV l)) :
    Calls Try.prog 5 #[.slice A m c, .int .u8 (wh : Int)] w fun e w' => e = .returned (.bool true) ∧ Below w.heap.size w w' := by
  obtain ⟨q, hq⟩ : ∃ q : Nat, q = min m 20 := ⟨_, rfl⟩
  have hqi : min (m : Int) 20 = (q : Int) := by omega
  have hqm : q ≤ m := by omega
  have hq20 : q ≤ 20 := by omega
  have Hr := Lib.hid hr
  have Hn := Lib.hid hn
  have Hqi := Lib.hid hqi
  have Hq := Lib.hid hq
  have HC : Hid (∀ u, Below w.heap.size w u → ∀ j, j < m → ∃ bb o, A = some ⟨bb, o, none⟩ ∧ bb < w.heap.size ∧ u.cell? ⟨bb, o + j, none⟩ = some (.int .u8 ((l.getD j 0).toNat : Int))) := fun u hb j hj => by
    rcases (Hr.out.below hb) with h | ⟨bb, o, h1, h2, h3⟩
    · have := congrArg List.length h
      rw [length_bytesV, List.length_nil] at this
      have h9 := Hn.out
      omega
    · refine ⟨bb, o, h1, h2, h3 j _ ?_⟩
      have h9 := Hn.out
      unfold bytesV
      rw [List.getElem?_map, List.getElem?_eq_getElem (by omega)]
      simp [List.getD_eq_getElem?_getD, List.getElem?_eq_getElem (show j < l.length by omega), byteV]
  clear hr hn hqi hq Hr
  go_enter Try.func5, Try.ntmps5
  go_wp2_with fail
  refine (shown_any _).mono ?_
  rintro e w1 ⟨rfl, hb⟩
  have L := Lib.hid hb
  clear hb
  go_wp2_with fail
  refine (st_new (n := 1) L.out (by omega) (by omega)).mono ?_
  rintro e w2 ⟨b, rfl, hx⟩
  rw [← lt_zero l] at hx
  have H2 := Lib.hid hx.map
  obtain ⟨g, hg⟩ : ∃ g, g = w2.heap.size := ⟨_, rfl⟩
  rw [← hg] at H2
  have Hg := Lib.hid hg
  clear hx L hg
  have hmm := @run_makeMap Try.prog
  go_wp2
  case' inl => rw [show (20 : Int) = (q : Int) by have := Hq.out; omega]
  case' inr => rw [show (m : Int) = (q : Int) by have := Hq.out; omega]
  case inl =>
    rw [← Hg.out]
    refine (fun (key : ∀ u, u = w2.alloc (.map #[] 0) → Code.wp Try.prog _ _ _ u) => key _ rfl) (fun u hu => ?_)
    rw [← hu] at H2
    have H3 : Hid (St w b (lt l 0) (CmA g (fL l 0) 0) u) := H2.out.as rfl (congrArg (fun f => CmA g f 0) (funext fun r => (fL_zero l r).symm))
    clear hu H2 Hg hmm
    go_loopw [8, 36] (fun nn i wr => ∃ j : Nat, j ≤ q ∧ i = .int .i64 (j : Int) ∧ nn = .int .i64 ((min j 8 : Nat) : Int) ∧ St w b (lt l j) (CmA g (fL l j) j) wr) (fun _ i _ => q - (intOf i).toNat)
    case atStart => exact ⟨0, Nat.zero_le _, rfl, rfl, H3.out⟩
    case round =>
      obtain ⟨j, hj, rfl, rfl, hS⟩ := hrel
      have HS := Lib.hid hS
      clear hS H3
      by_cases hlt : j < q
      · have hlt2 : (j : Int) < (q : Int) := by omega
        obtain ⟨bb, o, rfl, hbb, hcell⟩ := HC.out wr HS.out.bel j (by omega)
        obtain ⟨x, hx⟩ : ∃ x : Nat, x = (l.getD j 0).toNat := ⟨_, rfl⟩
        have hx256 : x < 256 := by rw [hx]; exact UInt8.toNat_lt _
        rw [← hx] at hcell
        obtain ⟨kj, hkj⟩ : ∃ kj, kj = kL l j := ⟨_, rfl⟩
        have hk1 : (x : Int) % 64 = (kj : Int) := by rw [hkj, hx]; unfold kL; omega
        have hk64 : kj < 64 := by rw [hkj]; exact kL_lt l j
        have HO := Lib.hid (St.open (cm_lcl ..) HS.out 0 (kL l j : Int))
        rw [lt_open, ← hkj] at HO
        have Hkj := Lib.hid hkj
        clear hx hkj
        by_cases hj8 : j < 8
        · rw [if_pos hj8] at HO
          have hm8 : min j 8 = j := by omega
          rw [hm8]
          have hn8 : ¬ ((j : Int) = 8) := by omega
          have H1 := Lib.hid (fL_succ l hj8)
          have hjb : (j : Int) < 8 := by omega
          clear hm8
          go_wp2_with fail
          refine HO.out.mono ?_
          rintro e w4 ⟨rfl, hx⟩
          have H4 := Lib.hid hx
          clear hx HO HS hcell
          have hlook := H4.out.cm.look (r := kj) (by omega)
          have hfl := fL_le l j kj
          go_wp2_with (refine wpList_cm rfl (.tmp 64) (.tmp 65) (.tmp 67) rfl H4.out.cm (by omega) (r := kj) (by omega) rfl rfl rfl (by omega) rfl rfl (fun w5 hq1 hq2 => ?_); have H5 : Hid (St w b (lt l (j + 1)) (CmA g (fL l (j + 1)) (j + 1)) w5) := Lib.hid ((H4.out.count hq1 hq2).as rfl (congrArg (fun f => CmA g f (j + 1)) (funext fun r => by rw [Hkj.out]; exact H1.out r))); clear hq1 hq2)
          have HQ : Hid (Cm w5.drew g (fL l (j + 1)) (j + 1) ∧ St w b (lt l (j + 1)) (CmA g (fL l (j + 1)) (j + 1)) w5.drew) := ⟨H5.out.cm.below (Below.refl _ w5).drew, H5.out.later (cm_lcl ..) (Below.refl _ w5).drew⟩
          clear H4 H1 hlook
          refine wp_region_held_drew (S := fun u => Cm u g (fL l (j + 1)) (j + 1) ∧ St w b (lt l (j + 1)) (CmA g (fL l (j + 1)) (j + 1)) u) (by kernel_rfl) HQ.out (fun hHeld => ?_)
          refine wpAnyH_take (i := 0) (oi := _) (v := ?_) (by simp only [List.getElem?_toArray, List.getElem?_cons_zero]; rfl) (by kernel_rfl) (by kernel_rfl) (by kernel_rfl) (by exact fun _ _ _ h => h) (Or.inl ⟨by rfl, ?hyha0⟩) (by assumption) ?reha0
          case hyha0 => (rintro u ⟨s0, -⟩; have s1 := s0.look (r := kj) (by omega); go_simp <;> with_reducible rfl)
          try simp only [Act.put, List.setIfInBounds_toArray, List.set_cons_zero, List.set_cons_succ]
          refine wpAnyH_take (i := 1) (oi := _) (v := ?_) (by simp only [List.getElem?_toArray, List.getElem?_cons_succ, List.getElem?_cons_zero]; rfl) (by kernel_rfl) (by kernel_rfl) (by kernel_rfl) (by exact fun _ _ _ h => h) (Or.inl ⟨by rfl, ?hyha1⟩) (by assumption) ?reha1
          case hyha1 => (rintro u ⟨s0, -⟩; have s1 := s0.look (r := kj) (by omega); go_simp <;> with_reducible rfl)
          try simp only [Act.put, List.setIfInBounds_toArray, List.set_cons_zero, List.set_cons_succ]
          refine wpAnyH_take (i := 3) (oi := _) (v := ?_) (by simp only [List.getElem?_toArray, List.getElem?_cons_succ, List.getElem?_cons_zero]; rfl) (by kernel_rfl) (by kernel_rfl) (by kernel_rfl) (by exact fun _ _ _ h => h) (Or.inl ⟨by rfl, ?hyha3⟩) (by assumption) ?reha3
          case hyha3 => (rintro u ⟨s0, -⟩; have s1 := s0.look (r := kj) (by omega); go_simp <;> with_reducible rfl)
          try simp only [Act.put, List.setIfInBounds_toArray, List.set_cons_zero, List.set_cons_succ]
          refine wpAnyH_take (i := 4) (oi := _) (v := ?_) (by simp only [List.getElem?_toArray, List.getElem?_cons_succ, List.getElem?_cons_zero]; rfl) (by kernel_rfl) (by kernel_rfl) (by kernel_rfl) (by exact fun _ _ _ h => h) (Or.inl ⟨by rfl, ?hyha4⟩) (by assumption) ?reha4
          case hyha4 => (rintro u ⟨s0, -⟩; have s1 := s0.look (r := kj) (by omega); go_simp <;> with_reducible rfl)
          try simp only [Act.put, List.setIfInBounds_toArray, List.set_cons_zero, List.set_cons_succ]
          refine wpAnyH_take (i := 5) (oi := _) (v := ?_) (by simp only [List.getElem?_toArray, List.getElem?_cons_succ, List.getElem?_cons_zero]; rfl) (by kernel_rfl) (by kernel_rfl) (by kernel_rfl) (by exact fun _ _ _ h => h) (Or.inl ⟨by rfl, ?hyha5⟩) (by assumption) ?reha5
          case hyha5 => (rintro u ⟨s0, -⟩; have s1 := s0.look (r := kj) (by omega); go_simp <;> with_reducible rfl)
          try simp only [Act.put, List.setIfInBounds_toArray, List.set_cons_zero, List.set_cons_succ]
          refine wpAnyH_ready (rs := [2]) (by kernel_rfl) (by simp) ?_
          refine AllReadyH.cons (o := _) (by simp only [List.getElem?_toArray, List.getElem?_cons_succ, List.getElem?_cons_zero]; rfl) (fun K hK => ?_) AllReadyH.nil
          go_simp
          refine (St.holds (cm_lcl ..) hHeld.2 (kj : Int)).mono ?_
          rintro e w10 ⟨rfl, hb, hx⟩
          rw [show holdsA (lt l (j + 1)) (kj : Int) = fL l (j + 1) kj from rfl]
          have HX : Hid (Cm w10 g (fL l (j + 1)) (j + 1) ∧ St w b (lt l (j + 1)) (CmA g (fL l (j + 1)) (j + 1)) w10) := ⟨hx.cm, hx⟩
          clear hb hHeld hx
          go_simp
          refine hK.out _ _ HX.out (fun hHeld => ?_)
          clear hK K HX
          try simp only [Act.put, List.setIfInBounds_toArray, List.set_cons_zero, List.set_cons_succ]
          refine wpAnyH_take (i := 6) (oi := _) (v := ?_) (by simp only [List.getElem?_toArray, List.getElem?_cons_succ, List.getElem?_cons_zero]; rfl) (by kernel_rfl) (by kernel_rfl) (by kernel_rfl) (by exact fun _ _ _ h => h) (Or.inl ⟨by rfl, ?hyha6⟩) (by assumption) ?reha6
          case hyha6 => (rintro u ⟨s0, -⟩; have s1 := s0.look (r := kj) (by omega); go_simp <;> with_reducible rfl)
          try simp only [Act.put, List.setIfInBounds_toArray, List.set_cons_zero, List.set_cons_succ]
          refine wpAnyH_done (by kernel_rfl) ?_ _
          have HE := Lib.hid hHeld.2
          clear hHeld HQ H5
          go_wp2
          go_roundw
          case rel => exact ⟨j + 1, by omega, by go_num, by rw [show min (j + 1) 8 = j + 1 by omega]; go_num, HE.out⟩
          case measure => simp [intOf]; omega
        · rw [if_neg hj8] at HO
          have hm8 : min j 8 = 8 := by omega
          rw [hm8]
          clear hm8
          go_wp2_with fail
          refine HO.out.mono ?_
          rintro e w4 ⟨rfl, hx⟩
          have e1 : fL l j = fL l (j + 1) := by unfold fL; rw [fL_full l (by omega)]
          have H4 := Lib.hid (St.weak hx (C' := CmA g (fL l (j + 1)) (j + 1)) fun P hP => ⟨P, ⟨by rw [← e1]; exact hP.1.le (by omega), hP.2⟩, fun _ hi => hi⟩)
          clear hx HO HS hcell e1
          go_wp2
          go_roundw
          case rel => exact ⟨j + 1, by omega, by go_num, by rw [show min (j + 1) 8 = 8 by omega]; rfl, H4.out⟩
          case measure => simp [intOf]; omega
      · obtain rfl : j = q := by omega
        obtain ⟨nn, hnn⟩ : ∃ nn, nn = min j 8 := ⟨_, rfl⟩
        rw [← hnn]
        have hn8 : nn ≤ 8 := by omega
        by_cases hn0 : nn = 0
        · subst hn0
          go_wp2
          go_ret
          exact ⟨rfl, HS.out.bel⟩
        · have hn1 : ¬ ((nn : Int) = 0) := by omega
          obtain ⟨cc, hcn, hrem⟩ : ∃ cc : Nat, cc < nn ∧ ∀ w, (binOp .rem 3 (.int .i64 (wh : Int)) (.int .i64 (nn : Int))).run Try.prog w = .ok (.int .i64 (cc : Int)) w := ⟨wh % nn, Nat.mod_lt _ (by omega), fun w => rem_at w wh nn _ hn0 rfl⟩
          have Hrem := Lib.hid hrem
          clear hrem
          have hcm : cc < min j 8 := by omega
          obtain ⟨bb, o, rfl, hbb, hcell⟩ := HC.out wr HS.out.bel cc (by omega)
          have Hcell := Lib.hid fun u hu => HC.out u hu cc (by omega)
          obtain ⟨x, hx⟩ : ∃ x : Nat, x = (l.getD cc 0).toNat := ⟨_, rfl⟩
          rw [← hx] at Hcell
          have hx256 : x < 256 := by rw [hx]; exact UInt8.toNat_lt _
          obtain ⟨kc, hkc⟩ : ∃ kc, kc = kL l cc := ⟨_, rfl⟩
          have hk1 : (x : Int) % 64 = (kc : Int) := by rw [hkc, hx]; unfold kL; omega
          have HO1 := Lib.hid (St.close (cm_lcl ..) HS.out 0 (cc : Int))
          rw [lt_close hcm, ← hkc] at HO1
          have E2 := Lib.hid (lc_close (l := l) (j := j) hcm)
          obtain ⟨e3, e4⟩ := lc_open (l := l) (j := j) hcm
          have E3 := Lib.hid e3
          have E4 := Lib.hid e4
          have hk64 : kc < 64 := by rw [hkc]; exact kL_lt l cc
          have hcmm : (cc : Int) < (m : Int) := by omega
          have Hnn := Lib.hid hnn
          have Hk1 := Lib.hid hk1
          have Hcmm := Lib.hid hcmm
          clear hx hkc e3 e4 hcell hnn hcm hk1 hcmm
          have hb0 : ((nn : Int) == 0) = false := by simpa using hn1
          clear hn1 hn0
          go_wp2_with (refine wpList_rem rfl (.tmp 80) (.tmp 81) rfl (.int .i64 (wh : Int)) (.int .i64 (nn : Int)) (.int .i64 (cc : Int)) rfl rfl (Hrem.out _) ?_)
          refine HO1.out.mono ?_
          rintro e w4 ⟨rfl, hx⟩
          have H4 : Hid (St w b (lc l j cc) (CmA g (fL l j) j) w4) := Lib.hid hx
          clear hx HO1
          have HO2 := Lib.hid (St.close (cm_lcl ..) H4.out 0 (cc : Int))
          rw [E2.out] at HO2
          go_wp2_with fail
          refine HO2.out.mono ?_
          rintro e w5 ⟨rfl, hx⟩
          have H5 : Hid (St w b (lc l j cc) (CmA g (fL l j) j) w5) := Lib.hid hx
          clear hx HO2 H4 HS
          have HO3 := Lib.hid (St.open (cm_lcl ..) H5.out 0 9)
          rw [E3.out, E4.out] at HO3
          go_wp2_with fail
          refine HO3.out.mono ?_
          rintro e w6 ⟨rfl, hx⟩
          have H6 := Lib.hid hx.bel
          clear hx HO3 H5
          obtain ⟨bb2, o2, ha, -, hcell⟩ := Hcell.out w6 H6.out
          obtain ⟨rfl, rfl⟩ : bb = bb2 ∧ o = o2 := by
            injection ha with ha
            injection ha with h1 h2
            exact ⟨h1, h2⟩
          have hk1 := Hk1.out
          have hcmm := Hcmm.out
          clear ha
          go_wp2
          go_ret
          exact ⟨rfl, H6.out⟩
  case inr =>
    rw [← Hg.out]
    refine (fun (key : ∀ u, u = w2.alloc (.map #[] 0) → Code.wp Try.prog _ _ _ u) => key _ rfl) (fun u hu => ?_)
    rw [← hu] at H2
    have H3 : Hid (St w b (lt l 0) (CmA g (fL l 0) 0) u) := H2.out.as rfl (congrArg (fun f => CmA g f 0) (funext fun r => (fL_zero l r).symm))
    clear hu H2 Hg hmm
    go_loopw [8, 36] (fun nn i wr => ∃ j : Nat, j ≤ q ∧ i = .int .i64 (j : Int) ∧ nn = .int .i64 ((min j 8 : Nat) : Int) ∧ St w b (lt l j) (CmA g (fL l j) j) wr) (fun _ i _ => q - (intOf i).toNat)
    case atStart => exact ⟨0, Nat.zero_le _, rfl, rfl, H3.out⟩
    case round =>
      obtain ⟨j, hj, rfl, rfl, hS⟩ := hrel
      have HS := Lib.hid hS
      clear hS H3
      by_cases hlt : j < q
      · have hlt2 : (j : Int) < (q : Int) := by omega
        obtain ⟨bb, o, rfl, hbb, hcell⟩ := HC.out wr HS.out.bel j (by omega)
        obtain ⟨x, hx⟩ : ∃ x : Nat, x = (l.getD j 0).toNat := ⟨_, rfl⟩
        have hx256 : x < 256 := by rw [hx]; exact UInt8.toNat_lt _
        rw [← hx] at hcell
        obtain ⟨kj, hkj⟩ : ∃ kj, kj = kL l j := ⟨_, rfl⟩
        have hk1 : (x : Int) % 64 = (kj : Int) := by rw [hkj, hx]; unfold kL; omega
        have hk64 : kj < 64 := by rw [hkj]; exact kL_lt l j
        have HO := Lib.hid (St.open (cm_lcl ..) HS.out 0 (kL l j : Int))
        rw [lt_open, ← hkj] at HO
        have Hkj := Lib.hid hkj
        clear hx hkj
        by_cases hj8 : j < 8
        · rw [if_pos hj8] at HO
          have hm8 : min j 8 = j := by omega
          rw [hm8]
          have hn8 : ¬ ((j : Int) = 8) := by omega
          have H1 := Lib.hid (fL_succ l hj8)
          have hjb : (j : Int) < 8 := by omega
          clear hm8
          go_wp2_with fail
          refine HO.out.mono ?_
          rintro e w4 ⟨rfl, hx⟩
          have H4 := Lib.hid hx
          clear hx HO HS hcell
          have hlook := H4.out.cm.look (r := kj) (by omega)
          have hfl := fL_le l j kj
          go_wp2_with (refine wpList_cm rfl (.tmp 64) (.tmp 65) (.tmp 67) rfl H4.out.cm (by omega) (r := kj) (by omega) rfl rfl rfl (by omega) rfl rfl (fun w5 hq1 hq2 => ?_); have H5 : Hid (St w b (lt l (j + 1)) (CmA g (fL l (j + 1)) (j + 1)) w5) := Lib.hid ((H4.out.count hq1 hq2).as rfl (congrArg (fun f => CmA g f (j + 1)) (funext fun r => by rw [Hkj.out]; exact H1.out r))); clear hq1 hq2)
          have HQ : Hid (Cm w5.drew g (fL l (j + 1)) (j + 1) ∧ St w b (lt l (j + 1)) (CmA g (fL l (j + 1)) (j + 1)) w5.drew) := ⟨H5.out.cm.below (Below.refl _ w5).drew, H5.out.later (cm_lcl ..) (Below.refl _ w5).drew⟩
          clear H4 H1 hlook
          refine wp_region_held_drew (S := fun u => Cm u g (fL l (j + 1)) (j + 1) ∧ St w b (lt l (j + 1)) (CmA g (fL l (j + 1)) (j + 1)) u) (by kernel_rfl) HQ.out (fun hHeld => ?_)
          refine wpAnyH_take (i := 0) (oi := _) (v := ?_) (by simp only [List.getElem?_toArray, List.getElem?_cons_zero]; rfl) (by kernel_rfl) (by kernel_rfl) (by kernel_rfl) (by exact fun _ _ _ h => h) (Or.inl ⟨by rfl, ?hyhb0⟩) (by assumption) ?rehb0
          case hyhb0 => (rintro u ⟨s0, -⟩; have s1 := s0.look (r := kj) (by omega); go_simp <;> with_reducible rfl)
          try simp only [Act.put, List.setIfInBounds_toArray, List.set_cons_zero, List.set_cons_succ]
          refine wpAnyH_take (i := 1) (oi := _) (v := ?_) (by simp only [List.getElem?_toArray, List.getElem?_cons_succ, List.getElem?_cons_zero]; rfl) (by kernel_rfl) (by kernel_rfl) (by kernel_rfl) (by exact fun _ _ _ h => h) (Or.inl ⟨by rfl, ?hyhb1⟩) (by assumption) ?rehb1
          case hyhb1 => (rintro u ⟨s0, -⟩; have s1 := s0.look (r := kj) (by omega); go_simp <;> with_reducible rfl)
          try simp only [Act.put, List.setIfInBounds_toArray, List.set_cons_zero, List.set_cons_succ]
          refine wpAnyH_take (i := 3) (oi := _) (v := ?_) (by simp only [List.getElem?_toArray, List.getElem?_cons_succ, List.getElem?_cons_zero]; rfl) (by kernel_rfl) (by kernel_rfl) (by kernel_rfl) (by exact fun _ _ _ h => h) (Or.inl ⟨by rfl, ?hyhb3⟩) (by assumption) ?rehb3
          case hyhb3 => (rintro u ⟨s0, -⟩; have s1 := s0.look (r := kj) (by omega); go_simp <;> with_reducible rfl)
          try simp only [Act.put, List.setIfInBounds_toArray, List.set_cons_zero, List.set_cons_succ]
          refine wpAnyH_take (i := 4) (oi := _) (v := ?_) (by simp only [List.getElem?_toArray, List.getElem?_cons_succ, List.getElem?_cons_zero]; rfl) (by kernel_rfl) (by kernel_rfl) (by kernel_rfl) (by exact fun _ _ _ h => h) (Or.inl ⟨by rfl, ?hyhb4⟩) (by assumption) ?rehb4
          case hyhb4 => (rintro u ⟨s0, -⟩; have s1 := s0.look (r := kj) (by omega); go_simp <;> with_reducible rfl)
          try simp only [Act.put, List.setIfInBounds_toArray, List.set_cons_zero, List.set_cons_succ]
          refine wpAnyH_take (i := 5) (oi := _) (v := ?_) (by simp only [List.getElem?_toArray, List.getElem?_cons_succ, List.getElem?_cons_zero]; rfl) (by kernel_rfl) (by kernel_rfl) (by kernel_rfl) (by exact fun _ _ _ h => h) (Or.inl ⟨by rfl, ?hyhb5⟩) (by assumption) ?rehb5
          case hyhb5 => (rintro u ⟨s0, -⟩; have s1 := s0.look (r := kj) (by omega); go_simp <;> with_reducible rfl)
          try simp only [Act.put, List.setIfInBounds_toArray, List.set_cons_zero, List.set_cons_succ]
          refine wpAnyH_ready (rs := [2]) (by kernel_rfl) (by simp) ?_
          refine AllReadyH.cons (o := _) (by simp only [List.getElem?_toArray, List.getElem?_cons_succ, List.getElem?_cons_zero]; rfl) (fun K hK => ?_) AllReadyH.nil
          go_simp
          refine (St.holds (cm_lcl ..) hHeld.2 (kj : Int)).mono ?_
          rintro e w10 ⟨rfl, hb, hx⟩
          rw [show holdsA (lt l (j + 1)) (kj : Int) = fL l (j + 1) kj from rfl]
          have HX : Hid (Cm w10 g (fL l (j + 1)) (j + 1) ∧ St w b (lt l (j + 1)) (CmA g (fL l (j + 1)) (j + 1)) w10) := ⟨hx.cm, hx⟩
          clear hb hHeld hx
          go_simp
          refine hK.out _ _ HX.out (fun hHeld => ?_)
          clear hK K HX
          try simp only [Act.put, List.setIfInBounds_toArray, List.set_cons_zero, List.set_cons_succ]
          refine wpAnyH_take (i := 6) (oi := _) (v := ?_) (by simp only [List.getElem?_toArray, List.getElem?_cons_succ, List.getElem?_cons_zero]; rfl) (by kernel_rfl) (by kernel_rfl) (by kernel_rfl) (by exact fun _ _ _ h => h) (Or.inl ⟨by rfl, ?hyhb6⟩) (by assumption) ?rehb6
          case hyhb6 => (rintro u ⟨s0, -⟩; have s1 := s0.look (r := kj) (by omega); go_simp <;> with_reducible rfl)
          try simp only [Act.put, List.setIfInBounds_toArray, List.set_cons_zero, List.set_cons_succ]
          refine wpAnyH_done (by kernel_rfl) ?_ _
          have HE := Lib.hid hHeld.2
          clear hHeld HQ H5
          go_wp2
          go_roundw
          case rel => exact ⟨j + 1, by omega, by go_num, by rw [show min (j + 1) 8 = j + 1 by omega]; go_num, HE.out⟩
          case measure => simp [intOf]; omega
        · rw [if_neg hj8] at HO
          have hm8 : min j 8 = 8 := by omega
          rw [hm8]
          clear hm8
          go_wp2_with fail
          refine HO.out.mono ?_
          rintro e w4 ⟨rfl, hx⟩
          have e1 : fL l j = fL l (j + 1) := by unfold fL; rw [fL_full l (by omega)]
          have H4 := Lib.hid (St.weak hx (C' := CmA g (fL l (j + 1)) (j + 1)) fun P hP => ⟨P, ⟨by rw [← e1]; exact hP.1.le (by omega), hP.2⟩, fun _ hi => hi⟩)
          clear hx HO HS hcell e1
          go_wp2
          go_roundw
          case rel => exact ⟨j + 1, by omega, by go_num, by rw [show min (j + 1) 8 = 8 by omega]; rfl, H4.out⟩
          case measure => simp [intOf]; omega
      · obtain rfl : j = q := by omega
        obtain ⟨nn, hnn⟩ : ∃ nn, nn = min j 8 := ⟨_, rfl⟩
        rw [← hnn]
        have hn8 : nn ≤ 8 := by omega
        by_cases hn0 : nn = 0
        · subst hn0
          go_wp2
          go_ret
          exact ⟨rfl, HS.out.bel⟩
        · have hn1 : ¬ ((nn : Int) = 0) := by omega
          obtain ⟨cc, hcn, hrem⟩ : ∃ cc : Nat, cc < nn ∧ ∀ w, (binOp .rem 3 (.int .i64 (wh : Int)) (.int .i64 (nn : Int))).run Try.prog w = .ok (.int .i64 (cc : Int)) w := ⟨wh % nn, Nat.mod_lt _ (by omega), fun w => rem_at w wh nn _ hn0 rfl⟩
          have Hrem := Lib.hid hrem
          clear hrem
          have hcm : cc < min j 8 := by omega
          obtain ⟨bb, o, rfl, hbb, hcell⟩ := HC.out wr HS.out.bel cc (by omega)
          have Hcell := Lib.hid fun u hu => HC.out u hu cc (by omega)
          obtain ⟨x, hx⟩ : ∃ x : Nat, x = (l.getD cc 0).toNat := ⟨_, rfl⟩
          rw [← hx] at Hcell
          have hx256 : x < 256 := by rw [hx]; exact UInt8.toNat_lt _
          obtain ⟨kc, hkc⟩ : ∃ kc, kc = kL l cc := ⟨_, rfl⟩
          have hk1 : (x : Int) % 64 = (kc : Int) := by rw [hkc, hx]; unfold kL; omega
          have HO1 := Lib.hid (St.close (cm_lcl ..) HS.out 0 (cc : Int))
          rw [lt_close hcm, ← hkc] at HO1
          have E2 := Lib.hid (lc_close (l := l) (j := j) hcm)
          obtain ⟨e3, e4⟩ := lc_open (l := l) (j := j) hcm
          have E3 := Lib.hid e3
          have E4 := Lib.hid e4
          have hk64 : kc < 64 := by rw [hkc]; exact kL_lt l cc
          have hcmm : (cc : Int) < (m : Int) := by omega
          have Hnn := Lib.hid hnn
          have Hk1 := Lib.hid hk1
          have Hcmm := Lib.hid hcmm
          clear hx hkc e3 e4 hcell hnn hcm hk1 hcmm
          have hb0 : ((nn : Int) == 0) = false := by simpa using hn1
          clear hn1 hn0
          go_wp2_with (refine wpList_rem rfl (.tmp 80) (.tmp 81) rfl (.int .i64 (wh : Int)) (.int .i64 (nn : Int)) (.int .i64 (cc : Int)) rfl rfl (Hrem.out _) ?_)
          refine HO1.out.mono ?_
          rintro e w4 ⟨rfl, hx⟩
          have H4 : Hid (St w b (lc l j cc) (CmA g (fL l j) j) w4) := Lib.hid hx
          clear hx HO1
          have HO2 := Lib.hid (St.close (cm_lcl ..) H4.out 0 (cc : Int))
          rw [E2.out] at HO2
          go_wp2_with fail
          refine HO2.out.mono ?_
          rintro e w5 ⟨rfl, hx⟩
          have H5 : Hid (St w b (lc l j cc) (CmA g (fL l j) j) w5) := Lib.hid hx
          clear hx HO2 H4 HS
          have HO3 := Lib.hid (St.open (cm_lcl ..) H5.out 0 9)
          rw [E3.out, E4.out] at HO3
          go_wp2_with fail
          refine HO3.out.mono ?_
          rintro e w6 ⟨rfl, hx⟩
          have H6 := Lib.hid hx.bel
          clear hx HO3 H5
          obtain ⟨bb2, o2, ha, -, hcell⟩ := Hcell.out w6 H6.out
          obtain ⟨rfl, rfl⟩ : bb = bb2 ∧ o = o2 := by
            injection ha with ha
            injection ha with h1 h2
            exact ⟨h1, h2⟩
          have hk1 := Hk1.out
          have hcmm := Hcmm.out
          clear ha
          go_wp2
          go_ret
          exact ⟨rfl, H6.out⟩
theorem least_int (l : List UInt8) (A : Option Addr) (m c : Nat) (x : Int) (hx : 0 ≤ x) (hx2 : x < 256) (w : World) (hn : l.length = m) (hc : m ≤ c) (hm : c ≤ 9223372036854775807) (hr : Rd w w.heap.size A (bytesV l)) :
    Calls Try.prog 5 #[.slice A m c, .int .u8 x] w fun e w' => e = .returned (.bool true) ∧ Below w.heap.size w w' := by
  obtain ⟨n, rfl⟩ : ∃ n : Nat, x = (n : Int) := ⟨x.toNat, by omega⟩
  exact least_walk l A m c n (by omega) w hn hc hm hr
end Go.Proofs.Ytnahccdjeilboaa.Prc
namespace Go.Proofs.Ytnahccdjeilboaa
open Go.RowKit Go.ChangeShapes Go.WideShapes Go.ChangeAt Prc

theorem least_contract (H : Type) (enc : TypeId × Value → H) (W : World) (base : Nat) (args : Array Value) (ds gs : List (DataW H)) (before : List MemPlace)
    (hval : ∀ (j : Nat) t v, Try.f5.params[j]? = some t → args[j]? = some v → Value.okWide Try.prog W .any base t v)
    (hW : DataW.Whole enc Try.prog Try.f5.params.toList Rows.procLeastSpec.vars false W args.toList ds gs before) :
    Calls Try.prog 5 args W fun e W' => ∃ v, e = .returned v ∧ Rows.procLeastSpec.post enc Try.prog Try.f5 false true false false W args v W' := by
  have hW' := hW
  have hlt : ∀ x ∈ before, x.block < W.heap.size := fun x hx => hW.lt x hx
  obtain ⟨p, q, hA0, hV, rfl, _, _⟩ := hW
  have hA : DataW.TrodAll enc Try.prog W 0 (fun _ => true) true Try.f5.params.toList args.toList ds p := hA0
  rw [Try.params5] at hA hval
  obtain ⟨v0, vs0, d0, ds0, p0, q0, hargs, rfl, rfl, h0, r0⟩ := trodAll_cons hA
  obtain ⟨v1, vs1, d1, ds1, p1, q1, rfl, rfl, rfl, h1, r1⟩ := trodAll_cons r0
  obtain ⟨rfl, rfl, rfl⟩ := trodAll_nil r1
  obtain rfl : args = #[v0, v1] := by cases args; simp_all
  obtain ⟨rfl, rfl⟩ := trodVars_none hV
  clear hA0
  obtain ⟨A0, n0, c0, l0, rfl, hn0, hc0, hm0, hr0⟩ := open_bytesL Try.underlying60 Try.underlying5 cells5 (hval 0 60 v0 rfl rfl) h0 (fun x hx => hlt x (by simp [hx]))
  unfold maxLen at hm0
  obtain ⟨a1, rfl, rfl, rfl, wa1⟩ := open_int Try.underlying5 (hval 1 5 v1 rfl rfl) h1
  have bd1 := bounds_u8 wa1
  refine (least_int l0 A0 n0 c0 a1 (by omega) (by omega) W hn0 hc0 (by omega) hr0).mono fun e W' ⟨he, hb⟩ => ?_
  subst he
  exact ⟨_, rfl, law_post laid (by kernel_rfl) Try.underlying4 (by rw [Try.params5]; decide +kernel) rfl hW' ⟨rfl, rfl, rfl⟩ hb⟩

set_option maxRecDepth 100000 in
theorem least_lifted (os : Os) (started : os.Started) (H : Type) (enc : TypeId × Value → H) :
    ReturnsInHanded {} Try.checked os 5 .any (Rows.procLeastSpec.pre6 enc Try.prog Try.f5 Rows.procLeastRow.domain false) (Rows.procLeastSpec.post enc Try.prog Try.f5 false true false false) := by
  refine returnsInHanded_of_change (C := Try.checked) own started (by kernel_rfl) Try.func5
    (ChangeSpec.witness6 (enc := enc) (C := Try.checked) false ⟨#[], #[.slice none 0 0, .int .u8 0], []⟩ 8 (by kernel_rfl) (by kernel_rfl) (by kernel_rfl) (by kernel_rfl)) ?_
  intro W base args ds gs before hval hW _ _
  exact least_contract H enc W base args ds gs before hval hW

/-- ProcLeast is true for every input. -/
theorem least_holds : Rows.ProcLeastSaid :=
  OpenClaim.holds_of_wide 5 Try.f5 rfl rfl rfl rfl rfl rfl rfl ⟨rfl, rfl, rfl, rfl, rfl⟩ rfl rfl rfl rfl rfl (by kernel_rfl) Try.func5 (by kernel_rfl)
    (of_decide_eq_true (by kernel_rfl)) (by unfold Func.isWrapper; first | (rw [if_pos (by decide +kernel)]; kernel_rfl) | (rw [if_neg (by decide +kernel)]; exact ⟨rfl, rfl⟩))
    (fun os started H enc _ => least_lifted os started H enc)
end Go.Proofs.Ytnahccdjeilboaa
