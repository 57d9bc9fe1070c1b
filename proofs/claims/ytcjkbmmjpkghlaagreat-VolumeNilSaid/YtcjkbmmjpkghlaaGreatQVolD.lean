/-
  A group's label; what a block is to be; a block's group.
-/
import Derived.Test.YtcjkbmmjpkghlaaGreatQVolC
import Derived.Test.YtcjkbmmjpkghlaaGreatQMetaX9
namespace Go.Proofs.YtcjkbmmjpkghlaaGreat.Vol
open Go.RowKit Keep Meta

set_option maxRecDepth 100000 in
set_option maxHeartbeats 1600000 in
theorem label_ok {P : Nat → Prop} {w : World} {bv bm : Nat} {x : Meta.Mem} {m : Meta.Met} {rest : List Value} (h : Vs P w bv x m bm rest) (q r : Nat) (y : Intern.Rw) (hq : m.own[q]? = some ((r : Int) + 1)) (hy : m.rows[r]? = some y) (hl : m.rows.length = 16) (hg : m.own.length ≤ 64) :
    Calls Tryz.prog 141 #[.pointer (some ⟨bv, 0, none⟩), .int .i64 (q : Int)] w fun e w' => e = .returned (.int .u16 (y.lab : Int)) ∧ ∃ n, w' = w.drewN n := by
  obtain ⟨c0, c1, c2, c3, c4⟩ := h.cells
  have hlr := h.met.lies
  have hrlt := (List.getElem?_eq_some_iff.1 hy).1
  have hqlt := (List.getElem?_eq_some_iff.1 hq).1
  obtain ⟨b, o, hA, -⟩ := rd_first hlr.own (by rw [Inode.length_intsV]; omega)
  have hlo := hlr.own
  rw [hA] at hlo c1
  have hco := rd_int hlo hq
  rcases Intern.rd_rows hlr.rows with h0 | ⟨b2, o2, hA2, -, hat⟩
  · rw [h0] at hy; simp at hy
  obtain ⟨h1, -⟩ := hat r y hy
  rw [hA2, hl] at c0
  have hq0 : (0 : Int) ≤ (q : Int) := by omega
  have hq1 : (q : Int) < (m.own.length : Int) := by omega
  have hr0 : (0 : Int) ≤ (r : Int) := by omega
  have hr1 : (r : Int) < 16 := by omega
  have hw : IntKind.i64.wrap ((r : Int) + 1 - 1) = (r : Int) := by rw [IntKind.wrap_i64]; omega
  clear h hlr hlo hat hq hy hl hrlt hqlt hA hA2 hg
  generalize m.own.length = G at *
  go_enter Tryz.func141, Tryz.ntmps141
  go_upto_region 1 with fail
  go_quiet (fail)
  go_wp2
  go_ret
  exact ⟨rfl, nq, rfl⟩
/-- Another block than a map's, kept. -/
theorem own_map {w w' : World} {bm : Nat} (hM : ∃ es clock, w.heap[bm]? = some (.map es clock)) (hk : Kept (· = bm) w w') {base e k n : Nat} {v : Value} {xs : List Value} (h : w.ownsRow base e k v n xs) : w'.ownsRow base e k v n xs := by
  refine ⟨h.1, ?_⟩
  rcases h.2 with h2 | ⟨g, cap, cur, h1, hb, hc, h3⟩
  · exact .inl h2
  · refine .inr ⟨g, cap, cur, h1, hb, ?_, h3⟩
    rw [hk.block g (lt_heap hc) (fun hg => by
      have hg : g = bm := hg
      subst hg
      obtain ⟨es, cl, hM⟩ := hM
      rw [hc] at hM
      cases hM)]
    exact hc
theorem bk_map {w w' : World} {bm bv e : Nat} {xs : List Value} (hM : ∃ es clock, w.heap[bm]? = some (.map es clock)) (hk : Kept (· = bm) w w') (h : Bk w bv e xs) : Bk w' bv e xs :=
  (hk.block bv h.lt (fun hg => by
      have hg : bv = bm := hg
      subst hg
      obtain ⟨es, cl, hM⟩ := hM
      have h : w.heap[bv]? = _ := h
      rw [h] at hM
      cases hM)).trans h
theorem Vs.map {P : Nat → Prop} {w w' : World} {bv bm : Nat} {x : Meta.Mem} {m : Meta.Met} {rest : List Value} (h : Vs P w bv x m bm rest) {b : Nat} (hM : ∃ es clock, w.heap[b]? = some (.map es clock)) (hk : Kept (· = b) w w') : Vs P w' bv x m bm rest :=
  ⟨bk_map hM hk h.box, ⟨own_map hM hk h.met.rows, own_map hM hk h.met.own, own_map hM hk h.met.used, own_map hM hk h.met.ino⟩, h.pv, h.pr, h.po, h.pu, h.pi⟩
theorem below_drewN {B : Nat} {a w : World} (h : Below B a w) (n : Nat) : Below B a (w.drewN n) := ⟨h.os, h.tape, h.output, h.size, h.block⟩
theorem con_fill (c : Sx) (Z : Array Value) (hz : Z.size = 65) : ((bytesV c.b).zipIdx.foldl (fun cs x => cs.setIfInBounds x.2 x.1) Z).size = 65 ∧ (((bytesV c.b).zipIdx.foldl (fun cs x => cs.setIfInBounds x.2 x.1) Z).setIfInBounds 64 (.int .u16 (c.t : Int))) = (sx c).toArray := by
  have hl : (bytesV c.b).length = 64 := by rw [length_bytesV, c.hb]
  have hg := fun k => fillI_get (bytesV c.b) 0 0 Z k
  simp only [Nat.zero_add, Nat.sub_zero, Nat.zero_le, true_and, hl, hz] at hg
  have hs : ∀ (l : List (Value × Nat)) (Y : Array Value), (l.foldl (fun cs x => cs.setIfInBounds x.2 x.1) Y).size = Y.size := fun l => by
    induction l with
    | nil => intro Y; rfl
    | cons p r ih => intro Y; rw [List.foldl_cons, ih]; simp
  refine ⟨(hs _ _).trans hz, ?_⟩
  apply Array.ext_getElem?
  intro k
  rw [Array.getElem?_setIfInBounds, hg, hs, hz]
  have h2 : (sx c).toArray[k]? = (bytesV c.b ++ [.int .u16 (c.t : Int)])[k]? := by simp [sx]
  rw [h2]
  rcases Nat.lt_trichotomy k 64 with h | h | h
  · rw [if_neg (by omega), if_pos (by omega), List.getElem?_append_left (by omega)]
  · subst h
    rw [if_pos rfl, if_pos (by omega), List.getElem?_append_right (by omega), hl]
    rfl
  · rw [if_neg (by omega), if_neg (by omega), Array.getElem?_eq_none (by omega), List.getElem?_eq_none (by simp [hl]; omega)]
theorem size_con : Tryz.zeroCells133.size = 65 := by kernel_rfl
theorem size_arr : (Tryz.prog.info? 131).map (·.size) = some 64 := by kernel_rfl
set_option maxRecDepth 100000 in
set_option maxHeartbeats 1600000 in
theorem put_ok {P : Nat → Prop} {w : World} {bv bm : Nat} {x : Meta.Mem} {m : Meta.Met} {rest : List Value} (h : Vs P w bv x m bm rest) {at_ : Int → Sx} {there : Int → Bool} {n : Nat} (hm : MapIs conR conD zx w bm at_ there n) (hn : n < maxLen) (q r : Nat) (y : Intern.Rw) (hq : m.own[q]? = some ((r : Int) + 1)) (hy : m.rows[r]? = some y) (hl : m.rows.length = 16) (hg : m.own.length ≤ 64) (a : Nat) (ha : a < 512) (c : Sx) (hct : c.t = y.lab) :
    Calls Tryz.prog 89 #[.pointer (some ⟨bv, 0, none⟩), .int .i64 (a : Int), .int .i64 (q : Int), .agg (bytesV c.b).toArray] w fun e w' => e = .returned (.tuple #[]) ∧ MapIs conR conD zx w' bm (fun k => if k = (a : Int) then c else at_ k) (fun k => k == (a : Int) || there k) (if there (a : Int) then n else n + 1) ∧ Kept (· = bm) w w' := by
  have HV := Lib.hid h
  have HM := Lib.hid hm
  have HN := Lib.hid hn
  have HLB : Hid (∀ u : World, Vs P u bv x m bm rest → Calls Tryz.prog 141 #[.pointer (some ⟨bv, 0, none⟩), .int .i64 (q : Int)] u fun e w' => e = .returned (.int .u16 (c.t : Int)) ∧ Below u.heap.size u w') := Lib.hid (fun u hu => by
    refine (label_ok hu q r y hq hy hl hg).mono ?_
    rintro e w' ⟨he, k, rfl⟩
    rw [hct]
    exact ⟨he, below_drewN (Below.refl _ _) k⟩)
  have HI : Hid (I64 (a : Int)) := Lib.hid (by unfold I64; omega)
  have HCL : Hid ((bytesV c.b).length = 64) := Lib.hid (by rw [length_bytesV, c.hb])
  clear h hm hn hq hy hl hg hct ha
  generalize hnn : (if there (a : Int) then n else n + 1) = n' at *
  have HNN := Lib.hid hnn
  clear hnn
  go_enter Tryz.func89, Tryz.ntmps89
  go_upto_region 1 with fail
  have hal := al_below w (.cells (bytesV c.b).toArray 131)
  have HBX := Lib.hid (Bk.new w 131 (bytesV c.b))
  have HB := Lib.hid hal
  clear hal
  generalize hU : w.alloc (.cells (bytesV c.b).toArray 131) = U1 at *
  clear hU
  replace HV := Lib.hid (HV.out.below HB.out)
  replace HM := Lib.hid (HM.out.keep (HB.out.block bm HM.out.lt))
  have HMM := Lib.hid HM.out.isMap
  have hS0 : Kept (· = bm) U1 U1.drew := (Kept.refl _ _).drew
  refine wp_region_held_drew (S := fun u => Kept (· = bm) U1 u) (by kernel_rfl) hS0 (fun hHeld => ?_)
  clear hS0
  have HM0 : Hid (MapIs conR conD zx U1.drew bm at_ there n) := HM
  generalize hu0 : U1.drew = z0_ at *
  clear hu0
  refine wpAnyH_take (i := 0) (oi := _) (v := ?_) (by simp only [List.getElem?_toArray, List.getElem?_cons_zero]; rfl) (by kernel_rfl) (by kernel_rfl) (by kernel_rfl) (by exact fun _ _ _ h => h) (Or.inl ⟨by rfl, ?hya0⟩) (by exact hHeld) ?rea0
  case hya0 => (intro u hu; obtain ⟨c0, c1, c2, c3, c4⟩ := (HV.out.map HMM.out hu).cells; clear hu; go_simp <;> with_reducible rfl)
  try simp only [Act.put, List.setIfInBounds_toArray, List.set_cons_zero, List.set_cons_succ]
  refine wpAnyH_take (i := 1) (oi := _) (v := ?_) (by simp only [List.getElem?_toArray, List.getElem?_cons_succ, List.getElem?_cons_zero]; rfl) (by kernel_rfl) (by kernel_rfl) (by kernel_rfl) (by exact fun _ _ _ h => h) (Or.inl ⟨by rfl, ?hya1⟩) (by exact hHeld) ?rea1
  case hya1 => (intro u hu; obtain ⟨c0, c1, c2, c3, c4⟩ := (HV.out.map HMM.out hu).cells; clear hu; go_simp <;> with_reducible rfl)
  try simp only [Act.put, List.setIfInBounds_toArray, List.set_cons_zero, List.set_cons_succ]
  refine wpAnyH_take (i := 2) (oi := _) (v := ?_) (by simp only [List.getElem?_toArray, List.getElem?_cons_succ, List.getElem?_cons_zero]; rfl) (by kernel_rfl) (by kernel_rfl) (by kernel_rfl) (by exact fun _ _ _ h => h) (Or.inl ⟨by rfl, ?hya2⟩) (by exact hHeld) ?rea2
  case hya2 => (intro u hu; obtain ⟨c0, c1, c2, c3, c4⟩ := (HV.out.map HMM.out hu).cells; clear hu; go_simp <;> with_reducible rfl)
  try simp only [Act.put, List.setIfInBounds_toArray, List.set_cons_zero, List.set_cons_succ]
  refine wpAnyH_take (i := 3) (oi := _) (v := ?_) (by simp only [List.getElem?_toArray, List.getElem?_cons_succ, List.getElem?_cons_zero]; rfl) (by kernel_rfl) (by kernel_rfl) (by kernel_rfl) (by exact fun _ _ _ h => h) (Or.inl ⟨by rfl, ?hya3⟩) (by exact hHeld) ?rea3
  case hya3 => (intro u hu; obtain ⟨c0, c1, c2, c3, c4⟩ := (HV.out.map HMM.out hu).cells; clear hu; go_simp <;> with_reducible rfl)
  try simp only [Act.put, List.setIfInBounds_toArray, List.set_cons_zero, List.set_cons_succ]
  refine wpAnyH_take (i := 4) (oi := _) (v := ?_) (by simp only [List.getElem?_toArray, List.getElem?_cons_succ, List.getElem?_cons_zero]; rfl) (by kernel_rfl) (by kernel_rfl) (by kernel_rfl) (by exact fun _ _ _ h => h) (Or.inl ⟨by rfl, ?hya4⟩) (by exact hHeld) ?rea4
  case hya4 => (intro u hu; obtain ⟨c0, c1, c2, c3, c4⟩ := (HV.out.map HMM.out hu).cells; clear hu; go_simp <;> with_reducible rfl)
  try simp only [Act.put, List.setIfInBounds_toArray, List.set_cons_zero, List.set_cons_succ]
  refine wpAnyH_take (i := 5) (oi := _) (v := _) (by simp only [List.getElem?_toArray, List.getElem?_cons_succ, List.getElem?_cons_zero]; rfl) (by kernel_rfl) (by kernel_rfl) (by kernel_rfl) (by exact fun _ _ _ h => h) (yieldsIf_load_mid (by rfl) 131 _ rfl w.heap.size 0 rfl (bytesV c.b) _ (fun u hu => (fun j v hv => by rw [Nat.zero_add, (bk_map HMM.out hu HBX.out).cell j]; exact hv)) Tryz.underlying131 rfl (by rw [size_arr, HCL.out])) (by exact hHeld) ?_
  try simp only [Act.put, List.setIfInBounds_toArray, List.set_cons_zero, List.set_cons_succ]
  refine wpAnyH_take (i := 6) (oi := _) (v := ?_) (by simp only [List.getElem?_toArray, List.getElem?_cons_succ, List.getElem?_cons_zero]; rfl) (by kernel_rfl) (by kernel_rfl) (by kernel_rfl) (by exact fun _ _ _ h => h) (Or.inl ⟨by rfl, ?hya6⟩) (by exact hHeld) ?rea6
  case hya6 => (intro u hu; obtain ⟨c0, c1, c2, c3, c4⟩ := (HV.out.map HMM.out hu).cells; clear hu; go_simp <;> with_reducible rfl)
  try simp only [Act.put, List.setIfInBounds_toArray, List.set_cons_zero, List.set_cons_succ]
  refine wpAnyH_take (i := 7) (oi := _) (v := ?_) (by simp only [List.getElem?_toArray, List.getElem?_cons_succ, List.getElem?_cons_zero]; rfl) (by kernel_rfl) (by kernel_rfl) (by kernel_rfl) (by exact fun _ _ _ h => h) (Or.inl ⟨by rfl, ?hya7⟩) (by exact hHeld) ?rea7
  case hya7 => (intro u hu; obtain ⟨c0, c1, c2, c3, c4⟩ := (HV.out.map HMM.out hu).cells; clear hu; go_simp <;> with_reducible rfl)
  try simp only [Act.put, List.setIfInBounds_toArray, List.set_cons_zero, List.set_cons_succ]
  refine wpAnyH_ready (rs := [8]) (by kernel_rfl) (by simp) ?_
  refine AllReadyH.cons (o := _) (by simp only [List.getElem?_toArray, List.getElem?_cons_succ, List.getElem?_cons_zero]; rfl) (fun K hK => ?_) AllReadyH.nil
  go_simp
  (with_reducible refine (HLB.out _ (HV.out.map HMM.out hHeld)).mono ?_)
  rintro e x1 ⟨he, hb⟩; obtain rfl := he
  have hS : Kept (· = bm) U1 x1 := hHeld.trans (Kept.of_below (S := (· = bm)) hb) (fun i hi => .inl hi)
  have HBY := Lib.hid hb
  clear hb
  go_simp
  refine hK.out _ _ hS (fun hHeld2 => ?_)
  clear hK K hHeld hS
  have hHeld := hHeld2
  clear hHeld2
  try simp only [Act.put, List.setIfInBounds_toArray, List.set_cons_zero, List.set_cons_succ]
  refine wpAnyH_take (i := 9) (oi := _) (v := conV c) (by simp only [List.getElem?_toArray, List.getElem?_cons_succ, List.getElem?_cons_zero]; rfl) (by kernel_rfl) (by kernel_rfl) (by kernel_rfl) (by exact fun _ _ _ h => h) (Or.inl ⟨by rfl, ?hya9⟩) (by exact hHeld) ?rea9
  case hya9 => (intro u hu; go_simp; rw [HCL.out, (con_fill c _ size_con).1, (con_fill c _ size_con).2]; rfl)
  try simp only [Act.put, List.setIfInBounds_toArray, List.set_cons_zero, List.set_cons_succ]
  have hMX := HM0.out.keep (HBY.out.block bm HM0.out.lt)
  refine wpAnyH_ready (rs := [10]) (by kernel_rfl) (by simp) ?_
  refine AllReadyH.cons (o := _) (by simp only [List.getElem?_toArray, List.getElem?_cons_succ, List.getElem?_cons_zero]; rfl) (fun K hK => ?_) AllReadyH.nil
  refine wp_mput (t := 95) _ _ _ rfl conE Tryz.underlying95 rfl hMX HN.out HI.out rfl trivial rfl ?_
  intro w' h1 h2
  rw [HNN.out] at h1
  have hS := hHeld.trans (Kept.of_grown (S := (· = bm)) h2 (fun k hk => by cases hk; rfl)) (fun i hi => .inl hi)
  refine hK.out _ _ hS (fun hHeld2 => ?_)
  clear hK K
  refine wpAnyH_done (by kernel_rfl) ?_ _
  go_wp2
  go_end0
  exact ⟨rfl, h1, (Kept.of_below HB.out).trans hHeld2 (fun i hi => .inl hi)⟩
end Go.Proofs.YtcjkbmmjpkghlaaGreat.Vol

/-
  A block's group; an owner stored.
-/
namespace Go.Proofs.YtcjkbmmjpkghlaaGreat.Vol
open Go.RowKit Keep Meta

/-- What stands behind a state in a volume. -/
def restC (j i g pp b bj : Nat) (be : Value) (A : Option Addr) (c : Nat) (dead : Bool) : List Value :=
  [be, .pointer (some ⟨b, 0, none⟩), .pointer (some ⟨bj, 0, none⟩),
   .int .i64 (j : Int), .int .i64 (i : Int), .int .i64 (g : Int), .int .i64 (pp : Int),
   .int .i64 1, .int .i64 (1 + (j : Int)), .int .i64 (1 + (j : Int) + 1), .int .i64 (1 + (j : Int) + 1 + 1), .int .i64 (1 + (j : Int) + 1 + 1 + 1), .int .i64 (1 + (j : Int) + 1 + 1 + 1 + (i : Int) / 2), .int .i64 (1 + (j : Int) + 1 + 1 + 1 + (i : Int) / 2 + (g : Int) * (pp : Int)),
   .slice A (3 + i / 2) c, .bool dead]
theorem volC_rest (j i g pp b bj bm : Nat) (x : Meta.Mem) (m : Meta.Met) (be : Value) (A : Option Addr) (c : Nat) (dead : Bool) : volC j i g pp b bj bm x m be A c dead = stC x m bm (restC j i g pp b bj be A c dead) := rfl
section
variable {P Q : Nat → Prop} {w w' : World} {bv bm j i g pp b bj c : Nat} {x : Meta.Mem} {m : Meta.Met} {be : Value} {A : Option Addr} {dead : Bool}
theorem Vs.geo (h : Vs P w bv x m bm (restC j i g pp b bj be A c dead)) : w.cell? ⟨bv, 8, none⟩ = some (.int .i64 (j : Int)) ∧ w.cell? ⟨bv, 9, none⟩ = some (.int .i64 (i : Int)) ∧ w.cell? ⟨bv, 10, none⟩ = some (.int .i64 (g : Int)) ∧ w.cell? ⟨bv, 11, none⟩ = some (.int .i64 (pp : Int)) :=
  ⟨h.box.cell 8, h.box.cell 9, h.box.cell 10, h.box.cell 11⟩
end
/-- A row's block is kept, whose elements are of another type than another row's. -/
theorem own_apart {w w' : World} {base b2 e k n e2 k2 n2 g : Nat} {v v2 : Value} {xs ys : List Value} (h : w.ownsRow base e k v n xs) (h2 : w.ownsRow b2 e2 k2 v2 n2 ys) (hv : v2.ownBlock = some g) (hg : Kept (· = g) w w') (he : e ≠ e2) : w'.ownsRow base e k v n xs := by
  refine ⟨h.1, ?_⟩
  rcases h.2 with h3 | ⟨q, cap, cur, h1, hb, hc, h3⟩
  · exact .inl h3
  · refine .inr ⟨q, cap, cur, h1, hb, ?_, h3⟩
    rw [hg.block q (lt_heap hc) (fun hq => by
      have hq : q = g := hq
      subst hq
      rcases h2.2 with ⟨h4, _⟩ | ⟨q2, cap2, cur2, h4, _, hc2, _⟩
      · subst h4; cases hv
      · subst h4
        injection hv with hv
        subst hv
        rw [hc] at hc2
        cases hc2
        exact he rfl)]
    exact hc
theorem Vs.owner {P : Nat → Prop} {w : World} {bv bm : Nat} {x : Meta.Mem} {m : Meta.Met} {rest : List Value} (h : Vs P w bv x m bm rest) {go : Nat} (hx : x.oA = some ⟨go, 0, none⟩) (a : Nat) (v : Int) :
    Vs P (w.setCell ⟨go, a, none⟩ (.int .i64 v)) bv x { m with own := m.own.set a v } bm rest ∧ Kept P w (w.setCell ⟨go, a, none⟩ (.int .i64 v)) := by
  have ho := h.met.own
  rw [hx] at ho
  have hk := kept_set w go a (.int .i64 v)
  obtain ⟨h1, -⟩ := ho.stored a (.int .i64 v)
  rw [Inode.intsV_set] at h1
  have hvb : (Value.slice (some ⟨go, 0, none⟩) m.own.length x.oc).ownBlock = some go := rfl
  have hne : bv ≠ go := fun e => by
    subst e
    rcases ho.2 with ⟨h4, _⟩ | ⟨q2, cap2, cur2, h4, _, hc2, _⟩
    · cases h4
    · injection h4 with h4
      injection h4 with h4
      injection h4 with h4
      subst h4
      have hb : w.heap[bv]? = _ := h.box
      rw [hb] at hc2
      cases hc2
  refine ⟨⟨?_, ⟨own_apart h.met.rows ho hvb hk (by decide), by rw [hx]; simpa using h1, own_apart h.met.used ho hvb hk (by decide), own_apart h.met.ino ho hvb hk (by decide)⟩, h.pv, h.pr, h.po, h.pu, h.pi⟩, ?_⟩
  · have hb := (hk.block bv h.box.lt hne).trans h.box
    have e : stC x { m with own := m.own.set a v } bm rest = stC x m bm rest := by simp [stC]
    rw [e]
    exact hb
  · exact ⟨hk.os, hk.tape, hk.output, hk.size, fun q hq hp => hk.block q hq (fun e => by
      have e : q = go := e
      subst e
      exact hp (h.po _ hx))⟩
set_option maxRecDepth 100000 in
set_option maxHeartbeats 1600000 in
theorem groupof_ok {j i g pp : Nat} (hvg : VG j i g pp) {P : Nat → Prop} {w : World} {bv bm b bj c : Nat} {x : Meta.Mem} {m : Meta.Met} {be : Value} {A : Option Addr} {dead : Bool} (h : Vs P w bv x m bm (restC j i g pp b bj be A c dead)) (a : Nat) (ha : a < g * pp) :
    Calls Tryz.prog 78 #[.pointer (some ⟨bv, 0, none⟩), .int .i64 (a : Int)] w fun e w' => e = .returned (.tuple #[.int .i64 ((a / pp : Nat) : Int), .int .i64 0]) ∧ Below w.heap.size w w' := by
  have HG : Hid (Calls Tryz.prog 76 #[.agg #[.int .i64 (j : Int), .int .i64 (i : Int), .int .i64 (g : Int), .int .i64 (pp : Int)], .int .i64 (a : Int)] w fun e w' => e = .returned (.tuple #[.int .i64 ((a / pp : Nat) : Int), .bool true]) ∧ Below w.heap.size w w') := Lib.hid (by
    have := Super.group_yes (a : Int) hvg.v ⟨by omega, by rw [← Int.natCast_mul]; omega⟩ w
    rwa [← Int.natCast_ediv] at this)
  obtain ⟨g0, g1, g2, g3⟩ := h.geo
  clear h hvg ha
  go_enter Tryz.func78, Tryz.ntmps78
  go_wp2_with (go_at_call 76; (with_reducible refine HG.out.mono ?_); rintro e w1 ⟨he, hb⟩; obtain rfl := he; have HB := Lib.hid hb; clear hb g0 g1 g2 g3)
  refine bodyPost_ret (v := .tuple #[.int .i64 ((a / pp : Nat) : Int), .int .i64 0]) (by simp [results, Tryz.results78, go_sem]) rfl ?_
  exact ⟨rfl, HB.out⟩
end Go.Proofs.YtcjkbmmjpkghlaaGreat.Vol

/-
  A block is let go of.
-/
namespace Go.Proofs.YtcjkbmmjpkghlaaGreat.Vol
open Go.RowKit Keep Meta

theorem ne_map {w : World} {bv bm e : Nat} {xs : List Value} (hB : Bk w bv e xs) (hM : ∃ es clock, w.heap[bm]? = some (.map es clock)) : bm ≠ bv := fun h => by
  subst h
  obtain ⟨es, cl, hM⟩ := hM
  have hB : w.heap[bm]? = _ := hB
  rw [hB] at hM
  cases hM
theorem own_ne_map {w : World} {bm go base e k n c : Nat} {xs : List Value} (h : w.ownsRow base e k (.slice (some ⟨go, 0, none⟩) n c) n xs) (hM : ∃ es clock, w.heap[bm]? = some (.map es clock)) : bm ≠ go := fun hg => by
  subst hg
  obtain ⟨es, cl, hM⟩ := hM
  rcases h.2 with ⟨h4, _⟩ | ⟨q2, cap2, cur2, h4, _, hc2, _⟩
  · cases h4
  · injection h4 with h4
    injection h4 with h4
    injection h4 with h4
    subst h4
    rw [hM] at hc2
    cases hc2
/-- A state and its map, since a world w: in blocks of P's, or newer ones. -/
structure VM (P : Nat → Prop) (w u : World) (bv bm : Nat) (x : Meta.Mem) (m : Meta.Met) (rest : List Value) (at_ : Int → Sx) (there : Int → Bool) (n : Nat) : Prop where
  vs : Vs (fun i => P i ∨ w.heap.size ≤ i) u bv x m bm rest
  map : MapIs conR conD zx u bm at_ there n
  pm : P bm ∨ w.heap.size ≤ bm
  kept : Kept P w u
section
variable {P : Nat → Prop} {w u u' : World} {bv bm n : Nat} {x : Meta.Mem} {m : Meta.Met} {rest : List Value} {at_ : Int → Sx} {there : Int → Bool}
theorem VM.start (h : Vs P w bv x m bm rest) (hm : MapIs conR conD zx w bm at_ there n) (hp : P bm) : VM P w w bv bm x m rest at_ there n := ⟨h.mono (fun _ h => .inl h), hm, .inl hp, Kept.refl _ _⟩
theorem VM.below (h : VM P w u bv bm x m rest at_ there n) (hb : Below u.heap.size u u') : VM P w u' bv bm x m rest at_ there n := ⟨h.vs.below hb, h.map.keep (hb.block bm h.map.lt), h.pm, h.kept.trans (Kept.of_below (S := P) hb) (fun _ h => .inl h)⟩
theorem VM.turn {x' : Meta.Mem} {m' : Meta.Met} (h : VM P w u bv bm x m rest at_ there n) (hv : Vs (fun i => (P i ∨ w.heap.size ≤ i) ∨ u.heap.size ≤ i) u' bv x' m' bm rest) (hk : Kept (· = bv) u u') : VM P w u' bv bm x' m' rest at_ there n :=
  ⟨hv.mono (fun i hi => hi.elim id (fun h2 => .inr (Nat.le_trans h.kept.size h2))), h.map.keep (hk.block bm h.map.lt (ne_map h.vs.box h.map.isMap)), h.pm, h.kept.trans hk (fun i hi => by have hi : i = bv := hi; subst hi; exact h.vs.pv)⟩
theorem VM.put {at2 : Int → Sx} {there2 : Int → Bool} {n2 : Nat} (h : VM P w u bv bm x m rest at_ there n) (hm : MapIs conR conD zx u' bm at2 there2 n2) (hk : Kept (· = bm) u u') : VM P w u' bv bm x m rest at2 there2 n2 :=
  ⟨h.vs.map h.map.isMap hk, hm, h.pm, h.kept.trans hk (fun i hi => by have hi : i = bm := hi; subst hi; exact h.pm)⟩
theorem VM.owner (h : VM P w u bv bm x m rest at_ there n) {go : Nat} (hx : x.oA = some ⟨go, 0, none⟩) (a : Nat) (v : Int) : VM P w (u.setCell ⟨go, a, none⟩ (.int .i64 v)) bv bm x { m with own := m.own.set a v } rest at_ there n := by
  obtain ⟨h1, h2⟩ := h.vs.owner hx a v
  have ho := h.vs.met.own
  rw [hx] at ho
  exact ⟨h1, h.map.keep ((kept_set u go a (.int .i64 v)).block bm h.map.lt (own_ne_map ho h.map.isMap)), h.pm, h.kept.trans h2 (fun i hi => hi)⟩
end
def freeU (m : Meta.Met) (a : Nat) : Meta.Met := { m with used := Bits.wb m.used a false }
noncomputable def freeL (m : Meta.Met) (pp a r : Nat) : Meta.Met := { m with rows := (Intern.relP m.rows (r : Int)).rows, own := m.own.set (a / pp) 0, used := Bits.wb m.used a false }
def zeroC (t : Nat) (h : t < 65536) : Sx := ⟨List.replicate 64 0, t, by simp, h⟩
set_option maxRecDepth 100000 in
set_option maxHeartbeats 6400000 in
theorem free_ok {j i g pp : Nat} (hvg : VG j i g pp) {P : Nat → Prop} {w : World} {bv bm b bj c : Nat} {x : Meta.Mem} {m : Meta.Met} {be : Value} {A : Option Addr} {dead : Bool} {at_ : Int → Sx} {there : Int → Bool} {n : Nat} (h : VM P w w bv bm x m (restC j i g pp b bj be A c dead) at_ there n) (hn : n < maxLen) (a r : Nat) (y : Intern.Rw) (ha : a < g * pp) (hbit : Bits.hb m.used a = true) (hq : m.own[a / pp]? = some ((r : Int) + 1)) (hy : m.rows[r]? = some y) (hyl : y.lab < 65536) (hl : m.rows.length = 16) (hg : m.own.length = g) (hu : m.used.length = 64)
    (hrel : usedG pp (Bits.wb m.used a false) (a / pp) = false → (Intern.relP m.rows (r : Int)).err = 0) :
    Calls Tryz.prog 36 #[.pointer (some ⟨bv, 0, none⟩), .int .i64 (a : Int)] w fun e w' => e = .returned (.int .i64 0) ∧ ∃ x', VM P w w' bv bm x' (if usedG pp (Bits.wb m.used a false) (a / pp) then freeU m a else freeL m pp a r) (restC j i g pp b bj be A c dead) (fun k => if k = (a : Int) then zeroC y.lab hyl else at_ k) (fun k => k == (a : Int) || there k) (if there (a : Int) then n else n + 1) := by
  have hg64 : g ≤ 64 := by have := hvg.v.g2; omega
  have hgp := hvg.v.gp
  have ha512 : a < 512 := by rw [← Int.natCast_mul] at hgp; omega
  have hpp : 0 < pp := by rcases Nat.eq_zero_or_pos pp with h0 | h0; · subst h0; omega
                          · exact h0
  have hqg : a / pp < g := by rw [Nat.div_lt_iff_lt_mul hpp]; exact ha
  have hqp : ((a / pp : Nat) : Int) * (pp : Int) + (pp : Int) ≤ 512 := by
    have h1 : (a / pp + 1) * pp ≤ g * pp := Nat.mul_le_mul_right _ hqg
    rw [← Int.natCast_mul] at hgp
    rw [← Int.natCast_mul]
    rw [Nat.add_mul, Nat.one_mul] at h1
    omega
  have HGO : Hid (∀ u : World, VM P w u bv bm x m (restC j i g pp b bj be A c dead) at_ there n → Calls Tryz.prog 78 #[.pointer (some ⟨bv, 0, none⟩), .int .i64 (a : Int)] u fun e w' => e = .returned (.tuple #[.int .i64 ((a / pp : Nat) : Int), .int .i64 0]) ∧ Below u.heap.size u w') := Lib.hid (fun u hv => groupof_ok hvg hv.vs a ha)
  have HHA : Hid (∀ u : World, VM P w u bv bm x m (restC j i g pp b bj be A c dead) at_ there n → Calls Tryz.prog 88 #[.slice x.uA m.used.length x.uc, .int .i64 (a : Int)] u fun e w' => e = .returned (.bool true) ∧ Below u.heap.size u w') := Lib.hid (fun u hv => by
    refine (Bits.has_any m.used x.uA m.used.length x.uc u.heap.size (a : Int) u rfl hv.vs.met.lies.used (by omega)).mono ?_
    rintro e w' ⟨he, k, rfl⟩
    rw [Bits.hbI_nat, hbit] at he
    exact ⟨he, below_drewN (Below.refl _ _) k⟩)
  have HPU : Hid (∀ u : World, VM P w u bv bm x m (restC j i g pp b bj be A c dead) at_ there n → Calls Tryz.prog 89 #[.pointer (some ⟨bv, 0, none⟩), .int .i64 (a : Int), .int .i64 ((a / pp : Nat) : Int), .agg #[.int .u8 0, .int .u8 0, .int .u8 0, .int .u8 0, .int .u8 0, .int .u8 0, .int .u8 0, .int .u8 0, .int .u8 0, .int .u8 0, .int .u8 0, .int .u8 0, .int .u8 0, .int .u8 0, .int .u8 0, .int .u8 0, .int .u8 0, .int .u8 0, .int .u8 0, .int .u8 0, .int .u8 0, .int .u8 0, .int .u8 0, .int .u8 0, .int .u8 0, .int .u8 0, .int .u8 0, .int .u8 0, .int .u8 0, .int .u8 0, .int .u8 0, .int .u8 0, .int .u8 0, .int .u8 0, .int .u8 0, .int .u8 0, .int .u8 0, .int .u8 0, .int .u8 0, .int .u8 0, .int .u8 0, .int .u8 0, .int .u8 0, .int .u8 0, .int .u8 0, .int .u8 0, .int .u8 0, .int .u8 0, .int .u8 0, .int .u8 0, .int .u8 0, .int .u8 0, .int .u8 0, .int .u8 0, .int .u8 0, .int .u8 0, .int .u8 0, .int .u8 0, .int .u8 0, .int .u8 0, .int .u8 0, .int .u8 0, .int .u8 0, .int .u8 0]] u fun e w' => e = .returned (.tuple #[]) ∧ VM P w w' bv bm x m (restC j i g pp b bj be A c dead) (fun k => if k = (a : Int) then zeroC y.lab hyl else at_ k) (fun k => k == (a : Int) || there k) (if there (a : Int) then n else n + 1)) := Lib.hid (fun u hv => by
    have hz : (bytesV (zeroC y.lab hyl).b).toArray = (#[.int .u8 0, .int .u8 0, .int .u8 0, .int .u8 0, .int .u8 0, .int .u8 0, .int .u8 0, .int .u8 0, .int .u8 0, .int .u8 0, .int .u8 0, .int .u8 0, .int .u8 0, .int .u8 0, .int .u8 0, .int .u8 0, .int .u8 0, .int .u8 0, .int .u8 0, .int .u8 0, .int .u8 0, .int .u8 0, .int .u8 0, .int .u8 0, .int .u8 0, .int .u8 0, .int .u8 0, .int .u8 0, .int .u8 0, .int .u8 0, .int .u8 0, .int .u8 0, .int .u8 0, .int .u8 0, .int .u8 0, .int .u8 0, .int .u8 0, .int .u8 0, .int .u8 0, .int .u8 0, .int .u8 0, .int .u8 0, .int .u8 0, .int .u8 0, .int .u8 0, .int .u8 0, .int .u8 0, .int .u8 0, .int .u8 0, .int .u8 0, .int .u8 0, .int .u8 0, .int .u8 0, .int .u8 0, .int .u8 0, .int .u8 0, .int .u8 0, .int .u8 0, .int .u8 0, .int .u8 0, .int .u8 0, .int .u8 0, .int .u8 0, .int .u8 0] : Array Value) := rfl
    rw [← hz]
    refine (put_ok hv.vs hv.map hn (a / pp) r y hq hy hl (by omega) a ha512 (zeroC y.lab hyl) rfl).mono ?_
    rintro e w' ⟨he, h1, h2⟩
    exact ⟨he, hv.put h1 h2⟩)
  generalize hat2 : (fun k => if k = (a : Int) then zeroC y.lab hyl else at_ k) = at2 at *
  generalize hth2 : (fun k => k == (a : Int) || there k) = there2 at *
  generalize hn2 : (if there (a : Int) then n else n + 1) = n2 at *
  clear hat2 hth2 hn2
  have HUS : Hid (∀ u : World, VM P w u bv bm x m (restC j i g pp b bj be A c dead) at2 there2 n2 → Calls Tryz.prog 85 #[.pointer (some ⟨bv, 0, none⟩), .int .i64 (a : Int), .bool false] u fun e w' => e = .returned (.tuple #[]) ∧ ∃ x', x'.oA = x.oA ∧ VM P w w' bv bm x' (freeU m a) (restC j i g pp b bj be A c dead) at2 there2 n2) := Lib.hid (fun u hv => by
    refine (use_ok hv.vs hu a ha512 false).mono ?_
    rintro e w' ⟨he, ⟨A2, c2, h1⟩, h2⟩
    exact ⟨he, { x with uA := A2, uc := c2 }, rfl, hv.turn h1 h2⟩)
  have HIN : Hid (∀ (u : World) (x' : Meta.Mem), VM P w u bv bm x' (freeU m a) (restC j i g pp b bj be A c dead) at2 there2 n2 → Calls Tryz.prog 90 #[.agg #[.int .i64 (j : Int), .int .i64 (i : Int), .int .i64 (g : Int), .int .i64 (pp : Int)], .slice x'.uA 64 x'.uc, .int .i64 ((a / pp : Nat) : Int)] u fun e w' => e = .returned (.bool (usedG pp (Bits.wb m.used a false) (a / pp))) ∧ Below u.heap.size u w') := Lib.hid (fun u x' hv =>
    inuse_any j i g pp (a / pp) (Bits.wb m.used a false) x'.uA x'.uc u (by rw [Bits.length_wb]; exact hu) hv.vs.met.lies.used hqp)
  have HREL : Hid (∀ (u : World) (x' : Meta.Mem), VM P w u bv bm x' (freeU m a) (restC j i g pp b bj be A c dead) at2 there2 n2 → usedG pp (Bits.wb m.used a false) (a / pp) = false → Calls Tryz.prog 91 #[.pointer (some ⟨bv, 0, none⟩), .int .i64 (r : Int)] u fun e w' => e = .returned (.tuple #[]) ∧ ∃ x2, x2.oA = x'.oA ∧ x2.oc = x'.oc ∧ VM P w w' bv bm x2 { freeU m a with rows := (Intern.relP m.rows (r : Int)).rows } (restC j i g pp b bj be A c dead) at2 there2 n2) := Lib.hid (fun u x' hv h0 => by
    refine (release_yes hv.vs (r : Int) (hrel h0)).mono ?_
    rintro e w' ⟨he, ⟨A2, c2, h1⟩, h2⟩
    exact ⟨he, { x' with rA := A2, rc := c2 }, rfl, rfl, hv.turn h1 h2⟩)
  have HV := Lib.hid h
  have HQ := Lib.hid hq
  have HU := Lib.hid hu
  have HG := Lib.hid hg
  have HQG := Lib.hid hqg
  have HRL : Hid (r < 16) := Lib.hid (by have := (List.getElem?_eq_some_iff.1 hy).1; omega)
  clear h hvg hn ha hbit hq hy hl hg hu hrel hg64 hgp ha512 hpp hqg hqp
  generalize ha' : a / pp = q at *
  generalize hub : usedG pp (Bits.wb m.used a false) q = ub at *
  go_enter Tryz.func36, Tryz.ntmps36
  go_wp2_with (first | (go_at_call 78; (with_reducible refine (HGO.out _ HV.out).mono ?_); rintro e w1 ⟨he, hb⟩; obtain rfl := he; replace HV := Lib.hid (HV.out.below hb); clear hb; obtain ⟨c0, c1, c2, c3, c4⟩ := HV.out.vs.cells) | (go_at_call 88; (with_reducible refine (HHA.out _ HV.out).mono ?_); rintro e w2 ⟨he, hb⟩; obtain rfl := he; replace HV := Lib.hid (HV.out.below hb); clear hb c0 c1 c2 c3 c4; obtain ⟨c0, c1, c2, c3, c4⟩ := HV.out.vs.cells) | (go_at_call 89; (with_reducible refine (HPU.out _ HV.out).mono ?_); rintro e w3 ⟨he, hv⟩; obtain rfl := he; replace HV := Lib.hid hv; clear hv c0 c1 c2 c3 c4) | (go_at_call 85; (with_reducible refine (HUS.out _ HV.out).mono ?_); rintro e w4 ⟨he, x4, hx4, hv⟩; obtain rfl := he; replace HV := Lib.hid hv; have HX4 := Lib.hid hx4; clear hv hx4))
  have HU4 : Hid ((freeU m a).used.length = 64) := Lib.hid (by unfold freeU; simp only [Bits.length_wb]; exact HU.out)
  have hS0 : VM P w w4.drew bv bm x4 (freeU m a) (restC j i g pp b bj be A c dead) at2 there2 n2 := HV.out.below (Below.refl _ _).drew
  refine wp_region_held_drew (S := fun u => VM P w u bv bm x4 (freeU m a) (restC j i g pp b bj be A c dead) at2 there2 n2) (by kernel_rfl) hS0 (fun hHeld => ?_)
  clear hS0 HV
  generalize hu0 : w4.drew = z0_ at *
  clear hu0
  refine wpAnyH_take (i := 0) (oi := _) (v := ?_) (by simp only [List.getElem?_toArray, List.getElem?_cons_zero]; rfl) (by kernel_rfl) (by kernel_rfl) (by kernel_rfl) (by exact fun _ _ _ h => h) (Or.inl ⟨by rfl, ?hya0⟩) (by exact hHeld) ?rea0
  case hya0 => (intro u hu; obtain ⟨c0, c1, c2, c3, c4⟩ := hu.vs.cells; obtain ⟨g0, g1, g2, g3⟩ := hu.vs.geo; rw [HU4.out] at c2; clear hu; go_simp <;> with_reducible rfl)
  try simp only [Act.put, List.setIfInBounds_toArray, List.set_cons_zero, List.set_cons_succ]
  refine wpAnyH_take (i := 1) (oi := _) (v := ?_) (by simp only [List.getElem?_toArray, List.getElem?_cons_succ, List.getElem?_cons_zero]; rfl) (by kernel_rfl) (by kernel_rfl) (by kernel_rfl) (by exact fun _ _ _ h => h) (Or.inl ⟨by rfl, ?hya1⟩) (by exact hHeld) ?rea1
  case hya1 => (intro u hu; obtain ⟨c0, c1, c2, c3, c4⟩ := hu.vs.cells; obtain ⟨g0, g1, g2, g3⟩ := hu.vs.geo; rw [HU4.out] at c2; clear hu; go_simp <;> with_reducible rfl)
  try simp only [Act.put, List.setIfInBounds_toArray, List.set_cons_zero, List.set_cons_succ]
  refine wpAnyH_take (i := 2) (oi := _) (v := ?_) (by simp only [List.getElem?_toArray, List.getElem?_cons_succ, List.getElem?_cons_zero]; rfl) (by kernel_rfl) (by kernel_rfl) (by kernel_rfl) (by exact fun _ _ _ h => h) (Or.inl ⟨by rfl, ?hya2⟩) (by exact hHeld) ?rea2
  case hya2 => (intro u hu; obtain ⟨c0, c1, c2, c3, c4⟩ := hu.vs.cells; obtain ⟨g0, g1, g2, g3⟩ := hu.vs.geo; rw [HU4.out] at c2; clear hu; go_simp <;> with_reducible rfl)
  try simp only [Act.put, List.setIfInBounds_toArray, List.set_cons_zero, List.set_cons_succ]
  refine wpAnyH_take (i := 3) (oi := _) (v := ?_) (by simp only [List.getElem?_toArray, List.getElem?_cons_succ, List.getElem?_cons_zero]; rfl) (by kernel_rfl) (by kernel_rfl) (by kernel_rfl) (by exact fun _ _ _ h => h) (Or.inl ⟨by rfl, ?hya3⟩) (by exact hHeld) ?rea3
  case hya3 => (intro u hu; obtain ⟨c0, c1, c2, c3, c4⟩ := hu.vs.cells; obtain ⟨g0, g1, g2, g3⟩ := hu.vs.geo; rw [HU4.out] at c2; clear hu; go_simp <;> with_reducible rfl)
  try simp only [Act.put, List.setIfInBounds_toArray, List.set_cons_zero, List.set_cons_succ]
  refine wpAnyH_take (i := 4) (oi := _) (v := ?_) (by simp only [List.getElem?_toArray, List.getElem?_cons_succ, List.getElem?_cons_zero]; rfl) (by kernel_rfl) (by kernel_rfl) (by kernel_rfl) (by exact fun _ _ _ h => h) (Or.inl ⟨by rfl, ?hya4⟩) (by exact hHeld) ?rea4
  case hya4 => (intro u hu; obtain ⟨c0, c1, c2, c3, c4⟩ := hu.vs.cells; obtain ⟨g0, g1, g2, g3⟩ := hu.vs.geo; rw [HU4.out] at c2; clear hu; go_simp <;> with_reducible rfl)
  try simp only [Act.put, List.setIfInBounds_toArray, List.set_cons_zero, List.set_cons_succ]
  refine wpAnyH_take (i := 5) (oi := _) (v := ?_) (by simp only [List.getElem?_toArray, List.getElem?_cons_succ, List.getElem?_cons_zero]; rfl) (by kernel_rfl) (by kernel_rfl) (by kernel_rfl) (by exact fun _ _ _ h => h) (Or.inl ⟨by rfl, ?hya5⟩) (by exact hHeld) ?rea5
  case hya5 => (intro u hu; obtain ⟨c0, c1, c2, c3, c4⟩ := hu.vs.cells; obtain ⟨g0, g1, g2, g3⟩ := hu.vs.geo; rw [HU4.out] at c2; clear hu; go_simp <;> with_reducible rfl)
  try simp only [Act.put, List.setIfInBounds_toArray, List.set_cons_zero, List.set_cons_succ]
  refine wpAnyH_take (i := 6) (oi := _) (v := ?_) (by simp only [List.getElem?_toArray, List.getElem?_cons_succ, List.getElem?_cons_zero]; rfl) (by kernel_rfl) (by kernel_rfl) (by kernel_rfl) (by exact fun _ _ _ h => h) (Or.inl ⟨by rfl, ?hya6⟩) (by exact hHeld) ?rea6
  case hya6 => (intro u hu; obtain ⟨c0, c1, c2, c3, c4⟩ := hu.vs.cells; obtain ⟨g0, g1, g2, g3⟩ := hu.vs.geo; rw [HU4.out] at c2; clear hu; go_simp <;> with_reducible rfl)
  try simp only [Act.put, List.setIfInBounds_toArray, List.set_cons_zero, List.set_cons_succ]
  refine wpAnyH_take (i := 7) (oi := _) (v := ?_) (by simp only [List.getElem?_toArray, List.getElem?_cons_succ, List.getElem?_cons_zero]; rfl) (by kernel_rfl) (by kernel_rfl) (by kernel_rfl) (by exact fun _ _ _ h => h) (Or.inl ⟨by rfl, ?hya7⟩) (by exact hHeld) ?rea7
  case hya7 => (intro u hu; obtain ⟨c0, c1, c2, c3, c4⟩ := hu.vs.cells; obtain ⟨g0, g1, g2, g3⟩ := hu.vs.geo; rw [HU4.out] at c2; clear hu; go_simp <;> with_reducible rfl)
  try simp only [Act.put, List.setIfInBounds_toArray, List.set_cons_zero, List.set_cons_succ]
  refine wpAnyH_take (i := 8) (oi := _) (v := ?_) (by simp only [List.getElem?_toArray, List.getElem?_cons_succ, List.getElem?_cons_zero]; rfl) (by kernel_rfl) (by kernel_rfl) (by kernel_rfl) (by exact fun _ _ _ h => h) (Or.inl ⟨by rfl, ?hya8⟩) (by exact hHeld) ?rea8
  case hya8 => (intro u hu; obtain ⟨c0, c1, c2, c3, c4⟩ := hu.vs.cells; obtain ⟨g0, g1, g2, g3⟩ := hu.vs.geo; rw [HU4.out] at c2; clear hu; go_simp <;> with_reducible rfl)
  try simp only [Act.put, List.setIfInBounds_toArray, List.set_cons_zero, List.set_cons_succ]
  refine wpAnyH_take (i := 9) (oi := _) (v := ?_) (by simp only [List.getElem?_toArray, List.getElem?_cons_succ, List.getElem?_cons_zero]; rfl) (by kernel_rfl) (by kernel_rfl) (by kernel_rfl) (by exact fun _ _ _ h => h) (Or.inl ⟨by rfl, ?hya9⟩) (by exact hHeld) ?rea9
  case hya9 => (intro u hu; obtain ⟨c0, c1, c2, c3, c4⟩ := hu.vs.cells; obtain ⟨g0, g1, g2, g3⟩ := hu.vs.geo; rw [HU4.out] at c2; clear hu; go_simp <;> with_reducible rfl)
  try simp only [Act.put, List.setIfInBounds_toArray, List.set_cons_zero, List.set_cons_succ]
  refine wpAnyH_take (i := 10) (oi := _) (v := ?_) (by simp only [List.getElem?_toArray, List.getElem?_cons_succ, List.getElem?_cons_zero]; rfl) (by kernel_rfl) (by kernel_rfl) (by kernel_rfl) (by exact fun _ _ _ h => h) (Or.inl ⟨by rfl, ?hya10⟩) (by exact hHeld) ?rea10
  case hya10 => (intro u hu; obtain ⟨c0, c1, c2, c3, c4⟩ := hu.vs.cells; obtain ⟨g0, g1, g2, g3⟩ := hu.vs.geo; rw [HU4.out] at c2; clear hu; go_simp <;> with_reducible rfl)
  try simp only [Act.put, List.setIfInBounds_toArray, List.set_cons_zero, List.set_cons_succ]
  refine wpAnyH_ready (rs := [11]) (by kernel_rfl) (by simp) ?_
  refine AllReadyH.cons (o := _) (by simp only [List.getElem?_toArray, List.getElem?_cons_succ, List.getElem?_cons_zero]; rfl) (fun K hK => ?_) AllReadyH.nil
  go_simp
  (with_reducible refine (HIN.out _ _ hHeld).mono ?_)
  rintro e w5 ⟨he, hb⟩; obtain rfl := he
  have hS := hHeld.below hb
  clear hb
  go_simp
  refine hK.out _ _ hS (fun hHeld2 => ?_)
  clear hK K hHeld hS
  have hHeld := hHeld2
  clear hHeld2
  try simp only [Act.put, List.setIfInBounds_toArray, List.set_cons_zero, List.set_cons_succ]
  refine wpAnyH_take (i := 12) (oi := _) (v := ?_) (by simp only [List.getElem?_toArray, List.getElem?_cons_succ, List.getElem?_cons_zero]; rfl) (by kernel_rfl) (by kernel_rfl) (by kernel_rfl) (by exact fun _ _ _ h => h) (Or.inl ⟨by rfl, ?hya12⟩) (by exact hHeld) ?rea12
  case hya12 => (intro u hu; obtain ⟨c0, c1, c2, c3, c4⟩ := hu.vs.cells; obtain ⟨g0, g1, g2, g3⟩ := hu.vs.geo; rw [HU4.out] at c2; clear hu; go_simp <;> with_reducible rfl)
  try simp only [Act.put, List.setIfInBounds_toArray, List.set_cons_zero, List.set_cons_succ]
  refine wpAnyH_done (by kernel_rfl) ?_ _
  have HV := Lib.hid hHeld
  clear hHeld HIN
  cases ub
  · have HUB := Lib.hid hub
    clear hub
    go_upto_region 9 with fail
    obtain ⟨gb, cb, hv, hcb⟩ := own_pos HV.out.vs.met.own (by unfold freeU; simp only; rw [HG.out]; have := HQG.out; omega)
    injection hv with hxo _ _
    have HXO := Lib.hid hxo
    have hw : IntKind.i64.wrap ((r : Int) + 1 - 1) = (r : Int) := by rw [IntKind.wrap_i64]; have := HRL.out; omega
    have hw2 : IntKind.i64.wrap (r : Int) = (r : Int) := by rw [IntKind.wrap_i64]; have := HRL.out; omega
    have hq0 : (0 : Int) ≤ (q : Int) := by omega
    have hq1 : (q : Int) < (g : Int) := by have := HQG.out; omega
    have hS0 : ∃ x5 M5, x5.oA = x4.oA ∧ x5.oc = x4.oc ∧ M5.own = m.own ∧ VM P w w5.drew bv bm x5 M5 (restC j i g pp b bj be A c dead) at2 there2 n2 := ⟨x4, freeU m a, rfl, rfl, rfl, HV.out.below (Below.refl _ _).drew⟩
    have HVz := Lib.hid (HV.out.below (Below.refl _ w5).drew)
    refine wp_region_held_drew (S := fun u => ∃ x5 M5, x5.oA = x4.oA ∧ x5.oc = x4.oc ∧ M5.own = m.own ∧ VM P w u bv bm x5 M5 (restC j i g pp b bj be A c dead) at2 there2 n2) (by kernel_rfl) hS0 (fun hHeld => ?_)
    clear hS0 HV
    generalize hu0 : w5.drew = z1_ at *
    clear hu0
    refine wpAnyH_take (i := 0) (oi := _) (v := ?_) (by simp only [List.getElem?_toArray, List.getElem?_cons_zero]; rfl) (by kernel_rfl) (by kernel_rfl) (by kernel_rfl) (by exact fun _ _ _ h => h) (Or.inl ⟨by rfl, ?hyb0⟩) (by exact hHeld) ?reb0
    case hyb0 => (intro u hu; obtain ⟨x5, M5, e1, e2, e3, hu⟩ := hu; obtain ⟨c0, c1, c2, c3, c4⟩ := hu.vs.cells; have hlo := hu.vs.met.lies.own; rw [e1, HXO.out] at hlo; rw [e3] at hlo; have hco := rd_int hlo HQ.out; rw [Nat.zero_add] at hco; rw [e1, e2, e3, HXO.out, HG.out] at c1; clear hlo hu e1 e2 e3 c0 c2 c3 c4; go_simp <;> with_reducible rfl)
    try simp only [Act.put, List.setIfInBounds_toArray, List.set_cons_zero, List.set_cons_succ]
    refine wpAnyH_take (i := 1) (oi := _) (v := ?_) (by simp only [List.getElem?_toArray, List.getElem?_cons_succ, List.getElem?_cons_zero]; rfl) (by kernel_rfl) (by kernel_rfl) (by kernel_rfl) (by exact fun _ _ _ h => h) (Or.inl ⟨by rfl, ?hyb1⟩) (by exact hHeld) ?reb1
    case hyb1 => (intro u hu; obtain ⟨x5, M5, e1, e2, e3, hu⟩ := hu; obtain ⟨c0, c1, c2, c3, c4⟩ := hu.vs.cells; have hlo := hu.vs.met.lies.own; rw [e1, HXO.out] at hlo; rw [e3] at hlo; have hco := rd_int hlo HQ.out; rw [Nat.zero_add] at hco; rw [e1, e2, e3, HXO.out, HG.out] at c1; clear hlo hu e1 e2 e3 c0 c2 c3 c4; go_simp <;> with_reducible rfl)
    try simp only [Act.put, List.setIfInBounds_toArray, List.set_cons_zero, List.set_cons_succ]
    refine wpAnyH_take (i := 2) (oi := _) (v := ?_) (by simp only [List.getElem?_toArray, List.getElem?_cons_succ, List.getElem?_cons_zero]; rfl) (by kernel_rfl) (by kernel_rfl) (by kernel_rfl) (by exact fun _ _ _ h => h) (Or.inl ⟨by rfl, ?hyb2⟩) (by exact hHeld) ?reb2
    case hyb2 => (intro u hu; obtain ⟨x5, M5, e1, e2, e3, hu⟩ := hu; obtain ⟨c0, c1, c2, c3, c4⟩ := hu.vs.cells; have hlo := hu.vs.met.lies.own; rw [e1, HXO.out] at hlo; rw [e3] at hlo; have hco := rd_int hlo HQ.out; rw [Nat.zero_add] at hco; rw [e1, e2, e3, HXO.out, HG.out] at c1; clear hlo hu e1 e2 e3 c0 c2 c3 c4; go_simp <;> with_reducible rfl)
    try simp only [Act.put, List.setIfInBounds_toArray, List.set_cons_zero, List.set_cons_succ]
    refine wpAnyH_take (i := 3) (oi := _) (v := ?_) (by simp only [List.getElem?_toArray, List.getElem?_cons_succ, List.getElem?_cons_zero]; rfl) (by kernel_rfl) (by kernel_rfl) (by kernel_rfl) (by exact fun _ _ _ h => h) (Or.inl ⟨by rfl, ?hyb3⟩) (by exact hHeld) ?reb3
    case hyb3 => (intro u hu; obtain ⟨x5, M5, e1, e2, e3, hu⟩ := hu; obtain ⟨c0, c1, c2, c3, c4⟩ := hu.vs.cells; have hlo := hu.vs.met.lies.own; rw [e1, HXO.out] at hlo; rw [e3] at hlo; have hco := rd_int hlo HQ.out; rw [Nat.zero_add] at hco; rw [e1, e2, e3, HXO.out, HG.out] at c1; clear hlo hu e1 e2 e3 c0 c2 c3 c4; go_simp <;> with_reducible rfl)
    try simp only [Act.put, List.setIfInBounds_toArray, List.set_cons_zero, List.set_cons_succ]
    refine wpAnyH_take (i := 4) (oi := _) (v := ?_) (by simp only [List.getElem?_toArray, List.getElem?_cons_succ, List.getElem?_cons_zero]; rfl) (by kernel_rfl) (by kernel_rfl) (by kernel_rfl) (by exact fun _ _ _ h => h) (Or.inl ⟨by rfl, ?hyb4⟩) (by exact hHeld) ?reb4
    case hyb4 => (intro u hu; obtain ⟨x5, M5, e1, e2, e3, hu⟩ := hu; obtain ⟨c0, c1, c2, c3, c4⟩ := hu.vs.cells; have hlo := hu.vs.met.lies.own; rw [e1, HXO.out] at hlo; rw [e3] at hlo; have hco := rd_int hlo HQ.out; rw [Nat.zero_add] at hco; rw [e1, e2, e3, HXO.out, HG.out] at c1; clear hlo hu e1 e2 e3 c0 c2 c3 c4; go_simp <;> with_reducible rfl)
    try simp only [Act.put, List.setIfInBounds_toArray, List.set_cons_zero, List.set_cons_succ]
    refine wpAnyH_take (i := 5) (oi := _) (v := ?_) (by simp only [List.getElem?_toArray, List.getElem?_cons_succ, List.getElem?_cons_zero]; rfl) (by kernel_rfl) (by kernel_rfl) (by kernel_rfl) (by exact fun _ _ _ h => h) (Or.inl ⟨by rfl, ?hyb5⟩) (by exact hHeld) ?reb5
    case hyb5 => (intro u hu; obtain ⟨x5, M5, e1, e2, e3, hu⟩ := hu; obtain ⟨c0, c1, c2, c3, c4⟩ := hu.vs.cells; have hlo := hu.vs.met.lies.own; rw [e1, HXO.out] at hlo; rw [e3] at hlo; have hco := rd_int hlo HQ.out; rw [Nat.zero_add] at hco; rw [e1, e2, e3, HXO.out, HG.out] at c1; clear hlo hu e1 e2 e3 c0 c2 c3 c4; go_simp <;> with_reducible rfl)
    try simp only [Act.put, List.setIfInBounds_toArray, List.set_cons_zero, List.set_cons_succ]
    refine wpAnyH_take (i := 6) (oi := _) (v := ?_) (by simp only [List.getElem?_toArray, List.getElem?_cons_succ, List.getElem?_cons_zero]; rfl) (by kernel_rfl) (by kernel_rfl) (by kernel_rfl) (by exact fun _ _ _ h => h) (Or.inl ⟨by rfl, ?hyb6⟩) (by exact hHeld) ?reb6
    case hyb6 => (intro u hu; obtain ⟨x5, M5, e1, e2, e3, hu⟩ := hu; obtain ⟨c0, c1, c2, c3, c4⟩ := hu.vs.cells; have hlo := hu.vs.met.lies.own; rw [e1, HXO.out] at hlo; rw [e3] at hlo; have hco := rd_int hlo HQ.out; rw [Nat.zero_add] at hco; rw [e1, e2, e3, HXO.out, HG.out] at c1; clear hlo hu e1 e2 e3 c0 c2 c3 c4; go_simp <;> with_reducible rfl)
    try simp only [Act.put, List.setIfInBounds_toArray, List.set_cons_zero, List.set_cons_succ]
    refine wpAnyH_take (i := 7) (oi := _) (v := ?_) (by simp only [List.getElem?_toArray, List.getElem?_cons_succ, List.getElem?_cons_zero]; rfl) (by kernel_rfl) (by kernel_rfl) (by kernel_rfl) (by exact fun _ _ _ h => h) (Or.inl ⟨by rfl, ?hyb7⟩) (by exact hHeld) ?reb7
    case hyb7 => (intro u hu; obtain ⟨x5, M5, e1, e2, e3, hu⟩ := hu; obtain ⟨c0, c1, c2, c3, c4⟩ := hu.vs.cells; have hlo := hu.vs.met.lies.own; rw [e1, HXO.out] at hlo; rw [e3] at hlo; have hco := rd_int hlo HQ.out; rw [Nat.zero_add] at hco; rw [e1, e2, e3, HXO.out, HG.out] at c1; clear hlo hu e1 e2 e3 c0 c2 c3 c4; go_simp <;> with_reducible rfl)
    try simp only [Act.put, List.setIfInBounds_toArray, List.set_cons_zero, List.set_cons_succ]
    refine wpAnyH_take (i := 8) (oi := _) (v := ?_) (by simp only [List.getElem?_toArray, List.getElem?_cons_succ, List.getElem?_cons_zero]; rfl) (by kernel_rfl) (by kernel_rfl) (by kernel_rfl) (by exact fun _ _ _ h => h) (Or.inl ⟨by rfl, ?hyb8⟩) (by exact hHeld) ?reb8
    case hyb8 => (intro u hu; obtain ⟨x5, M5, e1, e2, e3, hu⟩ := hu; obtain ⟨c0, c1, c2, c3, c4⟩ := hu.vs.cells; have hlo := hu.vs.met.lies.own; rw [e1, HXO.out] at hlo; rw [e3] at hlo; have hco := rd_int hlo HQ.out; rw [Nat.zero_add] at hco; rw [e1, e2, e3, HXO.out, HG.out] at c1; clear hlo hu e1 e2 e3 c0 c2 c3 c4; go_simp <;> with_reducible rfl)
    try simp only [Act.put, List.setIfInBounds_toArray, List.set_cons_zero, List.set_cons_succ]
    refine wpAnyH_take (i := 9) (oi := _) (v := ?_) (by simp only [List.getElem?_toArray, List.getElem?_cons_succ, List.getElem?_cons_zero]; rfl) (by kernel_rfl) (by kernel_rfl) (by kernel_rfl) (by exact fun _ _ _ h => h) (Or.inl ⟨by rfl, ?hyb9⟩) (by exact hHeld) ?reb9
    case hyb9 => (intro u hu; obtain ⟨x5, M5, e1, e2, e3, hu⟩ := hu; obtain ⟨c0, c1, c2, c3, c4⟩ := hu.vs.cells; have hlo := hu.vs.met.lies.own; rw [e1, HXO.out] at hlo; rw [e3] at hlo; have hco := rd_int hlo HQ.out; rw [Nat.zero_add] at hco; rw [e1, e2, e3, HXO.out, HG.out] at c1; clear hlo hu e1 e2 e3 c0 c2 c3 c4; go_simp <;> with_reducible rfl)
    try simp only [Act.put, List.setIfInBounds_toArray, List.set_cons_zero, List.set_cons_succ]
    refine wpAnyH_take (i := 10) (oi := _) (v := ?_) (by simp only [List.getElem?_toArray, List.getElem?_cons_succ, List.getElem?_cons_zero]; rfl) (by kernel_rfl) (by kernel_rfl) (by kernel_rfl) (by exact fun _ _ _ h => h) (Or.inl ⟨by rfl, ?hyb10⟩) (by exact hHeld) ?reb10
    case hyb10 => (intro u hu; obtain ⟨x5, M5, e1, e2, e3, hu⟩ := hu; obtain ⟨c0, c1, c2, c3, c4⟩ := hu.vs.cells; have hlo := hu.vs.met.lies.own; rw [e1, HXO.out] at hlo; rw [e3] at hlo; have hco := rd_int hlo HQ.out; rw [Nat.zero_add] at hco; rw [e1, e2, e3, HXO.out, HG.out] at c1; clear hlo hu e1 e2 e3 c0 c2 c3 c4; go_simp <;> with_reducible rfl)
    try simp only [Act.put, List.setIfInBounds_toArray, List.set_cons_zero, List.set_cons_succ]
    refine wpAnyH_take (i := 11) (oi := _) (v := ?_) (by simp only [List.getElem?_toArray, List.getElem?_cons_succ, List.getElem?_cons_zero]; rfl) (by kernel_rfl) (by kernel_rfl) (by kernel_rfl) (by exact fun _ _ _ h => h) (Or.inl ⟨by rfl, ?hyb11⟩) (by exact hHeld) ?reb11
    case hyb11 => (intro u hu; obtain ⟨x5, M5, e1, e2, e3, hu⟩ := hu; obtain ⟨c0, c1, c2, c3, c4⟩ := hu.vs.cells; have hlo := hu.vs.met.lies.own; rw [e1, HXO.out] at hlo; rw [e3] at hlo; have hco := rd_int hlo HQ.out; rw [Nat.zero_add] at hco; rw [e1, e2, e3, HXO.out, HG.out] at c1; clear hlo hu e1 e2 e3 c0 c2 c3 c4; go_simp <;> with_reducible rfl)
    try simp only [Act.put, List.setIfInBounds_toArray, List.set_cons_zero, List.set_cons_succ]
    refine wpAnyH_take (i := 12) (oi := _) (v := ?_) (by simp only [List.getElem?_toArray, List.getElem?_cons_succ, List.getElem?_cons_zero]; rfl) (by kernel_rfl) (by kernel_rfl) (by kernel_rfl) (by exact fun _ _ _ h => h) (Or.inl ⟨by rfl, ?hyb12⟩) (by exact hHeld) ?reb12
    case hyb12 => (intro u hu; obtain ⟨x5, M5, e1, e2, e3, hu⟩ := hu; obtain ⟨c0, c1, c2, c3, c4⟩ := hu.vs.cells; have hlo := hu.vs.met.lies.own; rw [e1, HXO.out] at hlo; rw [e3] at hlo; have hco := rd_int hlo HQ.out; rw [Nat.zero_add] at hco; rw [e1, e2, e3, HXO.out, HG.out] at c1; clear hlo hu e1 e2 e3 c0 c2 c3 c4; go_simp <;> with_reducible rfl)
    try simp only [Act.put, List.setIfInBounds_toArray, List.set_cons_zero, List.set_cons_succ]
    refine wpAnyH_ready (rs := [13]) (by kernel_rfl) (by simp) ?_
    refine AllReadyH.cons (o := _) (by simp only [List.getElem?_toArray, List.getElem?_cons_succ, List.getElem?_cons_zero]; rfl) (fun K hK => ?_) AllReadyH.nil
    go_simp
    (with_reducible refine (HREL.out _ _ HVz.out rfl).mono ?_)
    rintro e w6 ⟨he, x7, e1, e2, hv⟩; obtain rfl := he
    have hS : ∃ x5 M5, x5.oA = x4.oA ∧ x5.oc = x4.oc ∧ M5.own = m.own ∧ VM P w w6 bv bm x5 M5 (restC j i g pp b bj be A c dead) at2 there2 n2 := ⟨x7, { freeU m a with rows := (Intern.relP m.rows (r : Int)).rows }, e1, e2, rfl, hv⟩
    have HV := Lib.hid hv
    have HX7 := Lib.hid (e1.trans HXO.out)
    clear hv e1 e2
    go_simp
    refine hK.out _ _ hS (fun hHeld2 => ?_)
    clear hK K hHeld hS
    have hHeld := hHeld2
    clear hHeld2
    try simp only [Act.put, List.setIfInBounds_toArray, List.set_cons_zero, List.set_cons_succ]
    refine wpAnyH_done (by kernel_rfl) ?_ _
    clear hHeld HREL hw hw2
    obtain ⟨c0, c1, c2, c3, c4⟩ := HV.out.vs.cells
    have ho := HV.out.vs.met.own
    rw [HX7.out] at ho c1
    have hol : (freeU m a).own.length = g := HG.out
    obtain ⟨⟨zc, hzc⟩, hfz⟩ := own_one ho q (by rw [Nat.mul_one, hol]; exact HQG.out)
    simp only [hol] at c1
    clear ho c0 c2 c3 c4
    go_wp2
    go_ret
    refine ⟨rfl, x7, ?_⟩
    have := HV.out.owner HX7.out q 0
    unfold freeL
    rw [ha']
    exact this
  · go_wp2
    go_ret
    exact ⟨rfl, x4, HV.out⟩
end Go.Proofs.YtcjkbmmjpkghlaaGreat.Vol
