/-
  A sector is written.
-/
import Derived.Test.YtcjkbmmjpkghlaaGreatQDisk
import Derived.Test.YtcjkbmmjpkghlaaGreatQF
namespace Go.Proofs.YtcjkbmmjpkghlaaGreat
open Go.RowKit
attribute [local go_sem ↓] Go.wp_at_zero Go.wp_at_succ

section
variable {α : Type} {f : α → List Value}

/-- A disk behind a new block. -/
theorem Mem.alloc {w : World} {b bn bs cn cs : Nat} {vu : Value} {now safe : List α} {un : List (Nat × α)} {dead cut : Bool} {left done : Int} (h : Mem f w b bn bs cn cs vu now safe un dead cut left done) (o : Obj) : Mem f (w.alloc o) b bn bs cn cs vu now safe un dead cut left done :=
  h.keep fun i hi => Below.heap_alloc w o i (h.lt hi)

abbrev MemK (f : α → List Value) (w : World) (b bn bs cn cs : Nat) (vu : Value) (k : Dk α) : Prop := Mem f w b bn bs cn cs vu k.now k.safe k.un k.dead k.cut k.left k.done

theorem op_off (w : World) (b bn bs cn cs : Nat) (vu : Value) (k : Dk α) (hm : MemK f w b bn bs cn cs vu k) (ho : k.off = true) :
    Calls Tryz.prog 159 #[.pointer (some ⟨b, 0, none⟩)] w fun e w' => e = .returned (.bool false) ∧ w.grownBy w' (some b) ∧ MemK f w' b bn bs cn cs vu k.op := by
  refine (op_any _ _ _ _ _ _ _ _ _ _ _ _ _ _ hm).mono ?_
  rintro e w' ⟨rfl, hg, h⟩
  rw [← Dk.off, ho] at h ⊢
  refine ⟨rfl, hg, ?_⟩
  have e1 : k.op = { k with dead := true } := by unfold Dk.op; rw [if_pos ho]
  rw [e1]
  exact h

theorem op_on (w : World) (b bn bs cn cs : Nat) (vu : Value) (k : Dk α) (hm : MemK f w b bn bs cn cs vu k) (ho : k.off = false) :
    Calls Tryz.prog 159 #[.pointer (some ⟨b, 0, none⟩)] w fun e w' => e = .returned (.bool true) ∧ w.grownBy w' (some b) ∧ MemK f w' b bn bs cn cs vu k.op := by
  refine (op_any _ _ _ _ _ _ _ _ _ _ _ _ _ _ hm).mono ?_
  rintro e w' ⟨rfl, hg, h⟩
  rw [← Dk.off, ho] at h ⊢
  refine ⟨rfl, hg, ?_⟩
  have e1 : k.op = { k with left := if k.cut then wrap64 (k.left - 1) else k.left, done := wrap64 (k.done + 1) } := by unfold Dk.op; rw [if_neg (by rw [ho]; decide)]
  rw [e1]
  exact h

theorem write_nil (w : World) (s : Int) (v u : Value) :
    Calls Tryz.prog 95 #[.pointer none, .agg #[.int .i64 s, v, u]] w fun e w' => e = .returned (.int .i64 2) ∧ Below w.heap.size w w' := by
  go_enter Tryz.func95, Tryz.ntmps95
  go_wp2
  go_ret
  exact ⟨rfl, (Below.refl _ w).alloc (Nat.le_refl _) _⟩

theorem write_off (w : World) (S : Nat → Prop) (b : Nat) (k : Dk α) (h : IsDisk f w S b k) (s : Nat) (hs : s < k.safe.length) (A : Option Addr) (cp : Nat) (t : Value) (hoff : k.off = true) :
    Calls Tryz.prog 95 #[.pointer (some ⟨b, 0, none⟩), .agg #[.int .i64 (s : Int), .slice A 64 cp, t]] w fun e w' => e = .returned (.int .i64 6) ∧ Turned f S w w' b k.op := by
  obtain ⟨bn, bs, cn, cs, vu, rfl, hm⟩ := h
  have hin : (decide (0 ≤ (s : Int)) && decide ((s : Int) < (k.safe.length : Int))) = true := by simp; omega
  have H := Lib.hid hm
  have Hin := Lib.hid hin
  have Hoff := Lib.hid hoff
  clear hm hin hoff hs
  go_enter Tryz.func95, Tryz.ntmps95
  go_wp2_with (first
    | (go_at_call 158; refine (has_mem _ _ _ _ _ _ _ _ _ _ _ _ _ _ (H.out.alloc _) _).mono ?_; rintro e w' ⟨rfl, rfl⟩; rw [Hin.out])
    | (go_at_call 159; refine (op_off _ _ _ _ _ _ _ _ (H.out.alloc _) Hoff.out).mono ?_; rintro e w' ⟨rfl, hg, hop⟩; replace hop := Lib.hid hop; replace hg := Lib.hid hg))
  go_ret
  have hb0 : Kept (foot b bn bs vu) w (w.alloc (.cells #[.int .i64 (s : Int), .slice A 64 cp, t] 110)) := Kept.of_below ((Below.refl _ w).alloc (Nat.le_refl _) _)
  exact ⟨rfl, hb0.trans (Kept.of_grown (S := foot b bn bs vu) hg.out (by rintro _ h; injection h with h; exact .inl h.symm)) (fun i hi => .inl hi), _, ⟨bn, bs, cn, cs, vu, rfl, hop.out⟩, fun i hi => .inl hi⟩

theorem write_bad (w : World) (S : Nat → Prop) (b : Nat) (k : Dk α) (h : IsDisk f w S b k) (s : Int) (hs : k.has s = false) (v u : Value) :
    Calls Tryz.prog 95 #[.pointer (some ⟨b, 0, none⟩), .agg #[.int .i64 s, v, u]] w fun e w' => e = .returned (.int .i64 1) ∧ Below w.heap.size w w' := by
  obtain ⟨bn, bs, cn, cs, vu, rfl, hm⟩ := h
  have H := Lib.hid hm
  have Hin := Lib.hid hs
  clear hm hs
  unfold Dk.has at Hin
  go_enter Tryz.func95, Tryz.ntmps95
  go_wp2_with (go_at_call 158; refine (has_mem _ _ _ _ _ _ _ _ _ _ _ _ _ _ (H.out.alloc _) _).mono ?_; rintro e w' ⟨rfl, rfl⟩; rw [Hin.out])
  go_ret
  exact ⟨rfl, (Below.refl _ w).alloc (Nat.le_refl _) _⟩

theorem fill_get (vs : List Value) : ∀ (n o : Nat) (arr : Array Value) (k : Nat), ((vs.zipIdx n).foldl (fun cs x => cs.setIfInBounds (o + x.2) x.1) arr)[k]? = if o + n ≤ k ∧ k < o + n + vs.length ∧ k < arr.size then vs[k - (o + n)]? else arr[k]? := by
  induction vs with
  | nil => intro n o arr k; simp; omega
  | cons v r ih =>
    intro n o arr k
    rw [List.zipIdx_cons, List.foldl_cons, ih (n + 1) o _ k]
    simp only [Array.size_setIfInBounds, List.length_cons, Array.getElem?_setIfInBounds]
    by_cases h1 : k = o + n
    · subst h1
      rw [if_neg (by omega)]
      by_cases h2 : o + n < arr.size
      · simp [h2]
      · simp [h2]
    · by_cases h2 : o + n ≤ k ∧ k < o + n + (r.length + 1) ∧ k < arr.size
      · rw [if_pos (by omega), if_pos h2]
        have e : k - (o + n) = (k - (o + (n + 1))) + 1 := by omega
        rw [e, List.getElem?_cons_succ]
      · rw [if_neg (by omega), if_neg h2, if_neg (by omega)]

theorem one_cells {t : Value} (h : t.oneCell' = true) : t.cells = #[t] := by
  cases t <;> first | rfl | cases h

theorem fill_size (vs : List Value) : ∀ (n o : Nat) (arr : Array Value), ((vs.zipIdx n).foldl (fun cs x => cs.setIfInBounds (o + x.2) x.1) arr).size = arr.size := by
  induction vs with
  | nil => intro n o arr; rfl
  | cons v r ih => intro n o arr; rw [List.zipIdx_cons, List.foldl_cons, ih]; simp

theorem zero65 : Tryz.t188.zero = some (.agg (.int .i64 0 :: z65).toArray) := by kernel_rfl

/-- What the walk meets at the two structs that are built. -/
theorem zeroV63 (W : World) : (zeroValue 148).run Tryz.prog W = .ok (.agg z65.toArray) W := by
  have e0 : Tryz.prog.info? 148 = some Tryz.t148 := by kernel_rfl
  simp [zeroValue, typeInfo, e0, zero63]
theorem zeroV65 (W : World) : (zeroValue 188).run Tryz.prog W = .ok (.agg (.int .i64 0 :: z65).toArray) W := by
  have e0 : Tryz.prog.info? 188 = some Tryz.t188 := by kernel_rfl
  simp [zeroValue, typeInfo, e0, zero65]
theorem lenz65 : z65.length = 65 := by kernel_rfl
theorem fold63 (bs' : List Value) (hl : bs'.length = 64) (t : Value) : (bs'.zipIdx.foldl (fun cs x => cs.setIfInBounds x.2 x.1) z65.toArray).size = 65 ∧ (bs'.zipIdx.foldl (fun cs x => cs.setIfInBounds x.2 x.1) z65.toArray).setIfInBounds 64 t = (bs' ++ [t]).toArray := by
  have f1 := fill_size bs' 0 0 z65.toArray
  have f2 := fill_get bs' 0 0 z65.toArray
  have hz : z65.toArray.size = 65 := by kernel_rfl
  simp only [Nat.zero_add] at f1 f2
  refine ⟨f1.trans hz, ?_⟩
  apply Array.ext_getElem?
  intro k
  rw [Array.getElem?_setIfInBounds, f1, hz, f2, hz]
  simp only [hl, List.getElem?_toArray]
  by_cases h64 : 64 = k
  · subst h64
    simp [hl]
  · rw [if_neg h64]
    rcases Nat.lt_or_ge k 64 with hk | hk
    · rw [if_pos (by omega), List.getElem?_append_left (by omega)]
      simp
    · rw [if_neg (by omega), List.getElem?_eq_none (by rw [lenz65]; omega)]
      exact (List.getElem?_eq_none (by simp [hl]; omega)).symm
theorem fold65 (c : List Value) (hl : c.length = 65) (s : Int) : (c.zipIdx.foldl (fun cs x => cs.setIfInBounds (1 + x.2) x.1) (.int .i64 s :: z65).toArray) = (.int .i64 s :: c).toArray := by
  have f2 := fill_get c 0 1 (.int .i64 s :: z65).toArray
  apply Array.ext_getElem?
  intro k
  rw [f2]
  simp only [List.size_toArray, List.length_cons, lenz65, hl, List.getElem?_toArray]
  cases k with
  | zero => simp
  | succ k =>
    simp only [List.getElem?_cons_succ]
    rcases Nat.lt_or_ge k 65 with hk | hk
    · rw [if_pos (by omega)]
      congr 1
    · rw [if_neg (by omega), List.getElem?_eq_none (by rw [lenz65]; omega), List.getElem?_eq_none (by omega)]

/-- A sector is put. -/
theorem Mem.put {w : World} {b bn bs cn cs : Nat} {vu : Value} {now safe : List α} {un : List (Nat × α)} {dead cut : Bool} {left done : Int} (h : Mem f w b bn bs cn cs vu now safe un dead cut left done) (hf : Enc f) {s : Nat} (hs : s < now.length) (c : α) : Mem f (w.setCells bn (s * 65) (f c)) b bn bs cn cs vu (now.set s c) safe un dead cut left done := by
  have ho := fun k (hk : k ≠ bn) => setCells_other bn (f c) (s * 65) w k hk
  refine ⟨by rw [List.length_set]; exact (ho b h.b_bn).trans h.blk, ?_, h.safeR.keep (ho bs h.ne.symm), h.unR.keep fun i hi => ho i (h.bu hi).2.1, h.ne, by simpa using h.len, h.idx⟩
  rw [List.map_set]
  exact h.nowR.set (by simpa using hs) (hf.len c) (hf.one c)

theorem URow.owns {w : World} {vu : Value} {L : List (List Value)} (h : URow w vu L) : w.ownsRow 0 188 66 vu L.length L.flatten := by
  rcases h with ⟨rfl, rfl⟩ | ⟨bu, cu, rfl, h⟩
  · exact World.ownsRow_nil w 0 188 66
  · exact h.owns

theorem ent_len (hf : Enc f) (p : Nat × α) : (ent f p).length = 66 := by simp [ent, hf.len]
theorem ent_one (hf : Enc f) (p : Nat × α) : ∀ u ∈ ent f p, u.oneCell' = true := by
  intro u hu
  simp only [ent, List.mem_cons] at hu
  rcases hu with rfl | hu
  · rfl
  · exact hf.one _ u hu

/-- One write more. -/
theorem Mem.grow {w w' : World} {b bn bs cn cs g cap : Nat} {vu : Value} {now safe : List α} {un : List (Nat × α)} {dead cut : Bool} {left done : Int} (h : Mem f w b bn bs cn cs vu now safe un dead cut left done) (hf : Enc f) {p : Nat × α} (hp : p.1 < safe.length)
    (hg : w.grownBy w' vu.ownBlock) (hat : vu.ownBlock = some g ∨ g = w.heap.size) (ho : w'.ownsRow 0 188 66 (.slice (some ⟨g, 0, none⟩) (un.length + 1) cap) (un.length + 1) ((un.map (ent f)).flatten ++ ent f p)) :
    Mem f (w'.setCell ⟨b, 2, none⟩ (.slice (some ⟨g, 0, none⟩) (un.length + 1) cap)) b bn bs cn cs (.slice (some ⟨g, 0, none⟩) (un.length + 1) cap) now safe (un ++ [p]) dead cut left done ∧ g ≠ b := by
  have hgb : g ≠ b := by
    rcases hat with hat | hat
    · exact (h.bu hat).1
    · have := h.blk.lt; omega
  have e1 : ∀ k, k < w.heap.size → vu.ownBlock ≠ some k → k ≠ b → (w'.setCell ⟨b, 2, none⟩ (.slice (some ⟨g, 0, none⟩) (un.length + 1) cap)).heap[k]? = w.heap[k]? := fun k hk h1 h2 => (Below.heap_setCell w' _ _ k h2).trans (hg.block k hk fun e => h1 e.symm)
  have hb' : Bk w' b 126 _ := h.blk.grown hg fun e => (h.bu e.symm).1 rfl
  refine ⟨⟨?_, h.nowR.keep (e1 bn h.nowR.lt (fun e => (h.bu e).2.1 rfl) h.b_bn.symm), h.safeR.keep (e1 bs h.safeR.lt (fun e => (h.bu e).2.2 rfl) h.b_bs.symm), .inr ⟨g, cap, by simp, ?_⟩, h.ne, h.len, ?_⟩, hgb⟩
  · exact hb'.set 2 _
  · have := Row.of_owns (L := (un ++ [p]).map (ent f)) (by simpa using ho) (by simp) (by
      intro c hc
      obtain ⟨q, _, rfl⟩ := List.mem_map.1 hc
      exact ent_len hf q) (by
      intro c hc
      obtain ⟨q, _, rfl⟩ := List.mem_map.1 hc
      exact ent_one hf q)
    exact this.keep (Below.heap_setCell w' _ _ g hgb)
  · intro q hq
    rcases List.mem_append.1 hq with hq | hq
    · exact h.idx q hq
    · obtain rfl : q = p := by simpa using hq
      exact hp

theorem Mem.far {w : World} {b bn bs cn cs : Nat} {vu : Value} {now safe : List α} {un : List (Nat × α)} {dead cut : Bool} {left done : Int} (h : Mem f w b bn bs cn cs vu now safe un dead cut left done) {x : Nat} {c : Array Value} {e : TypeId} (hx : w.heap[x]? = some (.cells c e (0, 0))) (he : e ≠ 188) : some x ≠ vu.ownBlock := by
  intro hi
  rcases h.unR with ⟨rfl, _⟩ | ⟨bu, cu, rfl, hr⟩
  · cases hi
  · cases hi
    obtain ⟨d, hd⟩ := hr.elemType
    exact type_ne hx hd he rfl

theorem write_end (hf : Enc f) {w w3 w4 : World} {b bn bs cn cs g cap s : Nat} {vu : Value} {k : Dk α} {c : α} {B : Obj} (hK : Kept (foot b bn bs vu) w w3) (hm : Mem f (w3.alloc B).drew b bn bs cn cs vu (k.op.now.set s c) k.op.safe k.op.un k.op.dead k.op.cut k.op.left k.op.done) (hs : s < k.op.safe.length)
    (hg : (w3.alloc B).drew.grownBy w4 vu.ownBlock) (hat : vu.ownBlock = some g ∨ g = (w3.alloc B).drew.heap.size) (ho : w4.ownsRow 0 188 66 (.slice (some ⟨g, 0, none⟩) (k.op.un.length + 1) cap) (k.op.un.length + 1) ((k.op.un.map (ent f)).flatten ++ ent f (s, c))) :
    Turned f (foot b bn bs vu) w (w4.setCell ⟨b, 2, none⟩ (.slice (some ⟨g, 0, none⟩) (k.op.un.length + 1) cap)) b (k.wrote s c) := by
  obtain ⟨hm5, hgb⟩ := hm.grow hf (p := (s, c)) hs hg hat ho
  have k1 : Kept (foot b bn bs vu) w3 (w3.alloc B).drew := (Kept.of_below ((Below.refl _ w3).alloc (Nat.le_refl _) _)).drew
  have k2 : Kept (foot b bn bs vu) (w3.alloc B).drew w4 := Kept.of_grown hg fun i hi => .inr (.inr (.inr hi))
  have k3 : Kept (foot b bn bs vu) w4 (w4.setCell ⟨b, 2, none⟩ (.slice (some ⟨g, 0, none⟩) (k.op.un.length + 1) cap)) := Kept.of_grown (row := some b) (only_set (World.grownBy.refl w4 _) 2 _) (by rintro _ h; injection h with h; exact .inl h.symm)
  refine ⟨((hK.trans k1 fun i hi => .inl hi).trans k2 fun i hi => .inl hi).trans k3 fun i hi => .inl hi, _, ⟨bn, bs, cn, cs, .slice (some ⟨g, 0, none⟩) (k.op.un.length + 1) cap, rfl, ?_⟩, ?_⟩
  · have e1 : (k.wrote s c).now = k.op.now.set s c := by
      simp only [Dk.now, Dk.wrote, puts_append, Dk.op_un, puts_cons, puts_nil]
    have e2 : (k.wrote s c).un = k.op.un ++ [(s, c)] := by simp [Dk.wrote, Dk.op_un]
    rw [e1, e2]
    exact hm5
  · rintro i (rfl | rfl | rfl | hi)
    · exact .inl (.inl rfl)
    · exact .inl (.inr (.inl rfl))
    · exact .inl (.inr (.inr (.inl rfl)))
    · simp only [Value.ownBlock, Option.some.injEq] at hi
      subst hi
      rcases hat with hat | hat
      · exact .inl (.inr (.inr (.inr hat)))
      · right
        have := hK.size
        simp at hat
        omega

theorem run_buildSlice57 (W : World) (v : List Value) (hl : v.length = 66) : (Instr.buildSlice 124 1 #[(0, .agg v.toArray)]).run Tryz.prog W = .ok (.slice (some ⟨W.heap.size, 0, none⟩) 1 1) (W.alloc (.cells v.toArray 188)) := by
  obtain ⟨Z, hZ⟩ : ∃ Z : Array Value, Z = (Array.range 66).map ((Value.agg (Value.int .i64 0 :: z65).toArray).cells[· % (Value.agg (Value.int .i64 0 :: z65).toArray).cells.size]!) := ⟨_, rfl⟩
  have hZs : Z.size = 66 := by rw [hZ]; simp
  have hz : ∀ W : World, (zeroValue 188).run Tryz.prog W = .ok (.agg (Value.int .i64 0 :: z65).toArray) W := zeroV65
  have hfill : v.zipIdx.foldl (fun cs x => cs.setIfInBounds (0 + x.2) x.1) Z = v.toArray := by
    apply Array.ext_getElem?
    intro k
    rw [fill_get, hZs]
    simp only [hl, List.getElem?_toArray]
    rcases Nat.lt_or_ge k 66 with hk | hk
    · rw [if_pos (by omega)]
      congr 1
    · rw [if_neg (by omega), Array.getElem?_eq_none (by omega), List.getElem?_eq_none (by omega)]
  have c1 : (Value.agg v.toArray).cells = v.toArray := rfl
  unfold Instr.buildSlice
  simp only [Sem.run_bind, Tryz.runUnderlying124, Result.andThen_ok, Tryz.sizeOf188]
  simp only [Nat.zero_add] at hfill
  simp [Instr.fill, hz]
  rw [← hZ]
  simp [c1, hl, hfill]
  simp [newRow]

theorem wp_buildSlice57 {o : Oper} {a : Act} {w : World} {K : Act → World → Prop} {Q : Exit → Act → World → Prop} (x : Operand) (ho : o.op = .buildSlice 124 1 #[(0, x)]) (v : List Value) (hx : a.eval x = .agg v.toArray) (hl : v.length = 66)
    (h : K (a.put o.dst (.slice (some ⟨w.heap.size, 0, none⟩) 1 1)) (w.alloc (.cells v.toArray 188))) : o.wp Tryz.prog a w K Q := by
  unfold Oper.wp execOp
  simp only [ho, List.map_toArray, List.map_cons, List.map_nil, hx, Sem.run_bind, run_buildSlice57 w v hl, Result.andThen_ok]
  exact h

theorem run_arrayAt (W : World) (a : Addr) (cp : Nat) : (Instr.arrayAt 131 (.slice (some a) 64 cp)).run Tryz.prog W = .ok (.pointer (some a)) W := by
  simp [Instr.arrayAt, Sem.run_bind, Tryz.runUnderlying131]

set_option maxRecDepth 100000 in
set_option maxHeartbeats 800000 in
theorem write_any (hf : Enc f) (w : World) (S : Nat → Prop) (b : Nat) (k : Dk α) (h : IsDisk f w S b k) (s : Nat) (hs : s < k.safe.length) (ba oa cp : Nat) (bs' : List Value) (t : Int) (c : α) (hc : f c = bs' ++ [.int .u16 t]) (hl : bs'.length = 64) (hr : w.rangeAt ba oa bs') (hS : ¬ S ba) (hlt : ba < w.heap.size) (hun : k.un.length ≤ 1073741824) (hoff : k.off = false) :
    Calls Tryz.prog 95 #[.pointer (some ⟨b, 0, none⟩), .agg #[.int .i64 (s : Int), .slice (some ⟨ba, oa, none⟩) 64 cp, .int .u16 t]] w fun e w' => e = .returned (.int .i64 0) ∧ Turned f S w w' b (k.wrote s c) := by
  obtain ⟨bn, bs, cn, cs, vu, rfl, hm⟩ := h
  have hin : (decide (0 ≤ (s : Int)) && decide ((s : Int) < (k.safe.length : Int))) = true := by simp; omega
  have H := Lib.hid hm
  have Hin := Lib.hid hin
  have Hoff := Lib.hid hoff
  have HS := Lib.hid hS
  have Hr := Lib.hid hr
  have Hs := Lib.hid hs
  have Hf := Lib.hid hf
  have Hc := Lib.hid hc
  clear hm hin hoff hs hS hr hf hc
  go_enter Tryz.func95, Tryz.ntmps95
  go_wp2_with (first
    | (go_at_call 158; refine (has_mem _ _ _ _ _ _ _ _ _ _ _ _ _ _ (H.out.alloc _) _).mono ?_; rintro e w' ⟨rfl, rfl⟩; rw [Hin.out])
    | (go_at_call 159; refine (op_on _ _ _ _ _ _ _ _ (H.out.alloc _) Hoff.out).mono ?_; rintro e w1 ⟨rfl, hg, hop⟩; replace hop := Lib.hid hop; replace hg := Lib.hid hg))
  have hW := hg.out
  obtain ⟨gb, hgb⟩ : ∃ gb, gb = w.heap.size := ⟨_, rfl⟩
  have hbl : b ≠ gb := by have := H.out.blk.lt; omega
  have hsz1 : gb + 1 ≤ w1.heap.size := by have := hW.size; simp at this; omega
  have hbox : w1.heap[gb]? = some (.cells #[.int .i64 (s : Int), .slice (some ⟨ba, oa, none⟩) 64 cp, .int .u16 t] 110 (0, 0)) := by
    rw [hW.block gb (by simp; omega) (by rintro e; injection e with e; exact hbl e.symm), hgb]
    exact heap_alloc_new w _
  have hb0 : w1.cell? ⟨gb, 0, none⟩ = some (.int .i64 (s : Int)) := cell_of_row w1 gb 0 _ 110 (0, 0) hbox
  have hb1 : w1.cell? ⟨gb, 1, none⟩ = some (.slice (some ⟨ba, oa, none⟩) 64 cp) := cell_of_row w1 gb 1 _ 110 (0, 0) hbox
  have hb2 : w1.cell? ⟨gb, 2, none⟩ = some (.int .u16 t) := cell_of_row w1 gb 2 _ 110 (0, 0) hbox
  have hr1 : w1.rangeAt ba oa bs' := range_of_block (range_of_block Hr.out (Below.heap_alloc w _ ba hlt)) (hW.block ba (by simp; omega) (by rintro e; injection e with e; exact HS.out (.inl e)))
  rw [← hgb] at *
  have Hbox := Lib.hid hbox
  clear hW hbox
  have hu61 := Tryz.underlying131
  have hat : ∀ W : World, (Instr.arrayAt 131 (.slice (some ⟨ba, oa, none⟩) 64 cp)).run Tryz.prog W = .ok (.pointer (some ⟨ba, oa, none⟩)) W := fun W => run_arrayAt W _ cp
  have hi61 : (Tryz.prog.info? 131).map (·.size) = some bs'.length := by rw [size61, hl]
  have h1 : ∀ v ∈ bs', v.oneCell' = true := fun v hv => Hf.out.one c v (by rw [Hc.out]; simp [hv])
  have hz63 := zeroV63
  have hzl := lenz65
  obtain ⟨hf1, hf2⟩ := fold63 bs' hl (.int .u16 t)
  have hn0 := World.new_ne w1 _ hb0
  obtain ⟨C, hC⟩ : ∃ C, C = bs' ++ [Value.int .u16 t] := ⟨_, rfl⟩
  have hCl : C.length = 65 := by rw [hC]; simp [hl]
  have hC1 : ∀ u ∈ C, u.oneCell' = true := fun u hu => Hf.out.one c u (by rw [Hc.out, ← hC]; exact hu)
  rw [← hC] at hf2
  have hst : ∀ (c0 : Array Value), c0.size = 65 → (storeCells ⟨w1.heap.size, 0, none⟩ C 0).run Tryz.prog (w1.alloc (.cells c0 148)).drew = .ok () (w1.alloc (.cells C.toArray 148)).drew := fun c0 h0 =>
    run_storeCells_new (P := Tryz.prog) w1.drew 148 c0 C.toArray (by rw [size63]; simp [hCl]) (by simp [hCl, h0]) (all_oneCell_toArray hC1)
  have HC := Lib.hid hC
  have HC1 := Lib.hid hC1
  clear hC hC1
  have key : ∀ o, (fun w' : World => w'.cell? ⟨gb, 1, none⟩ = some (.slice (some ⟨ba, oa, none⟩) 64 cp) ∧ w'.cell? ⟨gb, 2, none⟩ = some (.int .u16 t) ∧ w'.rangeAt ba oa bs') (w1.alloc o).drew := fun o => ⟨(World.cell?_alloc_lt _ _ _ (World.block_lt_of_cell? w1 _ hb1)).trans hb1, (World.cell?_alloc_lt _ _ _ (World.block_lt_of_cell? w1 _ hb2)).trans hb2, World.rangeAt_alloc hr1 o⟩
  have Key := Lib.hid key
  clear key
  refine wp_region_held_drew (S := fun w' => w'.cell? ⟨gb, 1, none⟩ = some (.slice (some ⟨ba, oa, none⟩) 64 cp) ∧ w'.cell? ⟨gb, 2, none⟩ = some (.int .u16 t) ∧ w'.rangeAt ba oa bs') (by kernel_rfl) ⟨hb1, hb2, hr1⟩ (fun hHeld => ?_)
  refine wpAnyH_take (i := 0) (oi := _) (v := ?_) (by simp only [List.getElem?_toArray, List.getElem?_cons_zero]; rfl) (by kernel_rfl) (by kernel_rfl) (by kernel_rfl) (by exact fun _ _ _ h => h) (Or.inl ⟨by rfl, ?hya0⟩) (by assumption) ?rea0
  case hya0 => (rintro w ⟨hA1, hA2, hA3⟩; go_simp <;> with_reducible rfl)
  try simp only [Act.put, List.setIfInBounds_toArray, List.set_cons_zero, List.set_cons_succ]
  refine wpAnyH_take (i := 1) (oi := _) (v := ?_) (by simp only [List.getElem?_toArray, List.getElem?_cons_succ, List.getElem?_cons_zero]; rfl) (by kernel_rfl) (by kernel_rfl) (by kernel_rfl) (by exact fun _ _ _ h => h) (Or.inl ⟨by rfl, ?hya1⟩) (by assumption) ?rea1
  case hya1 => (rintro w ⟨hA1, hA2, hA3⟩; go_simp <;> with_reducible rfl)
  try simp only [Act.put, List.setIfInBounds_toArray, List.set_cons_zero, List.set_cons_succ]
  refine wpAnyH_take (i := 2) (oi := _) (v := ?_) (by simp only [List.getElem?_toArray, List.getElem?_cons_succ, List.getElem?_cons_zero]; rfl) (by kernel_rfl) (by kernel_rfl) (by kernel_rfl) (by exact fun _ _ _ h => h) (Or.inl ⟨by rfl, ?hya2⟩) (by assumption) ?rea2
  case hya2 => (rintro w ⟨hA1, hA2, hA3⟩; go_simp <;> with_reducible rfl)
  try simp only [Act.put, List.setIfInBounds_toArray, List.set_cons_zero, List.set_cons_succ]
  refine wpAnyH_take (i := 3) (oi := _) (v := _) (by simp only [List.getElem?_toArray, List.getElem?_cons_succ, List.getElem?_cons_zero]; rfl) (by kernel_rfl) (by kernel_rfl) (by kernel_rfl) (by exact fun _ _ _ h => h) (yieldsIf_load_mid (by rfl) 131 _ rfl ba oa rfl bs' _ (fun w' h => h.2.2) Tryz.underlying131 rfl hi61) (by assumption) ?_
  try simp only [Act.put, List.setIfInBounds_toArray, List.set_cons_zero, List.set_cons_succ]
  refine wpAnyH_take (i := 4) (oi := _) (v := ?_) (by simp only [List.getElem?_toArray, List.getElem?_cons_succ, List.getElem?_cons_zero]; rfl) (by kernel_rfl) (by kernel_rfl) (by kernel_rfl) (by exact fun _ _ _ h => h) (Or.inl ⟨by rfl, ?hya4⟩) (by assumption) ?rea4
  case hya4 => (rintro w ⟨hA1, hA2, hA3⟩; go_simp <;> with_reducible rfl)
  try simp only [Act.put, List.setIfInBounds_toArray, List.set_cons_zero, List.set_cons_succ]
  refine wpAnyH_take (i := 5) (oi := _) (v := ?_) (by simp only [List.getElem?_toArray, List.getElem?_cons_succ, List.getElem?_cons_zero]; rfl) (by kernel_rfl) (by kernel_rfl) (by kernel_rfl) (by exact fun _ _ _ h => h) (Or.inl ⟨by rfl, ?hya5⟩) (by assumption) ?rea5
  case hya5 => (rintro w ⟨hA1, hA2, hA3⟩; go_simp <;> with_reducible rfl)
  try simp only [Act.put, List.setIfInBounds_toArray, List.set_cons_zero, List.set_cons_succ]
  refine wpAnyH_take (i := 6) (oi := _) (v := ?_) (by simp only [List.getElem?_toArray, List.getElem?_cons_succ, List.getElem?_cons_zero]; rfl) (by kernel_rfl) (by kernel_rfl) (by kernel_rfl) (by exact fun _ _ _ h => h) (Or.inl ⟨by rfl, ?hya6⟩) (by assumption) ?rea6
  case hya6 => (rintro w ⟨hA1, hA2, hA3⟩; go_simp <;> with_reducible rfl)
  try simp only [Act.put, List.setIfInBounds_toArray, List.set_cons_zero, List.set_cons_succ]
  refine wpAnyH_ready (rs := [7]) (by kernel_rfl) (by simp) ?_
  refine AllReadyH.cons (o := _) (by simp only [List.getElem?_toArray, List.getElem?_cons_succ, List.getElem?_cons_zero]; rfl) (fun K hK => ?_) AllReadyH.nil
  go_simp
  refine hK.out _ _ (Key.out _) (fun hHeld2 => ?_)
  clear hK K hHeld
  refine wpAnyH_ready (rs := [8]) (by kernel_rfl) (by simp) ?_
  refine AllReadyH.cons (o := _) (by simp only [List.getElem?_toArray, List.getElem?_cons_succ, List.getElem?_cons_zero]; rfl) (fun K hK => ?_) AllReadyH.nil
  go_simp
  refine hK.out _ _ (Key.out _) (fun hHeld => ?_)
  clear hK K hHeld2
  refine wpAnyH_done (by kernel_rfl) ?_ _
  have hop2 : MemK f (w1.alloc (.cells C.toArray 148)).drew b bn bs cn cs vu k.op := (hop.out.alloc (.cells C.toArray 148)).keep fun _ _ => rfl
  have hC2 : (w1.alloc (.cells C.toArray 148)).drew.heap[w1.heap.size]? = some (.cells C.toArray 148 (0, 0)) := heap_alloc_new w1 _
  have hB2 : Below w1.heap.size w1 (w1.alloc (.cells C.toArray 148)).drew := ((Below.refl _ w1).alloc (Nat.le_refl _) _).drew
  have hs2 : (w1.alloc (.cells C.toArray 148)).drew.heap.size = w1.heap.size + 1 := by simp
  have hbox2 : (w1.alloc (.cells C.toArray 148)).drew.heap[gb]? = some (.cells #[.int .i64 (s : Int), .slice (some ⟨ba, oa, none⟩) 64 cp, .int .u16 t] 110 (0, 0)) := (Below.heap_alloc w1 _ gb (by omega)).trans Hbox.out
  have Hbox2 := Lib.hid hbox2
  clear hbox2
  have hb0' : (w1.alloc (.cells C.toArray 148)).drew.cell? ⟨gb, 0, none⟩ = some (.int .i64 (s : Int)) := (World.cell?_alloc_lt _ _ _ (World.block_lt_of_cell? w1 _ hb0)).trans hb0
  clear hHeld hst Key hn0 hf2 hf1 hzl hz63 h1 hi61 hat hu61 hr1 hb2 hb1 hb0 Hr HS Hin H Hoff hlt hl
  generalize (w1.alloc (.cells C.toArray 148)).drew = w2 at *
  obtain ⟨g2, hg2⟩ : ∃ g2, g2 = w1.heap.size := ⟨_, rfl⟩
  rw [← hg2] at hC2 hB2 hs2 ⊢
  have hr2 : w2.rangeAt g2 0 C := fun j v hj => by
    rw [Nat.zero_add, cell_of_row w2 g2 j _ 148 (0, 0) hC2]
    simpa using hj
  have hnow := hop2.nowC
  have hlen : k.op.now.length = k.safe.length := by rw [hop2.len, Dk.op_safe]
  have hth : w2.there bn (s * 65) 65 := hop2.nowR.there (by simp only [List.length_map]; rw [hlen]; exact Hs.out)
  have hsn : (s : Int) < (k.op.now.length : Int) := by have := Hs.out; omega
  have hs0 : (0 : Int) ≤ (s : Int) := by omega
  obtain ⟨nn, hnn⟩ : ∃ nn, nn = k.op.now.length := ⟨_, rfl⟩
  rw [← hnn] at hnow hsn
  have Hop2 := Lib.hid hop2
  have HB2 := Lib.hid hB2
  have HC2 := Lib.hid hC2
  have Hlen := Lib.hid hlen
  have Hnn := Lib.hid hnn
  have Hg2 := Lib.hid hg2
  have HopW := hop
  clear hop2 hB2 hC2 hlen hnn hg2 hop
  have hu63 := Tryz.underlying148
  have hi63 : (Tryz.prog.info? 148).map (·.size) = some C.length := by rw [size63, hCl]
  have hone := HC1.out
  have hne1 : bn ≠ b := (Hop2.out.b_bn).symm
  have hne2 : gb ≠ bn := by
    obtain ⟨x, hx⟩ := Hop2.out.nowR.elemType
    exact type_ne Hbox2.out hx (by decide)
  have hne3 : g2 ≠ bn := by
    have h1 := (HopW.out).nowR.lt
    have h2 := Hg2.out
    omega
  have Key2 : Hid ((fun w' : World => w'.cell? ⟨b, 0, none⟩ = some (.slice (some ⟨bn, 0, none⟩) nn cn) ∧ w'.cell? ⟨gb, 0, none⟩ = some (.int .i64 (s : Int)) ∧ w'.rangeAt g2 0 C) (w2.drew.setCells bn (s * 65) C)) := ⟨(World.cell?_of_block (a := ⟨b, 0, none⟩) (setCells_other bn C _ w2.drew b hne1.symm)).trans hnow, (World.cell?_of_block (a := ⟨gb, 0, none⟩) (setCells_other bn C _ w2.drew gb hne2)).trans hb0', range_of_block hr2 (setCells_other bn C _ w2.drew g2 hne3)⟩
  go_wp2
  refine wp_region_held_drew (S := fun w' => w'.cell? ⟨b, 0, none⟩ = some (.slice (some ⟨bn, 0, none⟩) nn cn) ∧ w'.cell? ⟨gb, 0, none⟩ = some (.int .i64 (s : Int)) ∧ w'.rangeAt g2 0 C) (by kernel_rfl) ⟨hnow, hb0', hr2⟩ (fun hHeld => ?_)
  refine wpAnyH_take (i := 0) (oi := _) (v := ?_) (by simp only [List.getElem?_toArray, List.getElem?_cons_zero]; rfl) (by kernel_rfl) (by kernel_rfl) (by kernel_rfl) (by exact fun _ _ _ h => h) (Or.inl ⟨by rfl, ?hyb0⟩) (by assumption) ?reb0
  case hyb0 => (rintro w ⟨hA1, hA2, hA3⟩; go_simp <;> with_reducible rfl)
  try simp only [Act.put, List.setIfInBounds_toArray, List.set_cons_zero, List.set_cons_succ]
  refine wpAnyH_take (i := 1) (oi := _) (v := ?_) (by simp only [List.getElem?_toArray, List.getElem?_cons_succ, List.getElem?_cons_zero]; rfl) (by kernel_rfl) (by kernel_rfl) (by kernel_rfl) (by exact fun _ _ _ h => h) (Or.inl ⟨by rfl, ?hyb1⟩) (by assumption) ?reb1
  case hyb1 => (rintro w ⟨hA1, hA2, hA3⟩; go_simp <;> with_reducible rfl)
  try simp only [Act.put, List.setIfInBounds_toArray, List.set_cons_zero, List.set_cons_succ]
  refine wpAnyH_take (i := 2) (oi := _) (v := ?_) (by simp only [List.getElem?_toArray, List.getElem?_cons_succ, List.getElem?_cons_zero]; rfl) (by kernel_rfl) (by kernel_rfl) (by kernel_rfl) (by exact fun _ _ _ h => h) (Or.inl ⟨by rfl, ?hyb2⟩) (by assumption) ?reb2
  case hyb2 => (rintro w ⟨hA1, hA2, hA3⟩; go_simp <;> with_reducible rfl)
  try simp only [Act.put, List.setIfInBounds_toArray, List.set_cons_zero, List.set_cons_succ]
  refine wpAnyH_take (i := 3) (oi := _) (v := ?_) (by simp only [List.getElem?_toArray, List.getElem?_cons_succ, List.getElem?_cons_zero]; rfl) (by kernel_rfl) (by kernel_rfl) (by kernel_rfl) (by exact fun _ _ _ h => h) (Or.inl ⟨by rfl, ?hyb3⟩) (by assumption) ?reb3
  case hyb3 => (rintro w ⟨hA1, hA2, hA3⟩; go_simp <;> with_reducible rfl)
  try simp only [Act.put, List.setIfInBounds_toArray, List.set_cons_zero, List.set_cons_succ]
  refine wpAnyH_take (i := 4) (oi := _) (v := ?_) (by simp only [List.getElem?_toArray, List.getElem?_cons_succ, List.getElem?_cons_zero]; rfl) (by kernel_rfl) (by kernel_rfl) (by kernel_rfl) (by exact fun _ _ _ h => h) (Or.inl ⟨by rfl, ?hyb4⟩) (by assumption) ?reb4
  case hyb4 => (rintro w ⟨hA1, hA2, hA3⟩; go_simp <;> with_reducible rfl)
  try simp only [Act.put, List.setIfInBounds_toArray, List.set_cons_zero, List.set_cons_succ]
  refine wpAnyH_take (i := 5) (oi := _) (v := ?_) (by simp only [List.getElem?_toArray, List.getElem?_cons_succ, List.getElem?_cons_zero]; rfl) (by kernel_rfl) (by kernel_rfl) (by kernel_rfl) (by exact fun _ _ _ h => h) (Or.inl ⟨by rfl, ?hyb5⟩) (by assumption) ?reb5
  case hyb5 => (rintro w ⟨hA1, hA2, hA3⟩; go_simp <;> with_reducible rfl)
  try simp only [Act.put, List.setIfInBounds_toArray, List.set_cons_zero, List.set_cons_succ]
  refine wpAnyH_take (i := 6) (oi := _) (v := _) (by simp only [List.getElem?_toArray, List.getElem?_cons_succ, List.getElem?_cons_zero]; rfl) (by kernel_rfl) (by kernel_rfl) (by kernel_rfl) (by exact fun _ _ _ h => h) (yieldsIf_load_mid (by rfl) 148 _ rfl g2 0 rfl C _ (fun w' h => h.2.2) hu63 rfl hi63) (by assumption) ?_
  try simp only [Act.put, List.setIfInBounds_toArray, List.set_cons_zero, List.set_cons_succ]
  refine wpAnyH_take (i := 7) (oi := _) (v := ?_) (by simp only [List.getElem?_toArray, List.getElem?_cons_succ, List.getElem?_cons_zero]; rfl) (by kernel_rfl) (by kernel_rfl) (by kernel_rfl) (by exact fun _ _ _ h => h) (Or.inl ⟨by rfl, ?hyb7⟩) (by assumption) ?reb7
  case hyb7 => (rintro w ⟨hA1, hA2, hA3⟩; go_simp <;> with_reducible rfl)
  try simp only [Act.put, List.setIfInBounds_toArray, List.set_cons_zero, List.set_cons_succ]
  refine wpAnyH_ready (rs := [8]) (by kernel_rfl) (by simp) ?_
  refine AllReadyH.cons (o := _) (by simp only [List.getElem?_toArray, List.getElem?_cons_succ, List.getElem?_cons_zero]; rfl) (fun K hK => ?_) AllReadyH.nil
  rw [if_pos (by rfl)]
  refine wp_store_mid 148 _ _ rfl bn (s * 65) C.toArray rfl rfl (by simpa [hCl] using hth) (by rw [size63]; simp [hCl]) (all_oneCell_toArray hone) ?_
  simp only [Act.put]
  refine hK.out _ _ (Key2.out) (fun hHeld2 => ?_)
  clear hK K hHeld
  refine wpAnyH_done (by kernel_rfl) ?_ _
  have hfc : C = f c := HC.out.trans Hc.out.symm
  have hm3 : Mem f (w2.drew.setCells bn (s * 65) C) b bn bs cn cs vu (k.op.now.set s c) k.op.safe k.op.un k.op.dead k.op.cut k.op.left k.op.done := by
    rw [hfc]
    exact Mem.put (w := w2.drew) (Hop2.out.keep fun _ _ => rfl) Hf.out (by rw [Hlen.out]; exact Hs.out) c
  have hg3 : w2.drew.grownBy (w2.drew.setCells bn (s * 65) C) (some bn) := setCells_grown _ _ _ _
  have hC3 : (w2.drew.setCells bn (s * 65) C).heap[g2]? = some (.cells C.toArray 148 (0, 0)) := (setCells_other bn C _ w2.drew g2 hne3).trans HC2.out
  have hB3 : (w2.drew.setCells bn (s * 65) C).heap[gb]? = some (.cells #[.int .i64 (s : Int), .slice (some ⟨ba, oa, none⟩) 64 cp, .int .u16 t] 110 (0, 0)) := (setCells_other bn C _ w2.drew gb hne2).trans Hbox2.out
  have hK3 : Kept (foot b bn bs vu) w (w2.drew.setCells bn (s * 65) C) := by
    have k1 : Kept (foot b bn bs vu) w (w.alloc (.cells #[.int .i64 (s : Int), .slice (some ⟨ba, oa, none⟩) 64 cp, .int .u16 t] 110)) := Kept.of_below ((Below.refl _ w).alloc (Nat.le_refl _) _)
    have k2 : Kept (foot b bn bs vu) _ w1 := Kept.of_grown hg.out (by rintro _ h; injection h with h; exact .inl h.symm)
    have k3 : Kept (foot b bn bs vu) w1 w2 := by
      have := HB2.out
      rw [Hg2.out] at this
      exact Kept.of_below this
    have k4 : Kept (foot b bn bs vu) w2.drew _ := Kept.of_grown hg3 (by rintro _ h; injection h with h; exact .inr (.inl h.symm))
    exact ((k1.trans k2 fun i hi => .inl hi).trans k3 fun i hi => .inl hi).drew.trans k4 fun i hi => .inl hi
  have Hfc := Lib.hid hfc
  clear hfc
  have hc3 := hHeld2.2.1
  have hr3 := hHeld2.2.2
  have Hs' : Hid (s < k.op.safe.length) := by rw [Dk.op_safe]; exact Hs.out
  have Hun : Hid (k.op.un.length ≤ 1073741824) := by rw [Dk.op_un]; exact hun
  clear hHeld2 Key2 hne3 hne2 hne1 hi63 hu63 HopW Hg2 Hnn Hlen HC2 HB2 Hop2 hnow hsn hs0 hth hr2 hs2 hb0' Hbox2 hg Hbox hg3 hun hsz1
  generalize w2.drew.setCells bn (s * 65) C = w3 at *
  have Hm3 := Lib.hid hm3
  have HC3 := Lib.hid hC3
  have HB3 := Lib.hid hB3
  have HK3 := Lib.hid hK3
  have hun3 := hm3.unC
  clear hm3 hC3 hB3 hK3
  have hu63 := Tryz.underlying148
  have hi63 : (Tryz.prog.info? 148).map (·.size) = some C.length := by rw [size63, hCl]
  have hz65 := zeroV65
  have hzl := lenz65
  have hf65 := fold65 C hCl (s : Int)
  have hal : ∀ o, w3.alloc o = w3.alloc o := fun _ => rfl
  have keyA : ∀ o, (fun w' : World => w'.cell? ⟨gb, 0, none⟩ = some (.int .i64 (s : Int)) ∧ w'.rangeAt g2 0 C) (w3.alloc o).drew := fun o => ⟨(World.cell?_alloc_lt _ _ _ (World.block_lt_of_cell? w3 _ hc3)).trans hc3, World.rangeAt_alloc hr3 o⟩
  have KeyA := Lib.hid keyA
  clear keyA hal
  go_wp2
  refine wp_region_held_drew (S := fun w' => w'.cell? ⟨gb, 0, none⟩ = some (.int .i64 (s : Int)) ∧ w'.rangeAt g2 0 C) (by kernel_rfl) ⟨hc3, hr3⟩ (fun hHeld => ?_)
  refine wpAnyH_take (i := 0) (oi := _) (v := ?_) (by simp only [List.getElem?_toArray, List.getElem?_cons_zero]; rfl) (by kernel_rfl) (by kernel_rfl) (by kernel_rfl) (by exact fun _ _ _ h => h) (Or.inl ⟨by rfl, ?hyc0⟩) (by assumption) ?rec0
  case hyc0 => (rintro w ⟨hA1, hA2⟩; go_simp <;> with_reducible rfl)
  try simp only [Act.put, List.setIfInBounds_toArray, List.set_cons_zero, List.set_cons_succ]
  refine wpAnyH_take (i := 1) (oi := _) (v := ?_) (by simp only [List.getElem?_toArray, List.getElem?_cons_succ, List.getElem?_cons_zero]; rfl) (by kernel_rfl) (by kernel_rfl) (by kernel_rfl) (by exact fun _ _ _ h => h) (Or.inl ⟨by rfl, ?hyc1⟩) (by assumption) ?rec1
  case hyc1 => (rintro w ⟨hA1, hA2⟩; go_simp <;> with_reducible rfl)
  try simp only [Act.put, List.setIfInBounds_toArray, List.set_cons_zero, List.set_cons_succ]
  refine wpAnyH_take (i := 2) (oi := _) (v := ?_) (by simp only [List.getElem?_toArray, List.getElem?_cons_succ, List.getElem?_cons_zero]; rfl) (by kernel_rfl) (by kernel_rfl) (by kernel_rfl) (by exact fun _ _ _ h => h) (Or.inl ⟨by rfl, ?hyc2⟩) (by assumption) ?rec2
  case hyc2 => (rintro w ⟨hA1, hA2⟩; go_simp <;> with_reducible rfl)
  try simp only [Act.put, List.setIfInBounds_toArray, List.set_cons_zero, List.set_cons_succ]
  refine wpAnyH_take (i := 3) (oi := _) (v := ?_) (by simp only [List.getElem?_toArray, List.getElem?_cons_succ, List.getElem?_cons_zero]; rfl) (by kernel_rfl) (by kernel_rfl) (by kernel_rfl) (by exact fun _ _ _ h => h) (Or.inl ⟨by rfl, ?hyc3⟩) (by assumption) ?rec3
  case hyc3 => (rintro w ⟨hA1, hA2⟩; go_simp <;> with_reducible rfl)
  try simp only [Act.put, List.setIfInBounds_toArray, List.set_cons_zero, List.set_cons_succ]
  refine wpAnyH_take (i := 5) (oi := _) (v := ?_) (by simp only [List.getElem?_toArray, List.getElem?_cons_succ, List.getElem?_cons_zero]; rfl) (by kernel_rfl) (by kernel_rfl) (by kernel_rfl) (by exact fun _ _ _ h => h) (Or.inl ⟨by rfl, ?hyc5⟩) (by assumption) ?rec5
  case hyc5 => (rintro w ⟨hA1, hA2⟩; go_simp <;> with_reducible rfl)
  try simp only [Act.put, List.setIfInBounds_toArray, List.set_cons_zero, List.set_cons_succ]
  refine wpAnyH_take (i := 6) (oi := _) (v := ?_) (by simp only [List.getElem?_toArray, List.getElem?_cons_succ, List.getElem?_cons_zero]; rfl) (by kernel_rfl) (by kernel_rfl) (by kernel_rfl) (by exact fun _ _ _ h => h) (Or.inl ⟨by rfl, ?hyc6⟩) (by assumption) ?rec6
  case hyc6 => (rintro w ⟨hA1, hA2⟩; go_simp <;> with_reducible rfl)
  try simp only [Act.put, List.setIfInBounds_toArray, List.set_cons_zero, List.set_cons_succ]
  refine wpAnyH_take (i := 7) (oi := _) (v := _) (by simp only [List.getElem?_toArray, List.getElem?_cons_succ, List.getElem?_cons_zero]; rfl) (by kernel_rfl) (by kernel_rfl) (by kernel_rfl) (by exact fun _ _ _ h => h) (yieldsIf_load_mid (by rfl) 148 _ rfl g2 0 rfl C _ (fun w' h => h.2) hu63 rfl hi63) (by assumption) ?_
  try simp only [Act.put, List.setIfInBounds_toArray, List.set_cons_zero, List.set_cons_succ]
  refine wpAnyH_take (i := 8) (oi := _) (v := ?_) (by simp only [List.getElem?_toArray, List.getElem?_cons_succ, List.getElem?_cons_zero]; rfl) (by kernel_rfl) (by kernel_rfl) (by kernel_rfl) (by exact fun _ _ _ h => h) (Or.inl ⟨by rfl, ?hyc8⟩) (by assumption) ?rec8
  case hyc8 => (rintro w ⟨hA1, hA2⟩; go_simp <;> with_reducible rfl)
  try simp only [Act.put, List.setIfInBounds_toArray, List.set_cons_zero, List.set_cons_succ]
  refine wpAnyH_ready (rs := [4, 9]) (by kernel_rfl) (by simp) ?_
  refine AllReadyH.cons (o := _) (by simp only [List.getElem?_toArray, List.getElem?_cons_succ, List.getElem?_cons_zero]; rfl) (fun K hK => ?_) (AllReadyH.cons (o := _) (by simp only [List.getElem?_toArray, List.getElem?_cons_succ, List.getElem?_cons_zero]; rfl) (fun K hK => ?_) (AllReadyH.nil))
  · go_simp
    refine hK.out _ _ ⟨hc3, hr3⟩ (fun hHeld => ?_)
    clear hK K
    refine wpAnyH_ready (rs := [9]) (by kernel_rfl) (by simp) ?_
    refine AllReadyH.cons (o := _) (by simp only [List.getElem?_toArray, List.getElem?_cons_succ, List.getElem?_cons_zero]; rfl) (fun K hK => ?_) AllReadyH.nil
    rw [if_pos (by rfl)]
    refine wp_buildSlice57 (.tmp 45) rfl (.int .i64 (s : Int) :: C) rfl (by simp [hCl]) ?_
    try simp only [Act.put, List.setIfInBounds_toArray, List.set_cons_zero, List.set_cons_succ]
    change K _ (w3.alloc (.cells (.int .i64 (s : Int) :: C).toArray 188)).drew
    refine hK.out _ _ (KeyA.out _) (fun hHeld => ?_)
    clear hK K
    have hmA : Mem f (w3.alloc (.cells (.int .i64 (s : Int) :: C).toArray 188)).drew b bn bs cn cs vu (k.op.now.set s c) k.op.safe k.op.un k.op.dead k.op.cut k.op.left k.op.done := (Hm3.out.alloc (.cells (.int .i64 (s : Int) :: C).toArray 188)).keep fun _ _ => rfl
    have hltg : g2 < w3.heap.size := by
      rcases Nat.lt_or_ge g2 w3.heap.size with h | h
      · exact h
      · have := HC3.out; rw [Array.getElem?_eq_none h] at this; cases this
    have hltb := World.block_lt_of_cell? w3 _ hc3
    have hBA : (w3.alloc (.cells (.int .i64 (s : Int) :: C).toArray 188)).drew.heap[gb]? = some (.cells _ 110 (0, 0)) := (Below.heap_alloc w3 _ gb hltb).trans HB3.out
    have hCA : (w3.alloc (.cells (.int .i64 (s : Int) :: C).toArray 188)).drew.heap[g2]? = some (.cells _ 148 (0, 0)) := (Below.heap_alloc w3 _ g2 hltg).trans HC3.out
    refine wpAnyH_ready (rs := [10]) (by kernel_rfl) (by simp) ?_
    refine AllReadyH.cons (o := _) (by simp only [List.getElem?_toArray, List.getElem?_cons_succ, List.getElem?_cons_zero]; rfl) (fun K hK => ?_) AllReadyH.nil
    refine step_append_lies _ rfl (.tmp 41) (.tmp 46) 124 rfl 0 188 Tryz.t188 _ 66 80 Tryz.underlying124 (by kernel_rfl) zero65 rfl rfl (by kernel_rfl) (by decide) vu k.op.un.length (k.op.un.map (ent f)).flatten rfl (by simpa using hmA.unR.owns) ⟨w3.heap.size, 0, none⟩ 1 1 (.int .i64 (s : Int) :: C) rfl (by simp [hCl]) (World.news_of_block (cs := (.int .i64 (s : Int) :: C).toArray) (heap_alloc_new w3 _)) (by intro u hu; simp only [List.mem_cons] at hu; rcases hu with rfl | hu; exact rfl; exact hone u hu) (by decide) (by have := Hun.out; simp [maxLen]; omega) (by have := Hun.out; omega) (Nat.zero_le _) _ rfl ?_
    intro g cap w4 hown hgrow hat hltw
    try simp only [Act.put, List.setIfInBounds_toArray, List.set_cons_zero, List.set_cons_succ]
    have hb4 := hmA.blk.grown hgrow (fun e => (hmA.bu e.symm).1 rfl)
    have hc4 := hb4.cell 2
    have hf4 := hb4.frozen 2
    have hS4 : (fun w' : World => w'.cell? ⟨gb, 0, none⟩ = some (.int .i64 (s : Int)) ∧ w'.rangeAt g2 0 C) w4 := ⟨(hgrow.cell_far ⟨gb, 0, none⟩ (by have := World.block_lt_of_cell? w3 _ hc3; simp at this ⊢; omega) (hmA.far hBA (by decide))).trans (KeyA.out _).1, range_of_block (KeyA.out _).2 (hgrow.block g2 (by have := hltg; simp; omega) (hmA.far hCA (by decide)))⟩
    have hfin := write_end Hf.out HK3.out hmA Hs'.out hgrow hat (by simpa [ent, ← Hfc.out] using hown)
    have Hfin := Lib.hid hfin
    have HS4 := Lib.hid hS4
    have hgb4 : w4.heap[gb]? = some (.cells _ 110 (0, 0)) := (hgrow.block gb (by have := World.block_lt_of_cell? w3 _ hc3; simp at this ⊢; omega) (hmA.far hBA (by decide))).trans hBA
    have hbne : gb ≠ b := type_ne hgb4 hb4 (by decide)
    have hg24 : w4.heap[g2]? = some (.cells _ 148 (0, 0)) := (hgrow.block g2 (by simp; omega) (hmA.far hCA (by decide))).trans hCA
    have hbne2 : g2 ≠ b := type_ne hg24 hb4 (by decide)
    have HS5 : Hid (∀ v, (fun w' : World => w'.cell? ⟨gb, 0, none⟩ = some (.int .i64 (s : Int)) ∧ w'.rangeAt g2 0 C) (w4.setCell ⟨b, 2, none⟩ v)) := fun v => ⟨(World.cell?_of_block (a := ⟨gb, 0, none⟩) (Below.heap_setCell w4 _ v gb hbne)).trans HS4.out.1, range_of_block HS4.out.2 (Below.heap_setCell w4 _ v g2 hbne2)⟩
    clear hfin hS4 hgb4 hg24 hown hgrow hat hb4
    refine hK.out _ _ HS4.out (fun hHeld => ?_)
    clear hK K
    refine wpAnyH_take (i := 11) (oi := _) (v := ?_) (by simp only [List.getElem?_toArray, List.getElem?_cons_succ, List.getElem?_cons_zero]; rfl) (by kernel_rfl) (by kernel_rfl) (by kernel_rfl) (by exact fun _ _ _ h => h) (Or.inl ⟨by rfl, ?hyd11⟩) (by assumption) ?red11
    case hyd11 => (rintro w ⟨hA1, hA2⟩; go_simp <;> with_reducible rfl)
    try simp only [Act.put, List.setIfInBounds_toArray, List.set_cons_zero, List.set_cons_succ]
    refine wpAnyH_take (i := 12) (oi := _) (v := ?_) (by simp only [List.getElem?_toArray, List.getElem?_cons_succ, List.getElem?_cons_zero]; rfl) (by kernel_rfl) (by kernel_rfl) (by kernel_rfl) (by exact fun _ _ _ h => h) (Or.inl ⟨by rfl, ?hyd12⟩) (by assumption) ?red12
    case hyd12 => (rintro w ⟨hA1, hA2⟩; go_simp <;> with_reducible rfl)
    try simp only [Act.put, List.setIfInBounds_toArray, List.set_cons_zero, List.set_cons_succ]
    refine wpAnyH_ready (rs := [13]) (by kernel_rfl) (by simp) ?_
    refine AllReadyH.cons (o := _) (by simp only [List.getElem?_toArray, List.getElem?_cons_succ, List.getElem?_cons_zero]; rfl) (fun K hK => ?_) AllReadyH.nil
    go_simp
    refine hK.out _ _ (HS5.out _) (fun hHeld => ?_)
    clear hK K
    refine wpAnyH_done (by kernel_rfl) ?_ _
    go_wp2
    go_ret
    exact ⟨rfl, Hfin.out⟩
  · have hmA : Mem f (w3.alloc (.cells (.int .i64 (s : Int) :: C).toArray 188)).drew b bn bs cn cs vu (k.op.now.set s c) k.op.safe k.op.un k.op.dead k.op.cut k.op.left k.op.done := (Hm3.out.alloc (.cells (.int .i64 (s : Int) :: C).toArray 188)).keep fun _ _ => rfl
    have hltg : g2 < w3.heap.size := by
      rcases Nat.lt_or_ge g2 w3.heap.size with h | h
      · exact h
      · have := HC3.out; rw [Array.getElem?_eq_none h] at this; cases this
    have hltb := World.block_lt_of_cell? w3 _ hc3
    have hBA : (w3.alloc (.cells (.int .i64 (s : Int) :: C).toArray 188)).drew.heap[gb]? = some (.cells _ 110 (0, 0)) := (Below.heap_alloc w3 _ gb hltb).trans HB3.out
    have hCA : (w3.alloc (.cells (.int .i64 (s : Int) :: C).toArray 188)).drew.heap[g2]? = some (.cells _ 148 (0, 0)) := (Below.heap_alloc w3 _ g2 hltg).trans HC3.out
    rw [if_pos (by rfl)]
    refine wp_buildSlice57 (.tmp 45) rfl (.int .i64 (s : Int) :: C) rfl (by simp [hCl]) ?_
    try simp only [Act.put, List.setIfInBounds_toArray, List.set_cons_zero, List.set_cons_succ]
    change K _ (w3.alloc (.cells (.int .i64 (s : Int) :: C).toArray 188)).drew
    refine hK.out _ _ (KeyA.out _) (fun hHeld => ?_)
    clear hK K
    have hunA : (w3.alloc (.cells (.int .i64 (s : Int) :: C).toArray 188)).cell? ⟨b, 2, none⟩ = some vu := hmA.unC
    refine wpAnyH_ready (rs := [4]) (by kernel_rfl) (by simp) ?_
    refine AllReadyH.cons (o := _) (by simp only [List.getElem?_toArray, List.getElem?_cons_succ, List.getElem?_cons_zero]; rfl) (fun K hK => ?_) AllReadyH.nil
    go_simp
    refine hK.out _ _ (KeyA.out _) (fun hHeld => ?_)
    clear hK K hunA
    refine wpAnyH_ready (rs := [10]) (by kernel_rfl) (by simp) ?_
    refine AllReadyH.cons (o := _) (by simp only [List.getElem?_toArray, List.getElem?_cons_succ, List.getElem?_cons_zero]; rfl) (fun K hK => ?_) AllReadyH.nil
    refine step_append_lies _ rfl (.tmp 41) (.tmp 46) 124 rfl 0 188 Tryz.t188 _ 66 80 Tryz.underlying124 (by kernel_rfl) zero65 rfl rfl (by kernel_rfl) (by decide) vu k.op.un.length (k.op.un.map (ent f)).flatten rfl (by simpa using hmA.unR.owns) ⟨w3.heap.size, 0, none⟩ 1 1 (.int .i64 (s : Int) :: C) rfl (by simp [hCl]) (World.news_of_block (cs := (.int .i64 (s : Int) :: C).toArray) (heap_alloc_new w3 _)) (by intro u hu; simp only [List.mem_cons] at hu; rcases hu with rfl | hu; exact rfl; exact hone u hu) (by decide) (by have := Hun.out; simp [maxLen]; omega) (by have := Hun.out; omega) (Nat.zero_le _) _ rfl ?_
    intro g cap w4 hown hgrow hat hltw
    try simp only [Act.put, List.setIfInBounds_toArray, List.set_cons_zero, List.set_cons_succ]
    have hb4 := hmA.blk.grown hgrow (fun e => (hmA.bu e.symm).1 rfl)
    have hc4 := hb4.cell 2
    have hf4 := hb4.frozen 2
    have hS4 : (fun w' : World => w'.cell? ⟨gb, 0, none⟩ = some (.int .i64 (s : Int)) ∧ w'.rangeAt g2 0 C) w4 := ⟨(hgrow.cell_far ⟨gb, 0, none⟩ (by have := World.block_lt_of_cell? w3 _ hc3; simp at this ⊢; omega) (hmA.far hBA (by decide))).trans (KeyA.out _).1, range_of_block (KeyA.out _).2 (hgrow.block g2 (by have := hltg; simp; omega) (hmA.far hCA (by decide)))⟩
    have hfin := write_end Hf.out HK3.out hmA Hs'.out hgrow hat (by simpa [ent, ← Hfc.out] using hown)
    have Hfin := Lib.hid hfin
    have HS4 := Lib.hid hS4
    have hgb4 : w4.heap[gb]? = some (.cells _ 110 (0, 0)) := (hgrow.block gb (by have := World.block_lt_of_cell? w3 _ hc3; simp at this ⊢; omega) (hmA.far hBA (by decide))).trans hBA
    have hbne : gb ≠ b := type_ne hgb4 hb4 (by decide)
    have hg24 : w4.heap[g2]? = some (.cells _ 148 (0, 0)) := (hgrow.block g2 (by simp; omega) (hmA.far hCA (by decide))).trans hCA
    have hbne2 : g2 ≠ b := type_ne hg24 hb4 (by decide)
    have HS5 : Hid (∀ v, (fun w' : World => w'.cell? ⟨gb, 0, none⟩ = some (.int .i64 (s : Int)) ∧ w'.rangeAt g2 0 C) (w4.setCell ⟨b, 2, none⟩ v)) := fun v => ⟨(World.cell?_of_block (a := ⟨gb, 0, none⟩) (Below.heap_setCell w4 _ v gb hbne)).trans HS4.out.1, range_of_block HS4.out.2 (Below.heap_setCell w4 _ v g2 hbne2)⟩
    clear hfin hS4 hgb4 hg24 hown hgrow hat hb4
    refine hK.out _ _ HS4.out (fun hHeld => ?_)
    clear hK K
    refine wpAnyH_take (i := 11) (oi := _) (v := ?_) (by simp only [List.getElem?_toArray, List.getElem?_cons_succ, List.getElem?_cons_zero]; rfl) (by kernel_rfl) (by kernel_rfl) (by kernel_rfl) (by exact fun _ _ _ h => h) (Or.inl ⟨by rfl, ?hye11⟩) (by assumption) ?ree11
    case hye11 => (rintro w ⟨hA1, hA2⟩; go_simp <;> with_reducible rfl)
    try simp only [Act.put, List.setIfInBounds_toArray, List.set_cons_zero, List.set_cons_succ]
    refine wpAnyH_take (i := 12) (oi := _) (v := ?_) (by simp only [List.getElem?_toArray, List.getElem?_cons_succ, List.getElem?_cons_zero]; rfl) (by kernel_rfl) (by kernel_rfl) (by kernel_rfl) (by exact fun _ _ _ h => h) (Or.inl ⟨by rfl, ?hye12⟩) (by assumption) ?ree12
    case hye12 => (rintro w ⟨hA1, hA2⟩; go_simp <;> with_reducible rfl)
    try simp only [Act.put, List.setIfInBounds_toArray, List.set_cons_zero, List.set_cons_succ]
    refine wpAnyH_ready (rs := [13]) (by kernel_rfl) (by simp) ?_
    refine AllReadyH.cons (o := _) (by simp only [List.getElem?_toArray, List.getElem?_cons_succ, List.getElem?_cons_zero]; rfl) (fun K hK => ?_) AllReadyH.nil
    go_simp
    refine hK.out _ _ (HS5.out _) (fun hHeld => ?_)
    clear hK K
    refine wpAnyH_done (by kernel_rfl) ?_ _
    go_wp2
    go_ret
    exact ⟨rfl, Hfin.out⟩
end

end Go.Proofs.YtcjkbmmjpkghlaaGreat

/-
  What is not safe is settled; a flush, a crash.
-/
namespace Go.Proofs.YtcjkbmmjpkghlaaGreat
open Go.RowKit
attribute [local go_sem ↓] Go.wp_at_zero Go.wp_at_succ

section
variable {α : Type} {f : α → List Value}

theorem kept_append (t i : Nat) (l m : List (Nat × α)) : kept t i (l ++ m) = kept t i l ++ kept t (i + l.length) m := by
  induction l generalizing i with
  | nil => simp [kept]
  | cons p l ih =>
    simp only [List.cons_append, kept, List.length_cons]
    rw [ih (i + 1), show i + 1 + l.length = i + (l.length + 1) by omega]
    split <;> rfl

theorem kept_mem {t i : Nat} {l : List (Nat × α)} : ∀ p ∈ kept t i l, p ∈ l := by
  induction l generalizing i with
  | nil => intro p hp; exact hp
  | cons q l ih =>
    intro p hp
    simp only [kept] at hp
    split at hp
    · rcases List.mem_cons.1 hp with rfl | hp
      · exact List.mem_cons_self
      · exact List.mem_cons_of_mem _ (ih p hp)
    · exact List.mem_cons_of_mem _ (ih p hp)

theorem puts_get {L : List α} {l : List (Nat × α)} {s : Nat} (h : ∀ p ∈ l, p.1 ≠ s) : (puts L l)[s]? = L[s]? := by
  induction l generalizing L with
  | nil => rfl
  | cons p l ih =>
    rw [puts_cons, ih fun q hq => h q (by simp [hq]), List.getElem?_set_ne (h p (by simp))]

/-- How far the unsafe writes have been settled. -/
def safeTo (k : Dk α) (t j : Nat) : List α := puts k.safe (kept t 0 (k.un.take j))
theorem safeTo_length (k : Dk α) (t j : Nat) : (safeTo k t j).length = k.safe.length := length_puts _ _
theorem safeTo_zero (k : Dk α) (t : Nat) : safeTo k t 0 = k.safe := by simp [safeTo, kept, puts]
theorem safeTo_yes (k : Dk α) (t j : Nat) (p : Nat × α) (hp : k.un[j]? = some p) (h : t.testBit (j % 64) = true) : safeTo k t (j + 1) = (safeTo k t j).set p.1 p.2 := by
  have hl : (k.un.take j).length = j := by have := (List.getElem?_eq_some_iff.1 hp).1; simp; omega
  have e : k.un.take (j + 1) = k.un.take j ++ [p] := by rw [List.take_add_one, hp]; rfl
  simp only [safeTo, e, kept_append, puts_append, hl, kept, Nat.zero_add, h, if_true, puts_cons, puts_nil]
theorem safeTo_no (k : Dk α) (t j : Nat) (p : Nat × α) (hp : k.un[j]? = some p) (h : t.testBit (j % 64) = false) : safeTo k t (j + 1) = safeTo k t j := by
  have hl : (k.un.take j).length = j := by have := (List.getElem?_eq_some_iff.1 hp).1; simp; omega
  have e : k.un.take (j + 1) = k.un.take j ++ [p] := by rw [List.take_add_one, hp]; rfl
  simp only [safeTo, e, kept_append, puts_append, hl, kept, Nat.zero_add, h, Bool.false_eq_true, if_false, puts_nil]
theorem safeTo_all (k : Dk α) (t : Nat) : safeTo k t k.un.length = (k.settle t).safe := by simp [safeTo, Dk.settle]

/-- A safe sector is put. -/
theorem Mem.putSafe {w : World} {b bn bs cn cs : Nat} {vu : Value} {now safe : List α} {un : List (Nat × α)} {dead cut : Bool} {left done : Int} (h : Mem f w b bn bs cn cs vu now safe un dead cut left done) (hf : Enc f) {s : Nat} (hs : s < safe.length) (c : α) : Mem f (w.setCells bs (s * 65) (f c)) b bn bs cn cs vu now (safe.set s c) un dead cut left done := by
  have ho := fun k (hk : k ≠ bs) => setCells_other bs (f c) (s * 65) w k hk
  refine ⟨by rw [List.length_set]; exact (ho b h.b_bs).trans h.blk, h.nowR.keep (ho bn h.ne), ?_, h.unR.keep fun i hi => ho i (h.bu hi).2.2, h.ne, by simpa using h.len, by simpa using h.idx⟩
  rw [List.map_set]
  exact h.safeR.set (by simpa using hs) (hf.len c) (hf.one c)

theorem ent_cell (W : World) (p : Nat × α) : (W.alloc (.cells (ent f p).toArray 188)).cell? ⟨W.heap.size, 0, none⟩ = some (.int .i64 (p.1 : Int)) := by
  rw [cell_of_row _ W.heap.size 0 _ 188 (0, 0) (heap_alloc_new W _)]
  simp [ent]
theorem ent_range (W : World) (p : Nat × α) : (W.alloc (.cells (ent f p).toArray 188)).rangeAt W.heap.size 1 (f p.2) := fun j v hj => by
  rw [cell_of_row _ W.heap.size (1 + j) _ 188 (0, 0) (heap_alloc_new W _), Nat.add_comm]
  simpa [ent] using hj

theorem bit_test64 (a j : Nat) (ha : a < 18446744073709551616) : (bits .and .u64 ((a : Int) / 2 ^ j) 1 == 1) = a.testBit j := by
  have e : ((a : Int) / 2 ^ j) = ((a / 2 ^ j : Nat) : Int) := by simp
  have h := Nat.div_le_self a (2 ^ j)
  have e2 := u64_and_nat (a / 2 ^ j) 1 (by omega) (by omega)
  rw [show (a / 2 ^ j) &&& 1 = a / 2 ^ j % 2 from Nat.and_one_is_mod _] at e2
  rw [e, show (1 : Int) = ((1 : Nat) : Int) from rfl, e2, Nat.testBit_eq_decide_div_mod_eq, Bool.eq_iff_iff]
  simp
  omega

theorem URow.range {w : World} {a : Addr} {m cu : Nat} {L : List (List Value)} (h : URow w (.slice (some a) m cu) L) {j : Nat} {c : List Value} (hc : L[j]? = some c) : w.rangeAt a.block (j * 66) c := by
  rcases h with ⟨h, _⟩ | ⟨bu', cu', he, hR⟩
  · cases h
  · injection he with h1 h2 h3
    injection h1 with h1
    subst h1
    exact (hR.elem j _ hc).2.2

/-- How far the sectors have been set right again. -/
def Back (k : Dk α) (S' N : List α) (j : Nat) : Prop := ∀ s, (s ∈ (k.un.take j).map (·.1) → N[s]? = S'[s]?) ∧ (s ∉ (k.un.take j).map (·.1) → N[s]? = k.now[s]?)
theorem Back.start (k : Dk α) (S' : List α) : Back k S' k.now 0 := fun s => ⟨fun h => by simp at h, fun _ => rfl⟩
theorem Back.step {k : Dk α} {S' N : List α} {j : Nat} (h : Back k S' N j) {p : Nat × α} (hp : k.un[j]? = some p) {c : α} (hc : S'[p.1]? = some c) (hl : N.length = S'.length) : Back k S' (N.set p.1 c) (j + 1) := fun s => by
  have e : k.un.take (j + 1) = k.un.take j ++ [p] := by rw [List.take_add_one, hp]; rfl
  rw [e, List.map_append, List.mem_append]
  have hlt : p.1 < N.length := by rw [hl]; exact (List.getElem?_eq_some_iff.1 hc).1
  by_cases hs : p.1 = s
  · subst hs
    refine ⟨fun _ => by rw [List.getElem?_set_self hlt, hc], fun hn => absurd (.inr (by simp)) hn⟩
  · rw [List.getElem?_set_ne hs]
    refine ⟨fun hm => (h s).1 ?_, fun hn => (h s).2 fun hm => hn (.inl hm)⟩
    rcases hm with hm | hm
    · exact hm
    · simp at hm
      exact absurd hm.symm hs
theorem Back.all {k : Dk α} {t : Nat} {N : List α} (h : Back k (safeTo k t k.un.length) N k.un.length) : N = safeTo k t k.un.length := by
  apply List.ext_getElem?
  intro s
  by_cases hs : s ∈ (k.un.take k.un.length).map (·.1)
  · exact (h s).1 hs
  · rw [(h s).2 hs]
    rw [List.take_length] at hs
    have h1 : k.now[s]? = k.safe[s]? := puts_get fun p hp e => hs (List.mem_map.2 ⟨p, hp, e⟩)
    have h2 : (safeTo k t k.un.length)[s]? = k.safe[s]? := puts_get fun p hp e => hs (List.mem_map.2 ⟨p, by
      have := kept_mem p hp
      rwa [List.take_length] at this, e⟩)
    rw [h1, h2]

/-- The list of unsafe writes is dropped. -/
theorem Mem.drop {w : World} {b bn bs cn cs : Nat} {vu : Value} {now safe : List α} {un : List (Nat × α)} {dead cut : Bool} {left done : Int} (h : Mem f w b bn bs cn cs vu now safe un dead cut left done) : Mem f (w.setCell ⟨b, 2, none⟩ (.slice none 0 0)) b bn bs cn cs (.slice none 0 0) now safe [] dead cut left done := by
  have ho := fun k (hk : k ≠ b) => Below.heap_setCell w ⟨b, 2, none⟩ (.slice none 0 0) k hk
  exact ⟨h.blk.set 2 _, h.nowR.keep (ho bn h.b_bn.symm), h.safeR.keep (ho bs h.b_bs.symm), .inl ⟨rfl, rfl⟩, h.ne, h.len, fun p hp => by cases hp⟩

set_option maxRecDepth 100000 in
set_option maxHeartbeats 800000 in
theorem settle_some (hf : Enc f) (w : World) (b bn bs cn cs bu cu : Nat) (k : Dk α) (there : Nat) (ht : there < 18446744073709551616) (hun : k.un.length ≤ 1073741824) (hm : MemK f w b bn bs cn cs (.slice (some ⟨bu, 0, none⟩) k.un.length cu) k) :
    Calls Tryz.prog 75 #[.pointer (some ⟨b, 0, none⟩), .int .u64 (there : Int)] w fun e w' => e = .returned (.tuple #[]) ∧ Kept (foot b bn bs (.slice (some ⟨bu, 0, none⟩) k.un.length cu)) w w' ∧ MemK f w' b bn bs cn cs (.slice none 0 0) (k.settle there) := by
  have h2 := hm.unC
  have Hf := Lib.hid hf
  have Hm := Lib.hid hm
  clear hm hf
  obtain ⟨m, hmm⟩ : ∃ m, m = k.un.length := ⟨_, rfl⟩
  rw [← hmm] at h2 hun
  have Hmm := Lib.hid hmm
  clear hmm
  go_enter Tryz.func75, Tryz.ntmps75
  go_wp2
  go_loopw [13] (fun i wr => ∃ j : Nat, j ≤ m ∧ i = .int .i64 (j : Int) ∧ Kept (foot b bn bs (.slice (some ⟨bu, 0, none⟩) k.un.length cu)) w wr ∧ Mem f wr b bn bs cn cs (.slice (some ⟨bu, 0, none⟩) k.un.length cu) k.now (safeTo k there j) k.un k.dead k.cut k.left k.done) (fun i _ => m - (intOf i).toNat)
  case atStart => exact ⟨0, Nat.zero_le _, rfl, Kept.refl _ _, by rw [safeTo_zero]; exact Hm.out⟩
  case round =>
    obtain ⟨j, hj, rfl, hK, hM⟩ := hrel
    have HK := Lib.hid hK
    have HM := Lib.hid hM
    clear hK hM
    by_cases hlt : j < m
    · have hlt' : j < k.un.length := by rw [← Hmm.out]; exact hlt
      obtain ⟨p, hp⟩ : ∃ p, k.un[j]? = some p := ⟨_, List.getElem?_eq_getElem hlt'⟩
      have hr : wr.rangeAt bu (j * 66) (ent f p) := by
        exact HM.out.unR.range (by rw [List.getElem?_map, hp]; rfl)
      have Hp := Lib.hid hp
      clear hp hlt'
      have hEl := ent_len Hf.out p
      have HE1 := Lib.hid (ent_one Hf.out p)
      have hst : ∀ (c0 : Array Value), c0.size = 66 → (storeCells ⟨wr.heap.size, 0, none⟩ (ent f p) 0).run Tryz.prog (wr.alloc (.cells c0 188)) = .ok () (wr.alloc (.cells (ent f p).toArray 188)) := fun c0 h0 => by
        simpa using run_storeCells_new (P := Tryz.prog) wr 188 c0 (ent f p).toArray (by rw [size65]; simp [hEl]) (by simp [hEl, h0]) (all_oneCell_toArray HE1.out)
      have hz65 := zeroV65
      have hzl := lenz65
      have hMa : Mem f (wr.alloc (.cells (ent f p).toArray 188)) b bn bs cn cs (.slice (some ⟨bu, 0, none⟩) k.un.length cu) k.now (safeTo k there j) k.un k.dead k.cut k.left k.done := HM.out.alloc _
      have hKa : Kept (foot b bn bs (.slice (some ⟨bu, 0, none⟩) k.un.length cu)) w (wr.alloc (.cells (ent f p).toArray 188)) := HK.out.trans (Kept.of_below (S := foot b bn bs (.slice (some ⟨bu, 0, none⟩) k.un.length cu)) ((Below.refl _ wr).alloc (Nat.le_refl _) _)) fun i hi => .inl hi
      have HMa := Lib.hid hMa
      have HKa := Lib.hid hKa
      clear hMa hKa
      cases hbit : there.testBit (j % 64)
      · have ht' : (bits .and .u64 ((there : Int) / 2 ^ (j % 64)) 1 == 1) = false := by rw [bit_test64 _ _ ht, hbit]
        have Hbit := Lib.hid hbit
        clear hbit
        go_wp2_with (refine wpList_load_mid rfl 188 (.tmp 16) rfl bu (j * 66) rfl (ent f p) _ hr Tryz.underlying188 rfl (by rw [size65, hEl]) ?_)
        go_roundw
        case rel => exact ⟨j + 1, by omega, by go_num, HKa.out, by rw [safeTo_no k there j p Hp.out Hbit.out]; exact HMa.out⟩
        case measure => simp [intOf]; omega
      · have ht' : (bits .and .u64 ((there : Int) / 2 ^ (j % 64)) 1 == 1) = true := by rw [bit_test64 _ _ ht, hbit]
        have Hbit := Lib.hid hbit
        clear hbit
        go_wp2_with (refine wpList_load_mid rfl 188 (.tmp 16) rfl bu (j * 66) rfl (ent f p) _ hr Tryz.underlying188 rfl (by rw [size65, hEl]) ?_)
        have hc0 := ent_cell (f := f) wr p
        have hr0 := ent_range (f := f) wr p
        have hps : p.1 < (safeTo k there j).length := by
          rw [safeTo_length]
          exact Hm.out.idx p (List.mem_iff_getElem?.2 ⟨j, Hp.out⟩)
        obtain ⟨nn, hnn⟩ : ∃ nn, nn = (safeTo k there j).length := ⟨_, rfl⟩
        have hb1 := HMa.out.safeC
        have hth : (wr.alloc (.cells (ent f p).toArray 188)).there bs (p.1 * 65) 65 := HMa.out.safeR.there (by simpa using hps)
        have hgs : wr.heap.size ≠ bs := by have := HM.out.safeR.lt; omega
        have hbb := HMa.out.b_bs
        rw [← hnn] at hb1 hps
        have hp0 : (0 : Int) ≤ (p.1 : Int) := by omega
        have hpn : (p.1 : Int) < (nn : Int) := by omega
        have Hnn := Lib.hid hnn
        have Hps := Lib.hid hps
        clear hnn hps hst hr
        obtain ⟨g, hg⟩ : ∃ g, g = wr.heap.size := ⟨_, rfl⟩
        rw [← hg] at hc0 hr0 hgs
        generalize wr.alloc (.cells (ent f p).toArray 188) = w1 at *
        have hl65 := Hf.out.len p.2
        have h1 := Hf.out.one p.2
        have Key : Hid ((fun w' : World => w'.cell? ⟨b, 1, none⟩ = some (.slice (some ⟨bs, 0, none⟩) nn cs) ∧ w'.cell? ⟨g, 0, none⟩ = some (.int .i64 (p.1 : Int)) ∧ w'.rangeAt g 1 (f p.2)) (w1.drew.setCells bs (p.1 * 65) (f p.2))) := ⟨(World.cell?_of_block (a := ⟨b, 1, none⟩) (setCells_other bs _ _ w1.drew b hbb)).trans hb1, (World.cell?_of_block (a := ⟨g, 0, none⟩) (setCells_other bs _ _ w1.drew g hgs)).trans hc0, range_of_block hr0 (setCells_other bs _ _ w1.drew g hgs)⟩
        have hfin : Mem f (w1.drew.setCells bs (p.1 * 65) (f p.2)) b bn bs cn cs (.slice (some ⟨bu, 0, none⟩) k.un.length cu) k.now (safeTo k there (j + 1)) k.un k.dead k.cut k.left k.done := by
          rw [safeTo_yes k there j p Hp.out Hbit.out]
          exact Mem.putSafe (w := w1.drew) (HMa.out.keep fun _ _ => rfl) Hf.out (by rw [← Hnn.out]; exact Hps.out) p.2
        have Hfin := Lib.hid hfin
        have HKb : Hid (Kept (foot b bn bs (.slice (some ⟨bu, 0, none⟩) k.un.length cu)) w (w1.drew.setCells bs (p.1 * 65) (f p.2))) := HKa.out.drew.trans (Kept.of_grown (S := foot b bn bs (.slice (some ⟨bu, 0, none⟩) k.un.length cu)) (setCells_grown w1.drew bs _ _) (by rintro _ h; injection h with h; exact .inr (.inr (.inl h.symm)))) fun i hi => .inl hi
        have hl65' := Lib.hid hl65
        have h1' := Lib.hid h1
        have hi63 : (Tryz.prog.info? 148).map (·.size) = some (f p.2).length := by rw [size63, hl65]
        clear hl65 h1 hfin hgs hbb
        rw [← hg]
        clear hg
        refine wp_region_held_drew (S := fun w' => w'.cell? ⟨b, 1, none⟩ = some (.slice (some ⟨bs, 0, none⟩) nn cs) ∧ w'.cell? ⟨g, 0, none⟩ = some (.int .i64 (p.1 : Int)) ∧ w'.rangeAt g 1 (f p.2)) (by kernel_rfl) ⟨hb1, hc0, hr0⟩ (fun hHeld => ?_)
        refine wpAnyH_take (i := 0) (oi := _) (v := ?_) (by simp only [List.getElem?_toArray, List.getElem?_cons_zero]; rfl) (by kernel_rfl) (by kernel_rfl) (by kernel_rfl) (by exact fun _ _ _ h => h) (Or.inl ⟨by rfl, ?hya0⟩) (by assumption) ?rea0
        case hya0 => (rintro w ⟨hA1, hA2, hA3⟩; go_simp <;> with_reducible rfl)
        try simp only [Act.put, List.setIfInBounds_toArray, List.set_cons_zero, List.set_cons_succ]
        refine wpAnyH_take (i := 1) (oi := _) (v := ?_) (by simp only [List.getElem?_toArray, List.getElem?_cons_succ, List.getElem?_cons_zero]; rfl) (by kernel_rfl) (by kernel_rfl) (by kernel_rfl) (by exact fun _ _ _ h => h) (Or.inl ⟨by rfl, ?hya1⟩) (by assumption) ?rea1
        case hya1 => (rintro w ⟨hA1, hA2, hA3⟩; go_simp <;> with_reducible rfl)
        try simp only [Act.put, List.setIfInBounds_toArray, List.set_cons_zero, List.set_cons_succ]
        refine wpAnyH_take (i := 2) (oi := _) (v := ?_) (by simp only [List.getElem?_toArray, List.getElem?_cons_succ, List.getElem?_cons_zero]; rfl) (by kernel_rfl) (by kernel_rfl) (by kernel_rfl) (by exact fun _ _ _ h => h) (Or.inl ⟨by rfl, ?hya2⟩) (by assumption) ?rea2
        case hya2 => (rintro w ⟨hA1, hA2, hA3⟩; go_simp <;> with_reducible rfl)
        try simp only [Act.put, List.setIfInBounds_toArray, List.set_cons_zero, List.set_cons_succ]
        refine wpAnyH_take (i := 3) (oi := _) (v := ?_) (by simp only [List.getElem?_toArray, List.getElem?_cons_succ, List.getElem?_cons_zero]; rfl) (by kernel_rfl) (by kernel_rfl) (by kernel_rfl) (by exact fun _ _ _ h => h) (Or.inl ⟨by rfl, ?hya3⟩) (by assumption) ?rea3
        case hya3 => (rintro w ⟨hA1, hA2, hA3⟩; go_simp <;> with_reducible rfl)
        try simp only [Act.put, List.setIfInBounds_toArray, List.set_cons_zero, List.set_cons_succ]
        refine wpAnyH_take (i := 4) (oi := _) (v := ?_) (by simp only [List.getElem?_toArray, List.getElem?_cons_succ, List.getElem?_cons_zero]; rfl) (by kernel_rfl) (by kernel_rfl) (by kernel_rfl) (by exact fun _ _ _ h => h) (Or.inl ⟨by rfl, ?hya4⟩) (by assumption) ?rea4
        case hya4 => (rintro w ⟨hA1, hA2, hA3⟩; go_simp <;> with_reducible rfl)
        try simp only [Act.put, List.setIfInBounds_toArray, List.set_cons_zero, List.set_cons_succ]
        refine wpAnyH_take (i := 5) (oi := _) (v := ?_) (by simp only [List.getElem?_toArray, List.getElem?_cons_succ, List.getElem?_cons_zero]; rfl) (by kernel_rfl) (by kernel_rfl) (by kernel_rfl) (by exact fun _ _ _ h => h) (Or.inl ⟨by rfl, ?hya5⟩) (by assumption) ?rea5
        case hya5 => (rintro w ⟨hA1, hA2, hA3⟩; go_simp <;> with_reducible rfl)
        try simp only [Act.put, List.setIfInBounds_toArray, List.set_cons_zero, List.set_cons_succ]
        refine wpAnyH_take (i := 6) (oi := _) (v := ?_) (by simp only [List.getElem?_toArray, List.getElem?_cons_succ, List.getElem?_cons_zero]; rfl) (by kernel_rfl) (by kernel_rfl) (by kernel_rfl) (by exact fun _ _ _ h => h) (Or.inl ⟨by rfl, ?hya6⟩) (by assumption) ?rea6
        case hya6 => (rintro w ⟨hA1, hA2, hA3⟩; go_simp <;> with_reducible rfl)
        try simp only [Act.put, List.setIfInBounds_toArray, List.set_cons_zero, List.set_cons_succ]
        refine wpAnyH_take (i := 7) (oi := _) (v := _) (by simp only [List.getElem?_toArray, List.getElem?_cons_succ, List.getElem?_cons_zero]; rfl) (by kernel_rfl) (by kernel_rfl) (by kernel_rfl) (by exact fun _ _ _ h => h) (yieldsIf_load_mid (by rfl) 148 _ rfl g 1 rfl (f p.2) _ (fun w' h => h.2.2) Tryz.underlying148 rfl hi63) (by assumption) ?_
        try simp only [Act.put, List.setIfInBounds_toArray, List.set_cons_zero, List.set_cons_succ]
        refine wpAnyH_take (i := 8) (oi := _) (v := ?_) (by simp only [List.getElem?_toArray, List.getElem?_cons_succ, List.getElem?_cons_zero]; rfl) (by kernel_rfl) (by kernel_rfl) (by kernel_rfl) (by exact fun _ _ _ h => h) (Or.inl ⟨by rfl, ?hya8⟩) (by assumption) ?rea8
        case hya8 => (rintro w ⟨hA1, hA2, hA3⟩; go_simp <;> with_reducible rfl)
        try simp only [Act.put, List.setIfInBounds_toArray, List.set_cons_zero, List.set_cons_succ]
        refine wpAnyH_ready (rs := [9]) (by kernel_rfl) (by simp) ?_
        refine AllReadyH.cons (o := _) (by simp only [List.getElem?_toArray, List.getElem?_cons_succ, List.getElem?_cons_zero]; rfl) (fun K hK => ?_) AllReadyH.nil
        rw [if_pos (by rfl)]
        refine wp_store_mid 148 _ _ rfl bs (p.1 * 65) (f p.2).toArray rfl rfl (by simpa [hl65'.out] using hth) (by rw [size63]; simp [hl65'.out]) (all_oneCell_toArray h1'.out) ?_
        simp only [Act.put]
        refine hK.out _ _ Key.out (fun hHeld2 => ?_)
        clear hK K hHeld
        refine wpAnyH_done (by kernel_rfl) ?_ _
        clear hHeld2 hb1 hc0 hr0 hth hp0 hpn hi63
        generalize w1.drew.setCells bs (p.1 * 65) (f p.2) = w2 at *
        go_wp2
        go_roundw
        case rel => exact ⟨j + 1, by omega, by go_num, HKb.out, Hfin.out⟩
        case measure => simp [intOf]; omega
    · obtain rfl : j = m := by omega
      clear hj hlt h2
      have h2 : wr.cell? ⟨b, 2, none⟩ = some (.slice (some ⟨bu, 0, none⟩) j cu) := by
        have := HM.out.unC
        rw [← Hmm.out] at this
        exact this
      go_wp2
      go_loopw [39] (fun i wq => ∃ (i' : Nat) (N : List α), i' ≤ j ∧ i = .int .i64 (i' : Int) ∧ Kept (foot b bn bs (.slice (some ⟨bu, 0, none⟩) k.un.length cu)) w wq ∧ Mem f wq b bn bs cn cs (.slice (some ⟨bu, 0, none⟩) k.un.length cu) N (safeTo k there j) k.un k.dead k.cut k.left k.done ∧ Back k (safeTo k there j) N i') (fun i _ => j - (intOf i).toNat)
      case atStart => exact ⟨0, k.now, Nat.zero_le _, rfl, HK.out, HM.out, Back.start _ _⟩
      case round =>
        clear HM HK h2
        obtain ⟨i, N, hi, rfl, hK, hM, hB⟩ := hrel
        have HK := Lib.hid hK
        have HM := Lib.hid hM
        have HB := Lib.hid hB
        clear hK hM hB
        by_cases hlt : i < j
        · have hlt' : i < k.un.length := by rw [← Hmm.out]; exact hlt
          obtain ⟨p, hp⟩ : ∃ p, k.un[i]? = some p := ⟨_, List.getElem?_eq_getElem hlt'⟩
          have hr : wr.rangeAt bu (i * 66) (ent f p) := by
            exact HM.out.unR.range (by rw [List.getElem?_map, hp]; rfl)
          have hps : p.1 < (safeTo k there j).length := by
            rw [safeTo_length]
            exact Hm.out.idx p (List.mem_iff_getElem?.2 ⟨i, hp⟩)
          obtain ⟨c, hcc⟩ : ∃ c, (safeTo k there j)[p.1]? = some c := ⟨_, List.getElem?_eq_getElem hps⟩
          have Hp := Lib.hid hp
          have Hcc := Lib.hid hcc
          clear hp hlt' hcc
          have hEl := ent_len Hf.out p
          have HE1 := Lib.hid (ent_one Hf.out p)
          have hst : ∀ (c0 : Array Value), c0.size = 66 → (storeCells ⟨wr.heap.size, 0, none⟩ (ent f p) 0).run Tryz.prog (wr.alloc (.cells c0 188)) = .ok () (wr.alloc (.cells (ent f p).toArray 188)) := fun c0 h0 => by
            simpa using run_storeCells_new (P := Tryz.prog) wr 188 c0 (ent f p).toArray (by rw [size65]; simp [hEl]) (by simp [hEl, h0]) (all_oneCell_toArray HE1.out)
          have hz65 := zeroV65
          have hzl := lenz65
          have hMa : Mem f (wr.alloc (.cells (ent f p).toArray 188)) b bn bs cn cs (.slice (some ⟨bu, 0, none⟩) k.un.length cu) N (safeTo k there j) k.un k.dead k.cut k.left k.done := HM.out.alloc _
          have hKa : Kept (foot b bn bs (.slice (some ⟨bu, 0, none⟩) k.un.length cu)) w (wr.alloc (.cells (ent f p).toArray 188)) := HK.out.trans (Kept.of_below (S := foot b bn bs (.slice (some ⟨bu, 0, none⟩) k.un.length cu)) ((Below.refl _ wr).alloc (Nat.le_refl _) _)) fun i hi => .inl hi
          have HMa := Lib.hid hMa
          have HKa := Lib.hid hKa
          clear hMa hKa
          go_wp2_with (refine wpList_load_mid rfl 188 (.tmp 41) rfl bu (i * 66) rfl (ent f p) _ hr Tryz.underlying188 rfl (by rw [size65, hEl]) ?_)
          have hc0 := ent_cell (f := f) wr p
          obtain ⟨nn, hnn⟩ : ∃ nn, nn = (safeTo k there j).length := ⟨_, rfl⟩
          have hb0 := HMa.out.nowC
          have hb1 := HMa.out.safeC
          have hth : (wr.alloc (.cells (ent f p).toArray 188)).there bn (p.1 * 65) 65 := HMa.out.nowR.there (by have := HMa.out.len; simp; omega)
          have hr1 : (wr.alloc (.cells (ent f p).toArray 188)).rangeAt bs (p.1 * 65) (f c) := (HMa.out.safeR.elem p.1 (f c) (by rw [List.getElem?_map, Hcc.out]; rfl)).2.2
          have hgs : wr.heap.size ≠ bn := by have := HM.out.nowR.lt; omega
          have hbb := HMa.out.b_bn
          have hsn := HMa.out.ne
          have hNl := HMa.out.len
          rw [hNl, ← hnn] at hb0
          rw [← hnn] at hb1 hps
          have hp0 : (0 : Int) ≤ (p.1 : Int) := by omega
          have hpn : (p.1 : Int) < (nn : Int) := by omega
          have Hnn := Lib.hid hnn
          have Hps := Lib.hid hps
          have HNl := Lib.hid hNl
          clear hnn hps hst hr hNl
          obtain ⟨g, hg⟩ : ∃ g, g = wr.heap.size := ⟨_, rfl⟩
          rw [← hg] at hc0 hgs
          generalize wr.alloc (.cells (ent f p).toArray 188) = w1 at *
          have hl65 := Hf.out.len c
          have h1 := Hf.out.one c
          have Key : Hid ((fun w' : World => w'.cell? ⟨b, 0, none⟩ = some (.slice (some ⟨bn, 0, none⟩) nn cn) ∧ w'.cell? ⟨b, 1, none⟩ = some (.slice (some ⟨bs, 0, none⟩) nn cs) ∧ w'.cell? ⟨g, 0, none⟩ = some (.int .i64 (p.1 : Int)) ∧ w'.rangeAt bs (p.1 * 65) (f c)) (w1.drew.setCells bn (p.1 * 65) (f c))) := ⟨(World.cell?_of_block (a := ⟨b, 0, none⟩) (setCells_other bn _ _ w1.drew b hbb)).trans hb0, (World.cell?_of_block (a := ⟨b, 1, none⟩) (setCells_other bn _ _ w1.drew b hbb)).trans hb1, (World.cell?_of_block (a := ⟨g, 0, none⟩) (setCells_other bn _ _ w1.drew g hgs)).trans hc0, range_of_block hr1 (setCells_other bn _ _ w1.drew bs hsn.symm)⟩
          have hfin : Mem f (w1.drew.setCells bn (p.1 * 65) (f c)) b bn bs cn cs (.slice (some ⟨bu, 0, none⟩) k.un.length cu) (N.set p.1 c) (safeTo k there j) k.un k.dead k.cut k.left k.done :=
            Mem.put (w := w1.drew) (HMa.out.keep fun _ _ => rfl) Hf.out (by rw [HNl.out, ← Hnn.out]; exact Hps.out) c
          have Hfin := Lib.hid hfin
          have HKb : Hid (Kept (foot b bn bs (.slice (some ⟨bu, 0, none⟩) k.un.length cu)) w (w1.drew.setCells bn (p.1 * 65) (f c))) := HKa.out.drew.trans (Kept.of_grown (S := foot b bn bs (.slice (some ⟨bu, 0, none⟩) k.un.length cu)) (setCells_grown w1.drew bn _ _) (by rintro _ h; injection h with h; exact .inr (.inl h.symm))) fun i hi => .inl hi
          have hl65' := Lib.hid hl65
          have h1' := Lib.hid h1
          have hi63 : (Tryz.prog.info? 148).map (·.size) = some (f c).length := by rw [size63, hl65]
          clear hl65 h1 hfin hgs hbb hsn
          rw [← hg]
          clear hg
          refine wp_region_held_drew (S := fun w' => w'.cell? ⟨b, 0, none⟩ = some (.slice (some ⟨bn, 0, none⟩) nn cn) ∧ w'.cell? ⟨b, 1, none⟩ = some (.slice (some ⟨bs, 0, none⟩) nn cs) ∧ w'.cell? ⟨g, 0, none⟩ = some (.int .i64 (p.1 : Int)) ∧ w'.rangeAt bs (p.1 * 65) (f c)) (by kernel_rfl) ⟨hb0, hb1, hc0, hr1⟩ (fun hHeld => ?_)
          refine wpAnyH_take (i := 0) (oi := _) (v := ?_) (by simp only [List.getElem?_toArray, List.getElem?_cons_zero]; rfl) (by kernel_rfl) (by kernel_rfl) (by kernel_rfl) (by exact fun _ _ _ h => h) (Or.inl ⟨by rfl, ?hyb0⟩) (by assumption) ?reb0
          case hyb0 => (rintro w ⟨hA1, hA2, hA3, hA4⟩; go_simp <;> with_reducible rfl)
          try simp only [Act.put, List.setIfInBounds_toArray, List.set_cons_zero, List.set_cons_succ]
          refine wpAnyH_take (i := 1) (oi := _) (v := ?_) (by simp only [List.getElem?_toArray, List.getElem?_cons_succ, List.getElem?_cons_zero]; rfl) (by kernel_rfl) (by kernel_rfl) (by kernel_rfl) (by exact fun _ _ _ h => h) (Or.inl ⟨by rfl, ?hyb1⟩) (by assumption) ?reb1
          case hyb1 => (rintro w ⟨hA1, hA2, hA3, hA4⟩; go_simp <;> with_reducible rfl)
          try simp only [Act.put, List.setIfInBounds_toArray, List.set_cons_zero, List.set_cons_succ]
          refine wpAnyH_take (i := 2) (oi := _) (v := ?_) (by simp only [List.getElem?_toArray, List.getElem?_cons_succ, List.getElem?_cons_zero]; rfl) (by kernel_rfl) (by kernel_rfl) (by kernel_rfl) (by exact fun _ _ _ h => h) (Or.inl ⟨by rfl, ?hyb2⟩) (by assumption) ?reb2
          case hyb2 => (rintro w ⟨hA1, hA2, hA3, hA4⟩; go_simp <;> with_reducible rfl)
          try simp only [Act.put, List.setIfInBounds_toArray, List.set_cons_zero, List.set_cons_succ]
          refine wpAnyH_take (i := 3) (oi := _) (v := ?_) (by simp only [List.getElem?_toArray, List.getElem?_cons_succ, List.getElem?_cons_zero]; rfl) (by kernel_rfl) (by kernel_rfl) (by kernel_rfl) (by exact fun _ _ _ h => h) (Or.inl ⟨by rfl, ?hyb3⟩) (by assumption) ?reb3
          case hyb3 => (rintro w ⟨hA1, hA2, hA3, hA4⟩; go_simp <;> with_reducible rfl)
          try simp only [Act.put, List.setIfInBounds_toArray, List.set_cons_zero, List.set_cons_succ]
          refine wpAnyH_take (i := 4) (oi := _) (v := ?_) (by simp only [List.getElem?_toArray, List.getElem?_cons_succ, List.getElem?_cons_zero]; rfl) (by kernel_rfl) (by kernel_rfl) (by kernel_rfl) (by exact fun _ _ _ h => h) (Or.inl ⟨by rfl, ?hyb4⟩) (by assumption) ?reb4
          case hyb4 => (rintro w ⟨hA1, hA2, hA3, hA4⟩; go_simp <;> with_reducible rfl)
          try simp only [Act.put, List.setIfInBounds_toArray, List.set_cons_zero, List.set_cons_succ]
          refine wpAnyH_take (i := 5) (oi := _) (v := ?_) (by simp only [List.getElem?_toArray, List.getElem?_cons_succ, List.getElem?_cons_zero]; rfl) (by kernel_rfl) (by kernel_rfl) (by kernel_rfl) (by exact fun _ _ _ h => h) (Or.inl ⟨by rfl, ?hyb5⟩) (by assumption) ?reb5
          case hyb5 => (rintro w ⟨hA1, hA2, hA3, hA4⟩; go_simp <;> with_reducible rfl)
          try simp only [Act.put, List.setIfInBounds_toArray, List.set_cons_zero, List.set_cons_succ]
          refine wpAnyH_take (i := 6) (oi := _) (v := ?_) (by simp only [List.getElem?_toArray, List.getElem?_cons_succ, List.getElem?_cons_zero]; rfl) (by kernel_rfl) (by kernel_rfl) (by kernel_rfl) (by exact fun _ _ _ h => h) (Or.inl ⟨by rfl, ?hyb6⟩) (by assumption) ?reb6
          case hyb6 => (rintro w ⟨hA1, hA2, hA3, hA4⟩; go_simp <;> with_reducible rfl)
          try simp only [Act.put, List.setIfInBounds_toArray, List.set_cons_zero, List.set_cons_succ]
          refine wpAnyH_take (i := 7) (oi := _) (v := ?_) (by simp only [List.getElem?_toArray, List.getElem?_cons_succ, List.getElem?_cons_zero]; rfl) (by kernel_rfl) (by kernel_rfl) (by kernel_rfl) (by exact fun _ _ _ h => h) (Or.inl ⟨by rfl, ?hyb7⟩) (by assumption) ?reb7
          case hyb7 => (rintro w ⟨hA1, hA2, hA3, hA4⟩; go_simp <;> with_reducible rfl)
          try simp only [Act.put, List.setIfInBounds_toArray, List.set_cons_zero, List.set_cons_succ]
          refine wpAnyH_take (i := 8) (oi := _) (v := ?_) (by simp only [List.getElem?_toArray, List.getElem?_cons_succ, List.getElem?_cons_zero]; rfl) (by kernel_rfl) (by kernel_rfl) (by kernel_rfl) (by exact fun _ _ _ h => h) (Or.inl ⟨by rfl, ?hyb8⟩) (by assumption) ?reb8
          case hyb8 => (rintro w ⟨hA1, hA2, hA3, hA4⟩; go_simp <;> with_reducible rfl)
          try simp only [Act.put, List.setIfInBounds_toArray, List.set_cons_zero, List.set_cons_succ]
          refine wpAnyH_take (i := 9) (oi := _) (v := ?_) (by simp only [List.getElem?_toArray, List.getElem?_cons_succ, List.getElem?_cons_zero]; rfl) (by kernel_rfl) (by kernel_rfl) (by kernel_rfl) (by exact fun _ _ _ h => h) (Or.inl ⟨by rfl, ?hyb9⟩) (by assumption) ?reb9
          case hyb9 => (rintro w ⟨hA1, hA2, hA3, hA4⟩; go_simp <;> with_reducible rfl)
          try simp only [Act.put, List.setIfInBounds_toArray, List.set_cons_zero, List.set_cons_succ]
          refine wpAnyH_take (i := 10) (oi := _) (v := ?_) (by simp only [List.getElem?_toArray, List.getElem?_cons_succ, List.getElem?_cons_zero]; rfl) (by kernel_rfl) (by kernel_rfl) (by kernel_rfl) (by exact fun _ _ _ h => h) (Or.inl ⟨by rfl, ?hyb10⟩) (by assumption) ?reb10
          case hyb10 => (rintro w ⟨hA1, hA2, hA3, hA4⟩; go_simp <;> with_reducible rfl)
          try simp only [Act.put, List.setIfInBounds_toArray, List.set_cons_zero, List.set_cons_succ]
          refine wpAnyH_take (i := 11) (oi := _) (v := ?_) (by simp only [List.getElem?_toArray, List.getElem?_cons_succ, List.getElem?_cons_zero]; rfl) (by kernel_rfl) (by kernel_rfl) (by kernel_rfl) (by exact fun _ _ _ h => h) (Or.inl ⟨by rfl, ?hyb11⟩) (by assumption) ?reb11
          case hyb11 => (rintro w ⟨hA1, hA2, hA3, hA4⟩; go_simp <;> with_reducible rfl)
          try simp only [Act.put, List.setIfInBounds_toArray, List.set_cons_zero, List.set_cons_succ]
          refine wpAnyH_take (i := 12) (oi := _) (v := ?_) (by simp only [List.getElem?_toArray, List.getElem?_cons_succ, List.getElem?_cons_zero]; rfl) (by kernel_rfl) (by kernel_rfl) (by kernel_rfl) (by exact fun _ _ _ h => h) (Or.inl ⟨by rfl, ?hyb12⟩) (by assumption) ?reb12
          case hyb12 => (rintro w ⟨hA1, hA2, hA3, hA4⟩; go_simp <;> with_reducible rfl)
          try simp only [Act.put, List.setIfInBounds_toArray, List.set_cons_zero, List.set_cons_succ]
          refine wpAnyH_take (i := 13) (oi := _) (v := _) (by simp only [List.getElem?_toArray, List.getElem?_cons_succ, List.getElem?_cons_zero]; rfl) (by kernel_rfl) (by kernel_rfl) (by kernel_rfl) (by exact fun _ _ _ h => h) (yieldsIf_load_mid (by rfl) 148 _ rfl bs (p.1 * 65) rfl (f c) _ (fun w' h => h.2.2.2) Tryz.underlying148 rfl hi63) (by assumption) ?_
          try simp only [Act.put, List.setIfInBounds_toArray, List.set_cons_zero, List.set_cons_succ]
          refine wpAnyH_take (i := 14) (oi := _) (v := ?_) (by simp only [List.getElem?_toArray, List.getElem?_cons_succ, List.getElem?_cons_zero]; rfl) (by kernel_rfl) (by kernel_rfl) (by kernel_rfl) (by exact fun _ _ _ h => h) (Or.inl ⟨by rfl, ?hyb14⟩) (by assumption) ?reb14
          case hyb14 => (rintro w ⟨hA1, hA2, hA3, hA4⟩; go_simp <;> with_reducible rfl)
          try simp only [Act.put, List.setIfInBounds_toArray, List.set_cons_zero, List.set_cons_succ]
          refine wpAnyH_ready (rs := [15]) (by kernel_rfl) (by simp) ?_
          refine AllReadyH.cons (o := _) (by simp only [List.getElem?_toArray, List.getElem?_cons_succ, List.getElem?_cons_zero]; rfl) (fun K hK => ?_) AllReadyH.nil
          rw [if_pos (by rfl)]
          refine wp_store_mid 148 _ _ rfl bn (p.1 * 65) (f c).toArray rfl rfl (by simpa [hl65'.out] using hth) (by rw [size63]; simp [hl65'.out]) (all_oneCell_toArray h1'.out) ?_
          simp only [Act.put]
          refine hK.out _ _ Key.out (fun hHeld2 => ?_)
          clear hK K hHeld
          refine wpAnyH_done (by kernel_rfl) ?_ _
          clear hHeld2 hb0 hb1 hc0 hr1 hth hp0 hpn hi63
          generalize w1.drew.setCells bn (p.1 * 65) (f c) = w2 at *
          go_wp2
          go_roundw
          case rel => exact ⟨i + 1, N.set p.1 c, by omega, by go_num, HKb.out, Hfin.out, HB.out.step Hp.out Hcc.out HNl.out⟩
          case measure => simp [intOf]; omega
        · obtain rfl : i = j := by omega
          have hb2 := HM.out.unC
          have hf2 := HM.out.blk.frozen 2
          have hN : N = safeTo k there i := by
            have h1 := HB.out
            have h2 := Hmm.out
            rw [h2] at h1 ⊢
            exact h1.all
          have hfin : MemK f (wr.setCell ⟨b, 2, none⟩ (.slice none 0 0)) b bn bs cn cs (.slice none 0 0) (k.settle there) := by
            have h1 := HM.out.drop
            rw [hN, Hmm.out, safeTo_all] at h1
            exact h1
          have Hfin := Lib.hid hfin
          clear hfin hN
          go_wp2
          go_end0
          exact ⟨rfl, HK.out.trans (Kept.of_grown (row := some b) (S := foot b bn bs (.slice (some ⟨bu, 0, none⟩) k.un.length cu)) (only_set (World.grownBy.refl wr _) 2 _) (by rintro _ h; injection h with h; exact .inl h.symm)) (fun i hi => .inl hi), Hfin.out⟩
set_option maxHeartbeats 400000 in
theorem settle_none (w : World) (b bn bs cn cs : Nat) (k : Dk α) (there : Nat) (hm : MemK f w b bn bs cn cs (.slice none 0 0) k) (hu : k.un = []) :
    Calls Tryz.prog 75 #[.pointer (some ⟨b, 0, none⟩), .int .u64 (there : Int)] w fun e w' => e = .returned (.tuple #[]) ∧ Kept (foot b bn bs (.slice none 0 0)) w w' ∧ MemK f w' b bn bs cn cs (.slice none 0 0) (k.settle there) := by
  have h2 := hm.unC
  have f2 := hm.blk.frozen 2
  have hfin : MemK f (w.setCell ⟨b, 2, none⟩ (.slice none 0 0)) b bn bs cn cs (.slice none 0 0) (k.settle there) := by
    have h1 := hm.drop
    have e1 : k.now = k.safe := by simp [Dk.now, hu, puts]
    have e2 : (k.settle there).safe = k.safe := by simp [Dk.settle, hu, kept, puts]
    have e3 : (k.settle there).now = k.safe := by simp [Dk.now, Dk.settle, hu, kept, puts]
    unfold MemK
    rw [e2, e3, ← e1]
    rw [← e1] at h1
    exact h1
  have Hfin := Lib.hid hfin
  clear hfin hm hu
  go_enter Tryz.func75, Tryz.ntmps75
  go_wp2
  go_loopw [13] (fun i wr => i = .int .i64 0 ∧ wr = w) (fun _ _ => 0)
  case atStart => exact ⟨rfl, rfl⟩
  case round =>
    obtain ⟨rfl, rfl⟩ := hrel
    go_wp2
    go_loopw [39] (fun i wq => i = .int .i64 0 ∧ wq = wr) (fun _ _ => 0)
    case atStart => exact ⟨rfl, rfl⟩
    case round =>
      obtain ⟨rfl, rfl⟩ := hrel
      go_wp2
      go_end0
      exact ⟨rfl, Kept.of_grown (row := some b) (only_set (World.grownBy.refl _ _) 2 _) (by rintro _ h; injection h with h; exact .inl h.symm), Hfin.out⟩

theorem settle_mem (hf : Enc f) (w : World) (b bn bs cn cs : Nat) (vu : Value) (k : Dk α) (there : Nat) (ht : there < 18446744073709551616) (hun : k.un.length ≤ 1073741824) (hm : MemK f w b bn bs cn cs vu k) :
    Calls Tryz.prog 75 #[.pointer (some ⟨b, 0, none⟩), .int .u64 (there : Int)] w fun e w' => e = .returned (.tuple #[]) ∧ Kept (foot b bn bs vu) w w' ∧ MemK f w' b bn bs cn cs (.slice none 0 0) (k.settle there) := by
  rcases hm.unR with ⟨rfl, h⟩ | ⟨bu, cu, rfl, h⟩
  · exact settle_none w b bn bs cn cs k there hm (by simpa using h)
  · rw [List.length_map] at hm ⊢
    exact settle_some hf w b bn bs cn cs bu cu k there ht hun hm

theorem kept_all (i : Nat) (l : List (Nat × α)) : kept 18446744073709551615 i l = l := by
  induction l generalizing i with
  | nil => rfl
  | cons p l ih =>
    have : (18446744073709551615 : Nat).testBit (i % 64) = true := by
      rw [show (18446744073709551615 : Nat) = 2 ^ 64 - 1 from rfl, Nat.testBit_two_pow_sub_one]
      simp
      omega
    simp only [kept, this, if_true, ih]

theorem foot_nil {b bn bs : Nat} {vu : Value} {i : Nat} (h : foot b bn bs (.slice none 0 0) i) : foot b bn bs vu i := by
  rcases h with h | h | h | h
  · exact .inl h
  · exact .inr (.inl h)
  · exact .inr (.inr (.inl h))
  · cases h

theorem flush_any (hf : Enc f) (w : World) (S : Nat → Prop) (b : Nat) (k : Dk α) (h : IsDisk f w S b k) (hun : k.un.length ≤ 1073741824) :
    Calls Tryz.prog 96 #[.pointer (some ⟨b, 0, none⟩)] w fun e w' => e = .returned (.int .i64 (if k.off then 6 else 0)) ∧ Turned f S w w' b k.flush := by
  obtain ⟨bn, bs, cn, cs, vu, rfl, hm⟩ := h
  have Hm := Lib.hid hm
  clear hm
  cases hoff : k.off
  · have Hoff := Lib.hid hoff
    have hr : Hid (k.flush = k.op.settle 18446744073709551615) := by
      unfold Hid Dk.flush Dk.settle
      rw [hoff, if_neg (by decide), kept_all]
      simp [Dk.now, Dk.op_safe, Dk.op_un]
    rw [hr.out]
    clear hoff hr
    go_enter Tryz.func96, Tryz.ntmps96
    go_wp2_with (first
      | (go_at_call 159; refine (op_on _ _ _ _ _ _ _ _ Hm.out Hoff.out).mono ?_; rintro e w1 ⟨rfl, hg, hop⟩; replace hop := Lib.hid hop; replace hg := Lib.hid hg)
      | (go_at_call 75; refine (settle_mem hf _ _ _ _ _ _ _ _ 18446744073709551615 (by decide) (by rw [Dk.op_un]; exact hun) hop.out).mono ?_; rintro e w2 ⟨rfl, hK, hM⟩; replace hK := Lib.hid hK; replace hM := Lib.hid hM))
    go_ret
    exact ⟨rfl, (Kept.of_grown (S := foot b bn bs vu) hg.out (by rintro _ h; injection h with h; exact .inl h.symm)).trans hK.out (fun i hi => .inl hi), _, ⟨bn, bs, cn, cs, _, rfl, hM.out⟩, fun i hi => .inl (foot_nil hi)⟩
  · have Hoff := Lib.hid hoff
    have hr : Hid (k.flush = k.op) := by
      unfold Hid Dk.flush
      rw [hoff, if_pos rfl]
    rw [hr.out]
    clear hoff hr
    go_enter Tryz.func96, Tryz.ntmps96
    go_wp2_with (go_at_call 159; refine (op_off _ _ _ _ _ _ _ _ Hm.out Hoff.out).mono ?_; rintro e w1 ⟨rfl, hg, hop⟩; replace hop := Lib.hid hop; replace hg := Lib.hid hg)
    go_ret
    exact ⟨rfl, Kept.of_grown (S := foot b bn bs vu) hg.out (by rintro _ h; injection h with h; exact .inl h.symm), _, ⟨bn, bs, cn, cs, _, rfl, hop.out⟩, fun i hi => .inl hi⟩

theorem flush_nil (w : World) :
    Calls Tryz.prog 96 #[.pointer none] w fun e w' => e = .returned (.int .i64 2) ∧ w = w' := by
  go_enter Tryz.func96, Tryz.ntmps96
  go_wp2
  go_ret
  exact ⟨rfl, rfl⟩

theorem crash_any (hf : Enc f) (w : World) (S : Nat → Prop) (b : Nat) (k : Dk α) (h : IsDisk f w S b k) (hun : k.un.length ≤ 1073741824) (there : Nat) (ht : there < 18446744073709551616) :
    Calls Tryz.prog 26 #[.pointer (some ⟨b, 0, none⟩), .int .u64 (there : Int)] w fun e w' => e = .returned (.tuple #[]) ∧ Turned f S w w' b (k.crash there) := by
  obtain ⟨bn, bs, cn, cs, vu, rfl, hm⟩ := h
  have Hm := Lib.hid hm
  clear hm
  go_enter Tryz.func26, Tryz.ntmps26
  go_wp2_with (go_at_call 75; refine (settle_mem hf _ _ _ _ _ _ _ _ there ht hun Hm.out).mono ?_; rintro e w2 ⟨rfl, hK, hM⟩; have h3 := hM.deadC; have h4 := hM.cutC; have f3 := hM.blk.frozen 3; have f4 := hM.blk.frozen 4; replace hK := Lib.hid hK; replace hM := Lib.hid hM)
  go_end0
  have hM2 := hM.out.own (only_set (only_set (World.grownBy.refl w2 (some b)) 3 (.bool false)) 4 (.bool false)) ((hM.out.blk.set 3 (.bool false)).set 4 (.bool false))
  exact ⟨rfl, hK.out.trans (Kept.of_grown (row := some b) (S := foot b bn bs vu) (only_set (only_set (World.grownBy.refl w2 _) 3 _) 4 _) (by rintro _ h; injection h with h; exact .inl h.symm)) (fun i hi => .inl hi), _, ⟨bn, bs, cn, cs, _, rfl, hM2⟩, fun i hi => .inl (foot_nil hi)⟩

theorem crash_nil (w : World) (t : Int) :
    Calls Tryz.prog 26 #[.pointer none, .int .u64 t] w fun e w' => e = .returned (.tuple #[]) ∧ w = w' := by
  go_enter Tryz.func26, Tryz.ntmps26
  go_wp2
  refine bodyPost_ret (results_none rfl _ _ _) rfl ?_
  exact ⟨rfl, rfl⟩

theorem cut_nil (w : World) (t : Int) :
    Calls Tryz.prog 25 #[.pointer none, .int .i64 t] w fun e w' => e = .returned (.tuple #[]) ∧ w = w' := by
  go_enter Tryz.func25, Tryz.ntmps25
  go_wp2
  refine bodyPost_ret (results_none rfl _ _ _) rfl ?_
  exact ⟨rfl, rfl⟩

end

end Go.Proofs.YtcjkbmmjpkghlaaGreat

/-
  A sector that is all one byte, and its patch; a write of one, whatever comes of it.
-/
namespace Go.Proofs.YtcjkbmmjpkghlaaGreat
open Go.RowKit
attribute [local go_sem ↓] Go.wp_at_zero Go.wp_at_succ

/-- 64 bytes, all the same. -/
def same (c : Nat) : List Value := List.replicate 64 (.int .u8 (c : Int))
theorem same_length (c : Nat) : (same c).length = 64 := by simp [same]
theorem same_one (c : Nat) : ∀ u ∈ same c, u.oneCell' = true := by
  intro u hu
  simp only [same, List.mem_replicate] at hu
  rw [hu.2]
  rfl
/-- A sector of them, whose tag is that, too. -/
def sec (c : Nat) : List Value := same c ++ [.int .u16 (c : Int)]
theorem sec_enc : Enc sec := ⟨fun c => by simp [sec, same_length], fun c u hu => by
  simp only [sec, List.mem_append, List.mem_singleton] at hu
  rcases hu with hu | rfl
  · exact same_one c u hu
  · rfl⟩
theorem sec_zero : sec 0 = z65 := rfl

theorem run_make64 (W : World) : (Instr.makeSlice 37 (.int .i64 64) (.int .i64 64)).run Tryz.prog W = .ok (.slice (some ⟨W.heap.size, 0, none⟩) 64 64) (W.alloc (.cells (same 0).toArray 5)) := by
  have h := run_makeSlice (P := Tryz.prog) W 37 5 Tryz.t5 (.int .u8 0) Tryz.underlying37 (by kernel_rfl) (by kernel_rfl) .i64 .i64 64 64 (by decide) (by decide) (by decide) (by decide) (by decide)
  have e : madeCells (Value.int .u8 0).cells (Int.toNat 64 * Tryz.t5.size) = (same 0).toArray := by kernel_rfl
  rw [h, e]
  rfl

/-- So many bytes of one kind, and then bytes 0. -/
def part (c j : Nat) : List Value := List.replicate j (.int .u8 (c : Int)) ++ List.replicate (64 - j) (.int .u8 0)
theorem part_set (c j : Nat) (h : j < 64) : (part c j).set j (.int .u8 (c : Int)) = part c (j + 1) := by
  unfold part
  rw [List.set_append_right _ _ (by simp), List.length_replicate, Nat.sub_self, show 64 - j = (64 - (j + 1)) + 1 by omega, List.replicate_succ, List.set_cons_zero, List.replicate_succ' , List.append_assoc]
  rfl

/-- A write, whatever comes of it. -/
def Dk.write {α : Type} (k : Dk α) (s : Int) (c : α) : Int × Dk α :=
  if k.has s then (if k.off then (6, k.op) else (0, k.wrote s.toNat c)) else (1, k)

theorem write_same (w : World) (S : Nat → Prop) (b : Nat) (k : Dk Nat) (h : IsDisk sec w S b k) (s : Int) (c g : Nat) (hB : Bk w g 5 (same c)) (hS : ¬ S g) (hun : k.un.length ≤ 1073741824) :
    Calls Tryz.prog 95 #[.pointer (some ⟨b, 0, none⟩), .agg #[.int .i64 s, .slice (some ⟨g, 0, none⟩) 64 64, .int .u16 (c : Int)]] w fun e w' => e = .returned (.int .i64 (k.write s c).1) ∧ Turned sec S w w' b (k.write s c).2 := by
  unfold Dk.write
  cases hh : k.has s
  · refine (write_bad w S b k h s hh _ _).mono ?_
    rintro e w' ⟨rfl, hb⟩
    exact ⟨rfl, Kept.of_below hb, S, h.below hb, fun i hi => .inl hi⟩
  · obtain ⟨n, rfl⟩ : ∃ n : Nat, s = (n : Int) := by
      simp [Dk.has] at hh
      exact ⟨s.toNat, by omega⟩
    have hn : n < k.safe.length := by
      simp [Dk.has] at hh
      omega
    cases ho : k.off
    · refine (write_any sec_enc w S b k h n hn g 0 64 (same c) (c : Int) c rfl (same_length c) (fun j v hj => by rw [hB.cell]; simpa using hj) hS hB.lt hun ho).mono ?_
      rintro e w' ⟨rfl, ht⟩
      exact ⟨rfl, ht⟩
    · refine (write_off w S b k h n hn _ 64 _ ho).mono ?_
      rintro e w' ⟨rfl, ht⟩
      exact ⟨rfl, ht⟩

end Go.Proofs.YtcjkbmmjpkghlaaGreat

/-
  Sectors that are all one byte, as a text; a disk that is all ours.
-/
namespace Go.Proofs.YtcjkbmmjpkghlaaGreat
open Go.RowKit
attribute [local go_sem ↓] Go.wp_at_zero Go.wp_at_succ

/-- The text of bytes that are all the same. -/
def strS (c : Nat) : ByteArray := ⟨(List.replicate 64 (UInt8.ofNat c)).toArray⟩
theorem same_bytes (c : Nat) (hc : c < 256) : same c = bytesV (List.replicate 64 (UInt8.ofNat c)) := by
  have h : (UInt8.ofNat c).toNat = c := by simp; omega
  simp only [same, bytesV, List.map_replicate, byteV, h]
theorem conv_any {w : World} {g : Nat} {e : TypeId} {c : Nat} (h : Bk w g e (same c)) (hc : c < 256) : (convert 37 9 (.slice (some ⟨g, 0, none⟩) 64 64)).run Tryz.prog w = .ok (.string (strS c)) w := by
  have h2 := h.rd 64 0
  rw [List.drop_zero, List.take_of_length_le (by rw [same_length]; exact Nat.le_refl _), same_bytes c hc] at h2
  exact run_str w 37 9 5 Tryz.underlying37 Tryz.underlying5 Tryz.underlying9 _ _ 64 64 _ (by simp) h2
theorem strS_same (c : Nat) : ((strS c).toList == (strS c).toList) = true := by simp
/-- A disk of ours: all its blocks are new. -/
def Mine (B : Nat) (w : World) (b : Nat) (k : Dk Nat) (S : Nat → Prop) : Prop := IsDisk sec w S b k ∧ ∀ i, S i → B ≤ i
theorem Mine.turn {B : Nat} {w w' : World} {b : Nat} {k k' : Dk Nat} {S : Nat → Prop} (h : Mine B w b k S) (ht : Turned sec S w w' b k') (hB : B ≤ w.heap.size) : (∃ S', Mine B w' b k' S') ∧ Below B w w' := by
  obtain ⟨hK, S', hD, hS⟩ := ht
  refine ⟨⟨S', hD, fun i hi => ?_⟩, hK.below h.2 hB⟩
  rcases hS i hi with hs | hs
  · exact h.2 i hs
  · omega
theorem Mine.below {B : Nat} {w w' : World} {b : Nat} {k : Dk Nat} {S : Nat → Prop} (h : Mine B w b k S) (hb : Below w.heap.size w w') : Mine B w' b k S := ⟨h.1.below hb, h.2⟩
theorem Mine.new {B : Nat} {w : World} {b : Nat} {k : Dk Nat} {S : Nat → Prop} (h : Mine B w b k S) {g : Nat} (hg : w.heap.size ≤ g) : ¬ S g := fun hs => by
  have := h.1.lt hs
  omega

end Go.Proofs.YtcjkbmmjpkghlaaGreat
