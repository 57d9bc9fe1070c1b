/-
  Package meta: inodes taken of sectors.
-/
import Derived.Test.YtcjkbmmjpkghlaaGreatQMetaX7
import Derived.Test.YtcjkbmmjpkghlaaGreatQMetaA
import Derived.Test.YtcjkbmmjpkghlaaGreatQInodeX9
import Derived.Deep.AppendLies
namespace Go.Proofs.YtcjkbmmjpkghlaaGreat.Meta
open Go.Proofs.YtcjkbmmjpkghlaaGreat
open Go.RowKit Go.Shelf

attribute [local go_sem] Oper.semAt_some

/-! A slice of one inode. -/
theorem fillI_get (vs : List Value) : ∀ (n o : Nat) (arr : Array Value) (k : Nat), ((vs.zipIdx n).foldl (fun cs x => cs.setIfInBounds (o + x.2) x.1) arr)[k]? = if o + n ≤ k ∧ k < o + n + vs.length ∧ k < arr.size then vs[k - (o + n)]? else arr[k]? := by
  induction vs with
  | nil => intro n o arr k; simp; omega
  | cons v r ih =>
    intro n o arr k
    rw [List.zipIdx_cons, List.foldl_cons, ih (n + 1) o _ k]
    simp only [Array.size_setIfInBounds, List.length_cons, Array.getElem?_setIfInBounds]
    by_cases h1 : k = o + n
    · subst h1
      rw [if_neg (by omega)]
      by_cases h2 : o + n < arr.size
      · simp [h2]
      · simp [h2]
    · by_cases h2 : o + n ≤ k ∧ k < o + n + (r.length + 1) ∧ k < arr.size
      · rw [if_pos (by omega), if_pos h2]
        have e : k - (o + n) = (k - (o + (n + 1))) + 1 := by omega
        rw [e, List.getElem?_cons_succ]
      · rw [if_neg (by omega), if_neg h2, if_neg (by omega)]
theorem zeroV_ino (W : World) : (zeroValue 40).run Tryz.prog W = .ok (.agg (Inode.cellsI .z).toArray) W := by
  obtain ⟨i0, hi, hz0, _, _⟩ := info_parts info_ino
  simp [zeroValue, typeInfo, hi, hz0]
theorem run_buildI (W : World) (v : List Value) (hl : v.length = 14) : (Instr.buildSlice 58 1 #[(0, .agg v.toArray)]).run Tryz.prog W = .ok (.slice (some ⟨W.heap.size, 0, none⟩) 1 1) (W.alloc (.cells v.toArray 40)) := by
  obtain ⟨Z, hZ⟩ : ∃ Z : Array Value, Z = (Array.range 14).map ((Value.agg (Inode.cellsI .z).toArray).cells[· % (Value.agg (Inode.cellsI .z).toArray).cells.size]!) := ⟨_, rfl⟩
  have hZs : Z.size = 14 := by rw [hZ]; simp
  have hz : ∀ W : World, (zeroValue 40).run Tryz.prog W = .ok (.agg (Inode.cellsI .z).toArray) W := zeroV_ino
  have hfill : v.zipIdx.foldl (fun cs x => cs.setIfInBounds (0 + x.2) x.1) Z = v.toArray := by
    apply Array.ext_getElem?
    intro k
    rw [fillI_get, hZs]
    simp only [hl, List.getElem?_toArray]
    rcases Nat.lt_or_ge k 14 with hk | hk
    · rw [if_pos (by omega)]
      congr 1
    · rw [if_neg (by omega), Array.getElem?_eq_none (by omega), List.getElem?_eq_none (by omega)]
  have c1 : (Value.agg v.toArray).cells = v.toArray := rfl
  unfold Instr.buildSlice
  simp only [Sem.run_bind, Tryz.runUnderlying58, Result.andThen_ok, Tryz.sizeOf40]
  simp only [Nat.zero_add] at hfill
  simp [Instr.fill, hz]
  rw [← hZ]
  simp [c1, hl, hfill]
  simp [newRow]
theorem wpListIn_buildI {F : Fence} {n : Nat} {ops : Array Oper} {rest : List Oper} {op : Oper} {a : Act} {w : World} {Q : Exit → Act → World → Prop} (hgd : op.guard = none) (x : Operand) (ho : op.op = .buildSlice 58 1 #[(0, x)]) (v : List Value) (hx : a.eval x = .agg v.toArray) (hl : v.length = 14)
    (h : wpListIn F n Tryz.prog ops Q rest (a.put op.dst (.slice (some ⟨w.heap.size, 0, none⟩) 1 1)) (w.alloc (.cells v.toArray 40))) : wpListIn F n Tryz.prog ops Q (op :: rest) a w := by
  refine wpListIn_plain hgd fun K hK => ?_
  unfold Oper.wpIn
  refine ⟨?_, ?_⟩
  · simp [Oper.about, ho]
  · rw [Oper.semAt_plain F _ _ (by rw [ho]; intro c hc'; cases hc')]
    unfold execOp
    simp only [ho, List.map_toArray, List.map_cons, List.map_nil, hx, Sem.run_bind, run_buildI w v hl, Result.andThen_ok]
    exact hK _ _ h
/-- append of an inode to inodes of the call's own. -/
theorem run_appI (w : World) (ty : TypeId) (base : Nat) (v : Value) (l : List Inode.Ino) (n : Nat) (hn : l.length = n) (hown : w.ownsRow base 40 14 v n (inosV l)) (x : Inode.Ino) (hx : Inode.Oki x) (g : Nat) (hg : Bk w g 40 (Inode.cellsI x)) (h63 : n ≤ 100000) (hbase : base ≤ w.heap.size) :
    ∃ g2 cap w', (Builtin.append_ #[58, 58] ty #[v, .slice (some ⟨g, 0, none⟩) 1 1]).run Tryz.prog w = .ok (.slice (some ⟨g2, 0, none⟩) (n + 1) cap) w' ∧ w'.ownsRow base 40 14 (.slice (some ⟨g2, 0, none⟩) (n + 1) cap) (n + 1) (inosV (l ++ [x])) ∧ w.grownBy w' v.ownBlock := by
  obtain ⟨i0, hi, hz0, hz1, hz2⟩ := info_parts info_ino
  obtain ⟨g2, cap, w', hrun, hown, hgr, -, -⟩ := run_append_lies (P := Tryz.prog) (w := w) 58 ty base 40 i0 _ 14 104 Tryz.underlying58 hi hz0 hz1 hz2 rfl (by decide) v n (inosV l) hown ⟨g, 0, none⟩ 1 1 (Inode.cellsI x) (by rw [Inode.length_cellsI hx]) (fun j u hu => by
    rw [Addr.add_lit, Nat.zero_add]
    exact (hg.cell j).trans hu) (cellsI_one x) (by decide) (by unfold maxLen; omega) (by omega) hbase w.heap.size rfl
  refine ⟨g2, cap, w', hrun, ?_, hgr⟩
  rw [inosV_append]
  have : inosV [x] = Inode.cellsI x := by simp [inosV]
  rw [this]
  exact hown

/-! Marks of loops that are over. -/
def mark (D : Nat) : Deferred := { target := .collected D, args := #[] }
theorem leaves_all {F : Fence} {n : Nat} {fn : Func} {tmps : Array Value} {R : Ending → World → Prop} {base : Nat} (Φ : World → Prop) (hΦ : ∀ W D, Φ W → base ≤ D → W.heap[D]? = some (.deferred (some [])) → Φ (W.putObj D (.deferred none))) (hend : ∀ W, Φ W → ∃ v, (results fn tmps).run Tryz.prog W = .ok v W ∧ R (.returned v) W) :
    ∀ (ds : List Nat) (W : World), ds.Nodup → (∀ D ∈ ds, base ≤ D ∧ W.heap[D]? = some (.deferred (some []))) → Φ W → LeavesInM F n Tryz.prog fn tmps R (ds.map mark) .returning W
  | [], W, _, _, h => hend W h
  | D :: ds, W, hnd, hD, h => by
    obtain ⟨h1, h2⟩ := hD D (by simp)
    obtain ⟨h3, h4⟩ := List.nodup_cons.1 hnd
    refine ⟨by simp, .inl ⟨D, _, rfl, run_takeDeferred h2, ?_⟩⟩
    refine leaves_all Φ hΦ hend ds _ h4 (fun E hE => ?_) (hΦ W D h h1 h2)
    obtain ⟨h5, h6⟩ := hD E (by simp [hE])
    exact ⟨h5, (World.putObj_heap_other (by rintro rfl; exact h3 hE)).trans h6⟩

/-- The variable that is boxed at Bs holds inodes of the call's own. -/
def HoldI (n₀ Bs : Nat) (l : List Inode.Ino) (W : World) : Prop := ∃ v, Boxed W Bs 58 v ∧ W.ownsRow n₀ 40 14 v l.length (inosV l)
theorem HoldI.nc {n₀ Bs : Nat} {l : List Inode.Ino} {X Y : World} {row : Option Nat} (h : HoldI n₀ Bs l X) (hg : X.grownBy Y row) (hrow : ∀ r, row = some r → ∃ o : Obj, X.heap[r]? = some o ∧ o.isCells = false) : HoldI n₀ Bs l Y := by
  obtain ⟨v, hb, hs⟩ := h
  refine ⟨v, hb.kept hg (fun e' => ?_), own_nc hs hg hrow⟩
  obtain ⟨o, ho, hc⟩ := hrow Bs e'.symm
  rw [show X.heap[Bs]? = _ from hb] at ho; cases ho; cases hc
theorem holdI_own {β : Type} (n₀ Bs : Nat) (f : β → List Inode.Ino) : Own (fun s W => HoldI n₀ Bs (f s) W) := fun _ _ _ _ h hg hrow => h.nc hg hrow
/-- Marks that lie as they lay. -/
def Marks (lo : Nat) (ds : List Nat) (W : World) : Prop := ds.Nodup ∧ ∀ D ∈ ds, lo ≤ D ∧ W.heap[D]? = some (.deferred (some []))
theorem Marks.lt {lo : Nat} {ds : List Nat} {W : World} (h : Marks lo ds W) {D : Nat} (hD : D ∈ ds) : D < W.heap.size := (Array.getElem?_eq_some_iff.1 (h.2 D hD).2).1
theorem Marks.below {lo : Nat} {ds : List Nat} {W W' : World} (h : Marks lo ds W) (hb : Below W.heap.size W W') : Marks lo ds W' := ⟨h.1, fun D hD => ⟨(h.2 D hD).1, (hb.block D (h.lt hD)).trans (h.2 D hD).2⟩⟩
theorem Marks.keeps {lo : Nat} {ds : List Nat} {W W' : World} (h : Marks lo ds W) (hk : KeepsOthers W W') : Marks lo ds W' := ⟨h.1, fun D hD => ⟨(h.2 D hD).1, hk.same D _ (h.2 D hD).2 rfl⟩⟩
theorem Marks.cons {lo D : Nat} {ds : List Nat} {W : World} (h : Marks lo ds W) (hlo : lo ≤ D) (hD : W.heap[D]? = some (.deferred (some []))) (hn : ∀ E ∈ ds, E < D) : Marks lo (D :: ds) W :=
  ⟨List.nodup_cons.2 ⟨fun hm => absurd (hn D hm) (Nat.lt_irrefl _), h.1⟩, fun E hE => by
    rcases List.mem_cons.1 hE with rfl | hE
    · exact ⟨hlo, hD⟩
    · exact h.2 E hE⟩

/-- A piece of a sector. -/
def part (s : List UInt8) (x : Nat) : List UInt8 := (s.drop (32 * x)).take 32
/-- The inodes of the first sectors. -/
noncomputable def inoS (l : List (List UInt8)) (k : Nat) : List Inode.Ino := (l.take k).flatMap fun s => [(Inode.takI (part s 0)).1, (Inode.takI (part s 1)).1]
theorem inoS_zero (l : List (List UInt8)) : inoS l 0 = [] := by simp [inoS]
theorem inoS_step {l : List (List UInt8)} {k : Nat} {s : List UInt8} (h : l[k]? = some s) : inoS l (k + 1) = inoS l k ++ [(Inode.takI (part s 0)).1, (Inode.takI (part s 1)).1] := by
  unfold inoS
  rw [List.take_add_one, h, List.flatMap_append]
  simp
theorem length_inoS {l : List (List UInt8)} {k : Nat} (h : k ≤ l.length) : (inoS l k).length = 2 * k := by
  induction k with
  | zero => simp [inoS]
  | succ k ih =>
    obtain ⟨s, hs⟩ : ∃ s, l[k]? = some s := ⟨_, List.getElem?_eq_getElem (by omega)⟩
    rw [inoS_step hs, List.length_append, ih (by omega)]
    simp
    omega
theorem range_two {s : List UInt8} : (List.range ((64 + 31) / 32)).map (fun x => (Inode.takI (part s x)).1) = [(Inode.takI (part s 0)).1, (Inode.takI (part s 1)).1] := rfl
end Go.Proofs.YtcjkbmmjpkghlaaGreat.Meta
