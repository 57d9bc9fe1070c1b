/-
  What is known of a new disk, as the document answers.
-/
import Derived.Test.YtcjkbmmjpkghlaaGreatQMetaR
import Derived.Test.YtcjkbmmjpkghlaaGreatQMetaA
import Derived.Test.YtcjkbmmjpkghlaaGreatQInternA
import Derived.Test.YtcjkbmmjpkghlaaGreatQInodeB
import Derived.Deep.RegionWith
namespace Go.Proofs.YtcjkbmmjpkghlaaGreat.Meta
open Go.Proofs.YtcjkbmmjpkghlaaGreat
open Go.RowKit

theorem info_ino : (Tryz.prog.info? 40).map (fun i => (i.zero, i.size, i.bytes)) = some (some (.agg (Inode.cellsI .z).toArray), 14, 104) := by kernel_rfl
theorem made_inos (n : Nat) : (madeCells (Value.agg (Inode.cellsI .z).toArray).cells (n * 14)) = (inosV (List.replicate n .z)).toArray := by
  have ho : ∀ m ∈ List.replicate n Inode.Ino.z, Inode.Oki m := fun m hm => by rw [List.eq_of_mem_replicate hm]; exact .z
  have hz : (Value.agg (Inode.cellsI .z).toArray).cells = (Inode.cellsI .z).toArray := by simp [Value.cells]
  have hl : (Inode.cellsI .z).length = 14 := by decide
  apply Array.ext
  · rw [hz]
    simp [madeCells, length_inosV ho]
  · intro k h1 h2
    have hk : k < n * 14 := by rw [hz] at h1; simpa [madeCells] using h1
    have e : k = k / 14 * 14 + k % 14 := by omega
    have hr : (List.replicate n Inode.Ino.z)[k / 14]? = some .z := by rw [List.getElem?_replicate, if_pos (by omega)]
    obtain ⟨u, hu⟩ : ∃ u, (Inode.cellsI .z)[k % 14]? = some u := ⟨_, List.getElem?_eq_getElem (by rw [hl]; omega)⟩
    have h3 := inosV_at ho hr hu
    rw [← e] at h3
    obtain ⟨h4, h5⟩ := List.getElem?_eq_some_iff.1 h3
    obtain ⟨h6, h7⟩ := List.getElem?_eq_some_iff.1 hu
    simp only [List.getElem_toArray, h5]
    simp only [madeCells, hz]
    simp [hl]
    rw [hu]
    rfl
theorem make_inos (n : Nat) (h : n ≤ 65536) (u : World) : (Instr.makeSlice 58 (.int .i64 (n : Int)) (.int .i64 (n : Int))).run Tryz.prog u =
    .ok (.slice (some ⟨u.heap.size, 0, none⟩) n n) (u.alloc (.cells (inosV (List.replicate n .z)).toArray 40)) := by
  obtain ⟨i0, hi, hz0, hz1, hz2⟩ := info_parts info_ino
  have hr := run_make (P := Tryz.prog) u 58 40 i0 (.agg (Inode.cellsI .z).toArray) Tryz.underlying58 hi hz0 .i64 .i64 (n : Int) (n : Int) (by omega) (Int.le_refl _) (by rw [hz2]; omega) (by omega)
  rw [Int.toNat_natCast, hz1, made_inos] at hr
  exact hr

/-- What is known, in memory of the call's own. -/
structure OwnM (w : World) (base : Nat) (x : Mem) (m : Met) : Prop where
  rows : w.ownsRow base 68 2 (.slice x.rA m.rows.length x.rc) m.rows.length (Intern.rowsV m.rows)
  own : w.ownsRow base 3 1 (.slice x.oA m.own.length x.oc) m.own.length (Inode.intsV m.own)
  used : w.ownsRow base 5 1 (.slice x.uA m.used.length x.uc) m.used.length (bytesV m.used)
  ino : w.ownsRow base 40 14 (.slice x.iA m.ino.length x.ic) m.ino.length (inosV m.ino)
theorem OwnM.below {w w' : World} {base : Nat} {x : Mem} {m : Met} (h : OwnM w base x m) (hb : Below w.heap.size w w') : OwnM w' base x m :=
  ⟨own_below h.rows hb, own_below h.own hb, own_below h.used hb, own_below h.ino hb⟩
theorem OwnM.base {w : World} {base base' : Nat} {x : Mem} {m : Met} (h : OwnM w base x m) (hb : base' ≤ base) : OwnM w base' x m :=
  ⟨own_mono h.rows hb, own_mono h.own hb, own_mono h.used hb, own_mono h.ino hb⟩
theorem own_rdk {w : World} {base : Nat} {e : TypeId} {k n c : Nat} {A : Option Addr} {xs : List Value} (h : w.ownsRow base e k (.slice A n c) n xs) : n ≤ c ∧ c ≤ maxLen ∧ Rd w w.heap.size A xs := by
  rcases h.2 with ⟨h1, h2⟩ | ⟨g, cap, cur, h1, hb, hg, h2, h3, h4, h5⟩
  · injection h1 with h1 h5 h6
    subst h1 h6
    have hx : xs.length = 0 := by rw [h.1, h2, Nat.zero_mul]
    exact ⟨by omega, by unfold maxLen; omega, .inl (List.eq_nil_of_length_eq_zero hx)⟩
  · injection h1 with h1 _ h6
    subst h1 h6
    refine ⟨h2, h3, .inr ⟨g, 0, rfl, ?_, fun j u hu => ?_⟩⟩
    · rcases Nat.lt_or_ge g w.heap.size with hlt | hge
      · exact hlt
      · rw [Array.getElem?_eq_none hge] at hg; cases hg
    · have hj : j < n * k := by have := (List.getElem?_eq_some_iff.1 hu).1; rw [h.1] at this; exact this
      rw [Nat.zero_add, h.cellAt j hj, hu]
theorem OwnM.lies {w : World} {base : Nat} {x : Mem} {m : Met} (h : OwnM w base x m) : Lies w w.heap.size x m := by
  obtain ⟨a1, a2, a3⟩ := own_rdk h.rows
  obtain ⟨b1, b2, b3⟩ := own_rdk h.own
  obtain ⟨c1, c2, c3⟩ := own_rdk h.used
  obtain ⟨d1, d2, d3⟩ := own_rdk h.ino
  exact ⟨a3, b3, c3, d3, ⟨a1, a2⟩, ⟨b1, b2⟩, ⟨c1, c2⟩, ⟨d1, d2⟩⟩
def memZ : Mem := ⟨none, 0, none, 0, none, 0, none, 0⟩
theorem ownM_z (w : World) (base : Nat) : OwnM w base memZ .z := ⟨World.ownsRow_nil _ _ _ _, World.ownsRow_nil _ _ _ _, World.ownsRow_nil _ _ _ _, World.ownsRow_nil _ _ _ _⟩
/-- What a call hands back that answers with what is known. -/
def HandsM (w : World) (r : Met × Nat) (e : Ending) (w' : World) : Prop := ∃ x : Mem, e = .returned (.tuple #[x.v r.1, .int .i64 (r.2 : Int)]) ∧ OwnM w' w.heap.size x r.1 ∧ Below w.heap.size w w'
theorem handsm_z {w w' : World} {k : Nat} (hb : Below w.heap.size w w') : HandsM w (.z, k) (.returned (.tuple #[.agg #[.slice none 0 0, .slice none 0 0, .slice none 0 0, .slice none 0 0], .int .i64 (k : Int)])) w' :=
  ⟨memZ, rfl, ownM_z _ _, hb⟩
theorem bk_alloc {w : World} {g : Nat} {e : TypeId} {xs : List Value} (h : Bk w g e xs) (o : Obj) : Bk (w.alloc o) g e xs := h.below ((Below.refl _ _).alloc (Nat.le_refl _) _) h.lt
theorem bk_drew {w : World} {g : Nat} {e : TypeId} {xs : List Value} (h : Bk w g e xs) : Bk w.drew g e xs := h
theorem bk_set {w : World} {g : Nat} {e : TypeId} {xs : List Value} (h : Bk w g e xs) (a : Addr) (u : Value) (hne : g ≠ a.block) : Bk (w.setCell a u) g e xs := (Below.heap_setCell w a u g hne).trans h
theorem bk_here {w : World} {g : Nat} {e : TypeId} (xs : List Value) (hg : g = w.heap.size) : Bk (w.alloc (.cells xs.toArray e)) g e xs := by subst hg; exact Bk.new w e xs
theorem bk_own {w : World} {base g : Nat} {e : TypeId} {xs : List Value} {k n m : Nat} (h : Bk w g e xs) (hb : base ≤ g) (hn : xs.length = m * k) (hm : m = n) (h9 : n ≤ maxLen) : w.ownsRow base e k (.slice (some ⟨g, 0, none⟩) m n) m xs := by
  subst hm
  exact ⟨hn, .inr ⟨g, m, xs.toArray, rfl, hb, h, Nat.le_refl _, h9, by simp [hn], by rw [← hn]; exact List.take_length⟩⟩
theorem hands_new {w W : World} {inn gn g0 g1 g2 g3 : Nat} (hi : inn ≤ 64) (hg : gn ≤ 64) {m : Met} (hm : m = ⟨List.replicate 16 .z, List.replicate gn 0, List.replicate 64 0, List.replicate inn .z⟩)
    (b0 : Bk W g0 68 (Intern.rowsV Intern.frees)) (b1 : Bk W g1 3 (Inode.intsV (List.replicate gn 0))) (b2 : Bk W g2 5 (bytesV (List.replicate 64 0))) (b3 : Bk W g3 40 (inosV (List.replicate inn .z)))
    (l0 : w.heap.size ≤ g0) (l1 : w.heap.size ≤ g1) (l2 : w.heap.size ≤ g2) (l3 : w.heap.size ≤ g3) (hb : Below w.heap.size w W) :
    HandsM w (m, 0) (.returned (.tuple #[.agg #[.slice (some ⟨g0, 0, none⟩) 16 16, .slice (some ⟨g1, 0, none⟩) gn gn, .slice (some ⟨g2, 0, none⟩) 64 64, .slice (some ⟨g3, 0, none⟩) inn inn], .int .i64 0])) W := by
  subst hm
  refine ⟨⟨some ⟨g0, 0, none⟩, 16, some ⟨g1, 0, none⟩, gn, some ⟨g2, 0, none⟩, 64, some ⟨g3, 0, none⟩, inn⟩, ?_, ⟨?_, ?_, ?_, ?_⟩, hb⟩
  · simp [Mem.v]
  · exact bk_own b0 l0 (by simp [Intern.length_rowsV]) (by simp) (by show 16 ≤ maxLen; decide)
  · exact bk_own b1 l1 (by simp [Inode.length_intsV]) (by simp) (by show gn ≤ maxLen; unfold maxLen; omega)
  · exact bk_own b2 l2 (by simp [length_bytesV]) (by simp) (by show 64 ≤ maxLen; decide)
  · exact bk_own b3 l3 (by rw [length_inosV (fun n hn => by rw [List.eq_of_mem_replicate hn]; exact .z)]) (by simp) (by show inn ≤ maxLen; unfold maxLen; omega)
theorem new_end {w W : World} {inn gn g0 g1 g2 g3 : Nat} {tm : Array Value} {df : List Deferred} (hi : inn ≤ 64) (hg : gn ≤ 64) {x0 x1 x2 x3 : List Value} (e0 : Intern.rowsV Intern.frees = x0) (e1 : Inode.intsV (List.replicate gn 0) = x1) (e2 : bytesV (List.replicate 64 0) = x2) (e3 : inosV (List.replicate inn .z) = x3) (hd : df = [])
    (hr : (results Tryz.f48 tm).run Tryz.prog W = .ok (.tuple #[.agg #[.slice (some ⟨g0, 0, none⟩) 16 16, .slice (some ⟨g1, 0, none⟩) gn gn, .slice (some ⟨g2, 0, none⟩) 64 64, .slice (some ⟨g3, 0, none⟩) inn inn], .int .i64 0]) W)
    (b0 : Bk W g0 68 x0) (b1 : Bk W g1 3 x1) (b2 : Bk W g2 5 x2) (b3 : Bk W g3 40 x3)
    (l0 : w.heap.size ≤ g0) (l1 : w.heap.size ≤ g1) (l2 : w.heap.size ≤ g2) (l3 : w.heap.size ≤ g3) (hb : Below w.heap.size w W) :
    bodyPost Tryz.prog Tryz.f48 (fun e w' => HandsM w (⟨List.replicate 16 .z, List.replicate gn 0, List.replicate 64 0, List.replicate inn .z⟩, 0) e w') .ret { tmps := tm, defers := df } W := by
  subst e0 e1 e2 e3
  exact bodyPost_ret hr hd (hands_new hi hg rfl b0 b1 b2 b3 l0 l1 l2 l3 hb)
theorem rnew_no {j i g p : Int} (hv : ¬ Super.Valid j i g p) (w : World) : Calls Tryz.prog 48 #[.agg #[.int .i64 j, .int .i64 i, .int .i64 g, .int .i64 p]] w fun e w' => HandsM w (.z, 1) e w' := by
  have HV : Hid (∀ u : World, Calls Tryz.prog 100 #[.agg #[.int .i64 j, .int .i64 i, .int .i64 g, .int .i64 p]] u fun e w' => e = .returned (.bool false) ∧ Super.Boxed u j i g p w') := Lib.hid (fun u => Super.rright_no hv u)
  clear hv
  go_enter Tryz.func48, Tryz.ntmps48
  go_wp2_with (go_at_call 100; (with_reducible refine (HV.out _).mono ?_); rintro e w1 ⟨he, n, hw⟩; obtain rfl := he; subst hw)
  refine bodyPost_ret (v := .tuple #[.agg #[.slice none 0 0, .slice none 0 0, .slice none 0 0, .slice none 0 0], .int .i64 1]) (by simp [results, Tryz.results48, go_sem]) rfl (handsm_z ?_)
  repeat (first | with_reducible exact Below.refl _ _ | with_reducible refine below_drewN ?_ _ | with_reducible refine Below.drew ?_ | with_reducible refine Below.setCell ?_ ?_ _ | with_reducible refine Below.alloc ?_ ?_ _)
  all_goals (simp <;> omega)
end Go.Proofs.YtcjkbmmjpkghlaaGreat.Meta
