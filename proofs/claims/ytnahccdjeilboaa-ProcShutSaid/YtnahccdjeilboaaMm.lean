/-
  The program's table of processes, and the document's, as they lie in memory.
  No condition is set.
-/
import Derived.Test.YtnahccdjeilboaaPa
import Derived.Test.YtnahccdjeilboaaSep
import Derived.Laws.NewBlocks
namespace Go.Proofs.Ytnahccdjeilboaa.Prc
open Go.RowKit Apart

/-- A block that is known cell by cell. -/
def Bf (w : World) (b : Nat) (e : TypeId) (N : Nat) (f : Nat → Value) : Prop := Bk w b e ((List.range N).map f)
section
variable {w w' : World} {b N : Nat} {e : TypeId} {f f' : Nat → Value}
theorem Bf.cell (h : Bf w b e N f) {i : Nat} (hi : i < N) : w.cell? ⟨b, i, none⟩ = some (f i) := by
  rw [Bk.cell h i, List.getElem?_map, List.getElem?_range hi]
  rfl
theorem Bf.frozen (h : Bf w b e N f) (i : Nat) : w.frozen? ⟨b, i, none⟩ = false := Bk.frozen h i
theorem Bf.congr (h : Bf w b e N f) (hf : ∀ m, m < N → f m = f' m) : Bf w b e N f' := by
  have e1 : (List.range N).map f = (List.range N).map f' := List.map_congr_left fun m hm => hf m (List.mem_range.1 hm)
  unfold Bf at h ⊢
  rwa [← e1]
theorem Bf.set (h : Bf w b e N f) {i : Nat} (_hi : i < N) (v : Value) : Bf (w.setCell ⟨b, i, none⟩ v) b e N (upd f i v) := by
  have h1 := Bk.set h i v
  have e1 : ((List.range N).map f).set i v = (List.range N).map (upd f i v) := by
    apply List.ext_getElem?
    intro k
    rw [List.getElem?_set, List.getElem?_map]
    by_cases hk : i = k
    · subst hk
      simp [upd, _hi]
    · rw [if_neg hk]
      rw [List.getElem?_map]
      rcases Nat.lt_or_ge k N with h2 | h2
      · rw [List.getElem?_range h2]
        simp [upd, Ne.symm hk]
      · rw [List.getElem?_eq_none (by simpa using h2)]
        rfl
  rw [e1] at h1
  exact h1
theorem Bf.lt (h : Bf w b e N f) : b < w.heap.size := Bk.lt h
theorem Bf.of (h : w'.heap[b]? = w.heap[b]?) (hb : Bf w b e N f) : Bf w' b e N f := h.trans hb
end

def ptrV (x : Option Nat) : Value := .pointer (x.map fun g => ⟨g, 0, none⟩)
/-- A cell of the program's table. -/
def cT (n : Nat) (lab : Nat → Nat) (G : Nat → Option Nat) (m : Nat) : Value := if m = 0 then .int .i64 (n : Int) else if m < 9 then .int .u16 (lab (m - 1) : Int) else ptrV (G (m - 9))
theorem cT_zero (n : Nat) (lab : Nat → Nat) (G : Nat → Option Nat) : cT n lab G 0 = .int .i64 (n : Int) := rfl
theorem cT_lab (n : Nat) (lab : Nat → Nat) (G : Nat → Option Nat) {p : Nat} (h : p < 8) : cT n lab G (1 + p) = .int .u16 (lab p : Int) := by
  unfold cT
  rw [if_neg (by omega), if_pos (by omega), show 1 + p - 1 = p by omega]
theorem cT_fil (n : Nat) (lab : Nat → Nat) (G : Nat → Option Nat) (k : Nat) : cT n lab G (9 + k) = ptrV (G k) := by
  unfold cT
  rw [if_neg (by omega), if_neg (by omega), show 9 + k - 9 = k by omega]
def fdC (x : Int × Int) : List Value := [.int .i64 x.1, .int .i64 x.2]
structure TabG (b : Nat) (t : Tb) (G : Nat → Option Nat) (w : World) : Prop where
  blk : Bf w b 72 73 (cT t.n t.lab G)
  none_ : ∀ k, k < 64 → G k = none → t.fil k = none
  some_ : ∀ k g, k < 64 → G k = some g → ∃ x, t.fil k = some x ∧ Bk w g 40 (fdC x)
  inj : ∀ i j g, i < 64 → j < 64 → G i = some g → G j = some g → i = j
/-- The blocks that it has. -/
def ftG (b : Nat) (G : Nat → Option Nat) (i : Nat) : Prop := i = b ∨ ∃ k, k < 64 ∧ G k = some i
/-- The program's table. -/
def TabA (b : Nat) (t : Tb) : Asr := fun P w => ∃ G, TabG b t G w ∧ ∀ i, P i ↔ ftG b G i
section
variable {b r : Nat} {t : Tb} {G : Nat → Option Nat} {w w' : World} {P : Nat → Prop}
theorem TabG.keep (h : TabG b t G w) (hk : ∀ i, ftG b G i → w'.heap[i]? = w.heap[i]?) : TabG b t G w' :=
  ⟨Bf.of (hk b (.inl rfl)) h.blk, h.none_, fun k g hlt hg => by
    obtain ⟨x, h1, h2⟩ := h.some_ k g hlt hg
    exact ⟨x, h1, (hk g (.inr ⟨k, hlt, hg⟩)).trans h2⟩, h.inj⟩
theorem tab_lcl (b : Nat) (t : Tb) : Lcl (TabA b t) := ⟨fun _ _ _ ⟨G, h1, h2⟩ hk _ => ⟨G, h1.keep fun i hi => hk i ((h2 i).2 hi), h2⟩⟩
theorem TabG.ne (h : TabG b t G w) {k g : Nat} (hk : k < 64) (hg : G k = some g) : g ≠ b := by
  obtain ⟨x, -, h2⟩ := h.some_ k g hk hg
  exact type_ne h2 h.blk (by decide)
theorem TabG.lt (h : TabG b t G w) {i : Nat} (hi : ftG b G i) : i < w.heap.size := by
  rcases hi with rfl | ⟨k, hk, hg⟩
  · exact h.blk.lt
  · obtain ⟨x, -, h2⟩ := h.some_ k i hk hg
    exact h2.lt
theorem TabG.ptr (h : TabG b t G w) {k : Nat} (hk : k < 64) {x : Int × Int} (hx : t.fil k = some x) : ∃ g, G k = some g ∧ Bk w g 40 (fdC x) := by
  cases hg : G k with
  | none =>
    rw [h.none_ k hk hg] at hx
    cases hx
  | some g =>
    obtain ⟨y, h1, h2⟩ := h.some_ k g hk hg
    rw [hx] at h1
    cases h1
    exact ⟨g, rfl, h2⟩
theorem TabG.nil (h : TabG b t G w) {k : Nat} (hk : k < 64) (hx : t.fil k = none) : G k = none := by
  cases hg : G k with
  | none => rfl
  | some g =>
    obtain ⟨y, h1, -⟩ := h.some_ k g hk hg
    rw [hx] at h1
    cases h1
/-- A store into its own block. -/
theorem TabG.store (h : TabG b t G w) (i : Nat) (v : Value) {k : Nat} (hk : ftG b G k) (hne : k ≠ b) : (w.setCell ⟨b, i, none⟩ v).heap[k]? = w.heap[k]? := Below.heap_setCell w _ v k hne
/-- A label is another one. -/
theorem tab_raise (h : TabG b t G w) (hP : ∀ i, P i ↔ ftG b G i) {p : Nat} (hp : p < 8) (a : Nat) : Nx (TabA b { t with lab := upd t.lab p a }) P w (w.setCell ⟨b, 1 + p, none⟩ (.int .u16 (a : Int))) := by
  refine ⟨P, ⟨G, ⟨?_, h.none_, fun k g hk hg => ?_, h.inj⟩, hP⟩, Kept.of_grown (only_set (World.grownBy.refl w (some b)) _ _) (fun k hk => by cases hk; exact (hP _).2 (.inl rfl)), fun i hi => ⟨.inl hi, ?_⟩⟩
  · refine (h.blk.set (i := 1 + p) (by omega) _).congr fun m hm => ?_
    unfold upd cT
    show (if m = 1 + p then _ else _) = (if m = 0 then _ else if m < 9 then Value.int .u16 ((if m - 1 = p then a else t.lab (m - 1) : Nat) : Int) else _)
    by_cases h1 : m = 1 + p
    · rw [if_pos h1, if_neg (by omega), if_pos (by omega), if_pos (by omega)]
    · rw [if_neg h1]
      by_cases h2 : m = 0
      · rw [if_pos h2, if_pos h2]
      · rw [if_neg h2, if_neg h2]
        by_cases h3 : m < 9
        · rw [if_pos h3, if_pos h3, if_neg (by omega)]
        · rw [if_neg h3, if_neg h3]
  · obtain ⟨x, h1, h2⟩ := h.some_ k g hk hg
    exact ⟨x, h1, (h.store _ _ (.inr ⟨k, hk, hg⟩) (h.ne hk hg)).trans h2⟩
  · have := h.lt ((hP i).1 hi)
    simpa using this
theorem cT_upd (n : Nat) (lab : Nat → Nat) (G : Nat → Option Nat) (k : Nat) (x : Option Nat) (m : Nat) : upd (cT n lab G) (9 + k) (ptrV x) m = cT n lab (upd G k x) m := by
  unfold upd cT
  by_cases h1 : m = 9 + k
  · rw [if_pos h1, if_neg (by omega), if_neg (by omega)]
    show _ = ptrV (if m - 9 = k then x else G (m - 9))
    rw [if_pos (by omega)]
  · rw [if_neg h1]
    by_cases h2 : m = 0
    · rw [if_pos h2, if_pos h2]
    · rw [if_neg h2, if_neg h2]
      by_cases h3 : m < 9
      · rw [if_pos h3, if_pos h3]
      · rw [if_neg h3, if_neg h3]
        show _ = ptrV (if m - 9 = k then x else G (m - 9))
        rw [if_neg (by omega)]
/-- What is open is closed. -/
theorem tab_close (h : TabG b t G w) (hP : ∀ i, P i ↔ ftG b G i) {k : Nat} (hk : k < 64) : Nx (TabA b { t with fil := upd t.fil k none }) P w (w.setCell ⟨b, 9 + k, none⟩ (.pointer none)) := by
  have hG : ∀ m g, upd G k none m = some g → m ≠ k ∧ G m = some g := fun m g hm => by
    unfold upd at hm
    split at hm
    · cases hm
    · exact ⟨‹_›, hm⟩
  refine ⟨ftG b (upd G k none), ⟨upd G k none, ⟨?_, fun m hm hg => ?_, fun m g hm hg => ?_, fun i j g hi hj h1 h2 => h.inj i j g hi hj (hG i g h1).2 (hG j g h2).2⟩, fun i => Iff.rfl⟩, Kept.of_grown (only_set (World.grownBy.refl w (some b)) _ _) (fun k hk => by cases hk; exact (hP _).2 (.inl rfl)), fun i hi => ?_⟩
  · exact (h.blk.set (i := 9 + k) (by omega) _).congr fun m hm => cT_upd t.n t.lab G k none m
  · show upd t.fil k none m = none
    by_cases e : m = k
    · subst e
      exact upd_same _ _ _
    · rw [upd_other _ _ e] at hg ⊢
      exact h.none_ m hm hg
  · obtain ⟨h1, h2⟩ := hG m g hg
    obtain ⟨x, h3, h4⟩ := h.some_ m g hm h2
    exact ⟨x, (upd_other _ _ h1).trans h3, (h.store _ _ (.inr ⟨m, hm, h2⟩) (h.ne hm h2)).trans h4⟩
  · have hi' : ftG b G i := by
      rcases hi with rfl | ⟨m, hm, hg⟩
      · exact .inl rfl
      · exact .inr ⟨m, hm, (hG m i hg).2⟩
    refine ⟨.inl ((hP i).2 hi'), ?_⟩
    have := h.lt hi'
    simpa using this
theorem tab_close2 (h : TabG b t G w) (hP : ∀ i, P i ↔ ftG b G i) {q k : Nat} (hq : q < 8) (hk : k < 8) : Nx (TabA b { t with fil := upd t.fil (q * 8 + k) none }) P w (w.setCell ⟨b, 9 + q * 8 + k, none⟩ (.pointer none)) := by
  rw [Nat.add_assoc]
  exact tab_close h hP (by omega)
/-- A new open file. -/
theorem tab_open (h : TabG b t G w) (hP : ∀ i, P i ↔ ftG b G i) {k : Nat} (hk : k < 64) (x : Int × Int) (hx : t.fil k = none) : Nx (TabA b { t with fil := upd t.fil k (some x) }) P w ((w.alloc (.cells (fdC x).toArray 40)).setCell ⟨b, 9 + k, none⟩ (.pointer (some ⟨w.heap.size, 0, none⟩))) := by
  have hg0 := h.nil hk hx
  have hsz : ((w.alloc (.cells (fdC x).toArray 40)).setCell ⟨b, 9 + k, none⟩ (.pointer (some ⟨w.heap.size, 0, none⟩))).heap.size = w.heap.size + 1 := by simp
  have hbl : Below w.heap.size w (w.alloc (.cells (fdC x).toArray 40)) := (Below.refl _ w).alloc (Nat.le_refl _) _
  have hold : ∀ i, i < w.heap.size → i ≠ b → ((w.alloc (.cells (fdC x).toArray 40)).setCell ⟨b, 9 + k, none⟩ (.pointer (some ⟨w.heap.size, 0, none⟩))).heap[i]? = w.heap[i]? := fun i hi hne => (Below.heap_setCell _ _ _ i hne).trans (hbl.block i hi)
  have hbs := h.blk.lt
  have hnew : Bk ((w.alloc (.cells (fdC x).toArray 40)).setCell ⟨b, 9 + k, none⟩ (.pointer (some ⟨w.heap.size, 0, none⟩))) w.heap.size 40 (fdC x) := (Below.heap_setCell _ _ _ _ (by show w.heap.size ≠ b; omega)).trans (Bk.new w 40 (fdC x))
  have hG : ∀ m g, upd G k (some w.heap.size) m = some g → (m = k ∧ g = w.heap.size) ∨ (m ≠ k ∧ G m = some g) := fun m g hm => by
    unfold upd at hm
    split at hm
    · cases hm
      exact .inl ⟨‹_›, rfl⟩
    · exact .inr ⟨‹_›, hm⟩
  have hlt : ∀ m g, m < 64 → G m = some g → g < w.heap.size := fun m g hm hg => h.lt (.inr ⟨m, hm, hg⟩)
  refine ⟨ftG b (upd G k (some w.heap.size)), ⟨upd G k (some w.heap.size), ⟨?_, fun m hm hg => ?_, fun m g hm hg => ?_, fun i j g hi hj h1 h2 => ?_⟩, fun i => Iff.rfl⟩, ?_, fun i hi => ?_⟩
  · have h0 : Bf (w.alloc (.cells (fdC x).toArray 40)) b 72 73 (cT t.n t.lab G) := Bf.of (hbl.block b hbs) h.blk
    exact (h0.set (i := 9 + k) (by omega) _).congr fun m hm => cT_upd t.n t.lab G k (some w.heap.size) m
  · show upd t.fil k (some x) m = none
    by_cases e : m = k
    · subst e
      rw [upd_same] at hg
      cases hg
    · rw [upd_other _ _ e] at hg ⊢
      exact h.none_ m hm hg
  · rcases hG m g hg with ⟨rfl, rfl⟩ | ⟨h1, h2⟩
    · exact ⟨x, upd_same _ _ _, hnew⟩
    · obtain ⟨y, h3, h4⟩ := h.some_ m g hm h2
      exact ⟨y, (upd_other _ _ h1).trans h3, (hold g (hlt m g hm h2) (h.ne hm h2)).trans h4⟩
  · rcases hG i g h1 with ⟨rfl, rfl⟩ | ⟨h3, h4⟩
    · rcases hG j _ h2 with ⟨rfl, -⟩ | ⟨-, h5⟩
      · rfl
      · have := hlt j _ hj h5
        omega
    · rcases hG j g h2 with ⟨rfl, rfl⟩ | ⟨-, h5⟩
      · have := hlt i _ hi h4
        omega
      · exact h.inj i j g hi hj h4 h5
  · exact (Kept.of_below hbl).trans (Kept.of_grown (S := fun i => i = b) (only_set (World.grownBy.refl _ (some b)) _ _) (fun k hk => by cases hk; rfl)) (fun i hi => .inl ((hP i).2 (.inl hi)))
  · rw [hsz]
    rcases hi with rfl | ⟨m, hm, hg⟩
    · exact ⟨.inl ((hP _).2 (.inl rfl)), by omega⟩
    · rcases hG m i hg with ⟨rfl, rfl⟩ | ⟨h1, h2⟩
      · exact ⟨.inr (Nat.le_refl _), by omega⟩
      · have := hlt m i hm h2
        exact ⟨.inl ((hP _).2 (.inr ⟨m, hm, h2⟩)), by omega⟩
theorem tab_open2 (h : TabG b t G w) (hP : ∀ i, P i ↔ ftG b G i) {q k : Nat} (hq : q < 8) (hk : k < 8) (i : Int) (hx : t.fil (q * 8 + k) = none) : Nx (TabA b { t with fil := upd t.fil (q * 8 + k) (some (i, 0)) }) P w ((w.setCell ⟨b, 9 + q * 8 + k, none⟩ (.pointer (some ⟨w.heap.size, 0, none⟩))).alloc (.cells #[.int .i64 i, .int .i64 0] 40)) := by
  rw [← World.setCell_alloc_past _ _ _ _ h.blk.lt, Nat.add_assoc]
  exact tab_open h hP (by omega) (i, 0) hx
/-- Its place is another one. -/
theorem tab_move (h : TabG b t G w) (hP : ∀ i, P i ↔ ftG b G i) {k g : Nat} (hk : k < 64) (hg : G k = some g) {x : Int × Int} (hx : t.fil k = some x) (a : Int) : Nx (TabA b { t with fil := upd t.fil k (some (x.1, a)) }) P w (w.setCell ⟨g, 1, none⟩ (.int .i64 a)) := by
  have hnb := h.ne hk hg
  refine ⟨P, ⟨G, ⟨Bf.of (Below.heap_setCell w _ _ b (Ne.symm hnb)) h.blk, fun m hm h1 => ?_, fun m q hm h1 => ?_, h.inj⟩, hP⟩, Kept.of_grown (only_set (World.grownBy.refl w (some g)) _ _) (fun i hi => by cases hi; exact (hP _).2 (.inr ⟨k, hk, hg⟩)), fun i hi => ⟨.inl hi, ?_⟩⟩
  · show upd t.fil k _ m = none
    by_cases e : m = k
    · subst e
      rw [hg] at h1
      cases h1
    · rw [upd_other _ _ e]
      exact h.none_ m hm h1
  · obtain ⟨y, h2, h3⟩ := h.some_ m q hm h1
    by_cases e : m = k
    · subst e
      rw [hg] at h1
      cases h1
      rw [hx] at h2
      cases h2
      exact ⟨(x.1, a), upd_same _ _ _, h3.set 1 (.int .i64 a)⟩
    · have hq : q ≠ g := by
        rintro rfl
        exact e (h.inj m k q hm hk h1 hg)
      exact ⟨y, (upd_other _ _ e).trans h2, (Below.heap_setCell w _ _ q hq).trans h3⟩
  · have := h.lt ((hP i).1 hi)
    simpa using this

/-- A cell of the document's processes. -/
def slV (x : Option (Int × Int)) (j : Nat) : Value := if j = 0 then .bool x.isSome else if j = 1 then .int .i64 (x.getD (0, 0)).1 else .int .i64 (x.getD (0, 0)).2
def cR (t : Tb) (m : Nat) : Value := if m % 25 = 0 then .int .u16 (t.lab (m / 25) : Int) else slV (t.fil (m / 25 * 8 + (m % 25 - 1) / 3)) ((m % 25 - 1) % 3)
structure RefG (b r : Nat) (t : Tb) (w : World) : Prop where
  blk : Bk w b 54 [.slice (some ⟨r, 0, none⟩) t.n t.n]
  row : Bf w r 51 (t.n * 25) (cR t)
/-- The document's table. -/
def RefA (b r : Nat) (t : Tb) : Asr := fun P w => RefG b r t w ∧ ∀ i, P i ↔ (i = b ∨ i = r)
theorem ref_lcl (b r : Nat) (t : Tb) : Lcl (RefA b r t) := ⟨fun _ _ _ ⟨h1, h2⟩ hk _ => ⟨⟨(hk b ((h2 b).2 (.inl rfl))).trans h1.blk, Bf.of (hk r ((h2 r).2 (.inr rfl))) h1.row⟩, h2⟩⟩
theorem cR_lab (t : Tb) (p : Nat) : cR t (p * 25) = .int .u16 (t.lab p : Int) := by
  unfold cR
  rw [if_pos (by omega), show p * 25 / 25 = p by omega]
theorem d25 (p : Nat) {c : Nat} (h : c < 25) : (p * 25 + c) / 25 = p ∧ (p * 25 + c) % 25 = c := by omega
theorem d3 (k : Nat) {j : Nat} (h : j < 3) : (k * 3 + j) / 3 = k ∧ (k * 3 + j) % 3 = j := by omega
theorem d75 (p : Nat) {k j : Nat} (hk : k < 8) (hj : j < 3) : (p * 25 + 1 + k * 3 + j) / 25 = p ∧ ((p * 25 + 1 + k * 3 + j) % 25 - 1) / 3 = k ∧ ((p * 25 + 1 + k * 3 + j) % 25 - 1) % 3 = j ∧ ¬ (p * 25 + 1 + k * 3 + j) % 25 = 0 := by
  obtain ⟨h1, h2⟩ := d25 p (c := 1 + k * 3 + j) (by omega)
  obtain ⟨h3, h4⟩ := d3 k hj
  have e : p * 25 + 1 + k * 3 + j = p * 25 + (1 + k * 3 + j) := by omega
  rw [e, h1, h2, show 1 + k * 3 + j - 1 = k * 3 + j by omega]
  exact ⟨rfl, h3, h4, by omega⟩
theorem d75_not {p k m : Nat} (hk : k < 8) (h0 : ¬ m % 25 = 0) (h1 : ¬ m = p * 25 + 1 + k * 3) (h2 : ¬ m = p * 25 + 1 + k * 3 + 1) (h3 : ¬ m = p * 25 + 1 + k * 3 + 2) : ¬ m / 25 * 8 + (m % 25 - 1) / 3 = p * 8 + k := by
  have a1 : m = m / 25 * 25 + m % 25 := by omega
  have a2 : m % 25 < 25 := by omega
  generalize m / 25 = d at *
  generalize m % 25 = e at *
  intro h
  have a3 : (e - 1) / 3 < 8 := by omega
  have a4 : d = p := by omega
  have a5 : (e - 1) / 3 = k := by omega
  subst a4
  have a6 : e - 1 = (e - 1) / 3 * 3 + (e - 1) % 3 := by omega
  have a7 : (e - 1) % 3 < 3 := by omega
  rw [a5] at a6
  generalize (e - 1) % 3 = f at *
  clear a5 a3 h
  omega
theorem cR_slot (t : Tb) (p : Nat) {k j : Nat} (hk : k < 8) (hj : j < 3) : cR t (p * 25 + 1 + k * 3 + j) = slV (t.fil (p * 8 + k)) j := by
  obtain ⟨h1, h2, h3, h4⟩ := d75 p hk hj
  unfold cR
  rw [if_neg h4, h1, h2, h3]
theorem RefG.ne (h : RefG b r t w) : b ≠ r := type_ne h.blk h.row (by decide)
theorem RefG.sl (h : RefG b r t w) {p k j : Nat} (hp : p < t.n) (hk : k < 8) (hj : j < 3) : w.cell? ⟨r, p * 25 + 1 + k * 3 + j, none⟩ = some (slV (t.fil (p * 8 + k)) j) := by
  rw [h.row.cell (by omega), cR_slot t p hk hj]
theorem RefG.lab (h : RefG b r t w) {p : Nat} (hp : p < t.n) : w.cell? ⟨r, p * 25, none⟩ = some (.int .u16 (t.lab p : Int)) := by
  rw [h.row.cell (by omega), cR_lab]
theorem ref_nx {t' : Tb} (h : RefG b r t w) (hP : ∀ i, P i ↔ (i = b ∨ i = r)) (hn : t'.n = t.n) (hg : w.grownBy w' (some r)) (hr : Bf w' r 51 (t.n * 25) (cR t')) : Nx (RefA b r t') P w w' := by
  have hne := h.ne
  refine ⟨P, ⟨⟨?_, by rw [hn]; exact hr⟩, hP⟩, Kept.of_grown hg (fun k hk => by cases hk; exact (hP _).2 (.inr rfl)), fun i hi => ⟨.inl hi, ?_⟩⟩
  · rw [hn]
    exact (hg.block b h.blk.lt (by rintro e; injection e with e; exact hne e)).trans h.blk
  · have : i < w.heap.size := by
      rcases (hP i).1 hi with rfl | rfl
      · exact h.blk.lt
      · exact h.row.lt
    exact Nat.lt_of_lt_of_le this hg.size
theorem ref_raise (h : RefG b r t w) (hP : ∀ i, P i ↔ (i = b ∨ i = r)) {p : Nat} (hp : p < t.n) (a : Nat) : Nx (RefA b r { t with lab := upd t.lab p a }) P w (w.setCell ⟨r, p * 25, none⟩ (.int .u16 (a : Int))) := by
  refine ref_nx h hP rfl (only_set (World.grownBy.refl w (some r)) _ _) ((h.row.set (i := p * 25) (by omega) _).congr fun m hm => ?_)
  unfold upd cR
  show (if m = p * 25 then _ else _) = (if m % 25 = 0 then Value.int .u16 ((if m / 25 = p then a else t.lab (m / 25) : Nat) : Int) else _)
  by_cases h1 : m = p * 25
  · rw [if_pos h1, if_pos (by omega), if_pos (by omega)]
  · rw [if_neg h1]
    by_cases h2 : m % 25 = 0
    · rw [if_pos h2, if_pos h2, if_neg (by omega)]
    · rw [if_neg h2, if_neg h2]
theorem cR_upd (t : Tb) {p k : Nat} (hk : k < 8) (x : Option (Int × Int)) (m : Nat) :
    upd (upd (upd (cR t) (p * 25 + 1 + k * 3) (slV x 0)) (p * 25 + 1 + k * 3 + 1) (slV x 1)) (p * 25 + 1 + k * 3 + 2) (slV x 2) m = cR { t with fil := upd t.fil (p * 8 + k) x } m := by
  unfold upd cR
  show _ = (if m % 25 = 0 then Value.int .u16 (t.lab (m / 25) : Int) else slV (if m / 25 * 8 + (m % 25 - 1) / 3 = p * 8 + k then x else t.fil (m / 25 * 8 + (m % 25 - 1) / 3)) ((m % 25 - 1) % 3))
  by_cases h3 : m = p * 25 + 1 + k * 3 + 2
  · obtain ⟨g1, g2, g3, g4⟩ := d75 p hk (j := 2) (by omega)
    rw [if_pos h3, h3]
    rw [if_neg g4, g1, g2, g3, if_pos rfl]
  rw [if_neg h3]
  by_cases h2 : m = p * 25 + 1 + k * 3 + 1
  · obtain ⟨g1, g2, g3, g4⟩ := d75 p hk (j := 1) (by omega)
    rw [if_pos h2, h2]
    rw [if_neg g4, g1, g2, g3, if_pos rfl]
  rw [if_neg h2]
  by_cases h1 : m = p * 25 + 1 + k * 3
  · obtain ⟨g1, g2, g3, g4⟩ := d75 p hk (j := 0) (by omega)
    rw [if_pos h1, h1]
    simp only [Nat.add_zero] at g1 g2 g3 g4
    rw [if_neg g4, g1, g2, g3, if_pos rfl]
  rw [if_neg h1]
  by_cases h0 : m % 25 = 0
  · rw [if_pos h0, if_pos h0]
  · rw [if_neg h0, if_neg h0, if_neg (d75_not hk h0 h1 h2 h3)]
theorem ref_slot (h : RefG b r t w) (hP : ∀ i, P i ↔ (i = b ∨ i = r)) {p k : Nat} (hp : p < t.n) (hk : k < 8) (x : Option (Int × Int)) :
    Nx (RefA b r { t with fil := upd t.fil (p * 8 + k) x }) P w (((w.setCell ⟨r, p * 25 + 1 + k * 3, none⟩ (slV x 0)).setCell ⟨r, p * 25 + 1 + k * 3 + 1, none⟩ (slV x 1)).setCell ⟨r, p * 25 + 1 + k * 3 + 2, none⟩ (slV x 2)) :=
  ref_nx h hP rfl (only_set (only_set (only_set (World.grownBy.refl w (some r)) _ _) _ _) _ _) ((((h.row.set (i := p * 25 + 1 + k * 3) (by omega) _).set (i := p * 25 + 1 + k * 3 + 1) (by omega) _).set (i := p * 25 + 1 + k * 3 + 2) (by omega) _).congr fun m _ => cR_upd t hk x m)
theorem ref_move (h : RefG b r t w) (hP : ∀ i, P i ↔ (i = b ∨ i = r)) {p k : Nat} (hp : p < t.n) (hk : k < 8) {x : Int × Int} (hx : t.fil (p * 8 + k) = some x) (a : Int) :
    Nx (RefA b r { t with fil := upd t.fil (p * 8 + k) (some (x.1, a)) }) P w (w.setCell ⟨r, p * 25 + 1 + k * 3 + 2, none⟩ (.int .i64 a)) := by
  refine ref_nx h hP rfl (only_set (World.grownBy.refl w (some r)) _ _) ((h.row.set (i := p * 25 + 1 + k * 3 + 2) (by omega) _).congr fun m hm => ?_)
  rw [← cR_upd t hk (some (x.1, a)) m]
  have e0 : cR t (p * 25 + 1 + k * 3) = slV (some (x.1, a)) 0 := by
    have := cR_slot t p hk (j := 0) (by omega)
    rw [hx] at this
    exact this
  have e1 : cR t (p * 25 + 1 + k * 3 + 1) = slV (some (x.1, a)) 1 := by
    have := cR_slot t p hk (j := 1) (by omega)
    rw [hx] at this
    exact this
  unfold upd
  by_cases h3 : m = p * 25 + 1 + k * 3 + 2
  · rw [if_pos h3, if_pos h3]
    rfl
  rw [if_neg h3, if_neg h3]
  by_cases h2 : m = p * 25 + 1 + k * 3 + 1
  · rw [if_pos h2, h2, e1]
  rw [if_neg h2]
  by_cases h1 : m = p * 25 + 1 + k * 3
  · rw [if_pos h1, h1, e0]
  rw [if_neg h1]
end
end Go.Proofs.Ytnahccdjeilboaa.Prc
