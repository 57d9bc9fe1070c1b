/-
  Statement DiskEither: a sector has, behind a crash, the bytes and the tag of one write, together. No condition.
-/
import Derived.Test.YtnebenkodpnofaaO
import Derived.ArgAppend
namespace Go.Proofs.Ytnebenkodpnofaa
open Go.RowKit Go.ChangeShapes Go.WideShapes Go.ChangeAt
attribute [local go_sem ↓] Go.wp_at_zero Go.wp_at_succ

/-- What was written to that sector. -/
def atm (m : Nat) (l : List (Nat × Nat)) : List Nat := (l.filter fun p => p.1 == m).map (·.2)
theorem atm_append (m : Nat) (l r : List (Nat × Nat)) : atm m (l ++ r) = atm m l ++ atm m r := by simp [atm]
theorem puts_last (m : Nat) (L : List Nat) (x : Nat) (l : List (Nat × Nat)) (h : L[m]? = some x) : ∃ y, (puts L l)[m]? = some y ∧ (x :: atm m l)[(atm m l).length]? = some y := by
  induction l generalizing L x with
  | nil => exact ⟨x, h, rfl⟩
  | cons p l ih =>
    rw [puts_cons]
    by_cases hp : p.1 = m
    · have hlt : m < L.length := (List.getElem?_eq_some_iff.1 h).1
      obtain ⟨y, h1, h2⟩ := ih (L.set p.1 p.2) p.2 (by rw [hp, List.getElem?_set_self hlt])
      have e : atm m (p :: l) = p.2 :: atm m l := by simp [atm, hp]
      exact ⟨y, h1, by rw [e]; simpa using h2⟩
    · obtain ⟨y, h1, h2⟩ := ih (L.set p.1 p.2) x (by rw [List.getElem?_set_ne hp, h])
      have e : atm m (p :: l) = atm m l := by simp [atm, hp]
      exact ⟨y, h1, by rw [e]; exact h2⟩
theorem atm_kept (m t i : Nat) (l : List (Nat × Nat)) : ∀ y ∈ atm m (kept t i l), y ∈ atm m l := by
  intro y hy
  simp only [atm, List.mem_map, List.mem_filter] at hy ⊢
  obtain ⟨p, ⟨h1, h2⟩, h3⟩ := hy
  exact ⟨p, ⟨kept_mem p h1, h2⟩, h3⟩

/-- What that sector may be. -/
structure Either (m j : Nat) (k : Dk Nat) (L : List Nat) : Prop where
  len : k.safe.length = 10
  un : k.un.length ≤ j
  may : ∃ x, k.safe[m]? = some x ∧ L = x :: atm m k.un
  small : ∀ y ∈ L, y < 256
theorem Either.start (m : Nat) (hm : m < 10) : Either m 0 (Dk.fresh 10 0) [0] := by
  refine ⟨List.length_replicate, Nat.le_refl _, ⟨0, ?_, rfl⟩, by simp⟩
  show (List.replicate 10 0)[m]? = some 0
  rw [List.getElem?_replicate, if_pos hm]
theorem Either.op {m j : Nat} {k : Dk Nat} {L : List Nat} (h : Either m j k L) : Either m (j + 1) k.op L := by
  obtain ⟨h1, h2, h3, h4⟩ := h
  refine ⟨by rw [Dk.op_safe]; exact h1, by rw [Dk.op_un]; omega, ?_, h4⟩
  rw [Dk.op_safe, Dk.op_un]
  exact h3
theorem Either.more {m j : Nat} {k : Dk Nat} {L : List Nat} (h : Either m j k L) : Either m (j + 1) k L := ⟨h.len, by have := h.un; omega, h.may, h.small⟩
theorem write_code (k : Dk Nat) (s : Int) (c : Nat) : ((k.write s c).1 = 0 ∧ (k.write s c).2 = k.wrote s.toNat c ∧ 0 ≤ s) ∨ (((k.write s c).1 == 0) = false ∧ ((k.write s c).2 = k.op ∨ (k.write s c).2 = k)) := by
  unfold Dk.write
  split
  · rename_i hh
    split
    · exact .inr ⟨rfl, .inl rfl⟩
    · exact .inl ⟨rfl, rfl, by simp [Dk.has] at hh; exact hh.1⟩
  · exact .inr ⟨rfl, .inr rfl⟩
theorem Either.bad {m j : Nat} {k k' : Dk Nat} {L : List Nat} (h : Either m j k L) (hk : k' = k.op ∨ k' = k) : Either m (j + 1) k' L := by
  rcases hk with rfl | rfl
  · exact h.op
  · exact h.more
theorem Either.else_ {m j : Nat} {k : Dk Nat} {L : List Nat} (h : Either m j k L) (s c : Nat) (hs : s ≠ m) : Either m (j + 1) (k.wrote s c) L := by
  obtain ⟨h1, h2, ⟨x, h3, h4⟩, h5⟩ := h
  refine ⟨by simp [Dk.wrote, Dk.op_safe, h1], by simp [Dk.wrote]; omega, ⟨x, by simp [Dk.wrote, Dk.op_safe, h3], ?_⟩, h5⟩
  have e : atm m [(s, c)] = [] := by simp [atm, hs]
  simp only [Dk.wrote, atm_append, e, List.append_nil]
  exact h4
theorem Either.at_ {m j : Nat} {k : Dk Nat} {L : List Nat} (h : Either m j k L) (c : Nat) (hc : c < 256) : Either m (j + 1) (k.wrote m c) (L ++ [c]) := by
  obtain ⟨h1, h2, ⟨x, h3, h4⟩, h5⟩ := h
  refine ⟨by simp [Dk.wrote, Dk.op_safe, h1], by simp [Dk.wrote]; omega, ⟨x, by simp [Dk.wrote, Dk.op_safe, h3], ?_⟩, ?_⟩
  · have e : atm m [(m, c)] = [c] := by simp [atm]
    simp only [Dk.wrote, atm_append, e, h4, List.cons_append]
  · intro y hy
    rcases List.mem_append.1 hy with hy | hy
    · exact h5 y hy
    · obtain rfl : y = c := by simpa using hy
      exact hc
/-- The last of them is what the sector is. -/
theorem Either.last {m j : Nat} {k : Dk Nat} {L : List Nat} (h : Either m j k L) : ∃ y n, L.length = n + 1 ∧ n ≤ j ∧ L[n]? = some y ∧ k.now[m]? = some y ∧ y < 256 := by
  obtain ⟨h1, h2, ⟨x, h3, h4⟩, h5⟩ := h
  obtain ⟨y, h6, h7⟩ := puts_last m k.safe x k.un h3
  rw [← h4] at h7
  have hl : (atm m k.un).length ≤ k.un.length := by
    simp only [atm, List.length_map]
    exact List.length_filter_le _ _
  exact ⟨y, (atm m k.un).length, by rw [h4]; rfl, by omega, h7, h6, h5 y (List.mem_iff_getElem?.2 ⟨_, h7⟩)⟩
theorem Either.flush {m j : Nat} {k : Dk Nat} {L : List Nat} (h : Either m j k L) (ho : k.off = false) {y : Nat} (hy : k.now[m]? = some y) (h256 : y < 256) : Either m (j + 1) k.flush [y] := by
  unfold Dk.flush
  rw [ho, if_neg (by decide)]
  refine ⟨by simp [Dk.now, length_puts, h.len], Nat.zero_le _, ⟨y, hy, rfl⟩, ?_⟩
  intro z hz
  obtain rfl : z = y := by simpa using hz
  exact h256
theorem Either.flushNo {m j : Nat} {k : Dk Nat} {L : List Nat} (h : Either m j k L) (ho : k.off = true) : Either m (j + 1) k.flush L := by
  unfold Dk.flush
  rw [ho, if_pos rfl]
  exact h.op
theorem Either.cutAt {m j : Nat} {k : Dk Nat} {L : List Nat} (h : Either m j k L) (a : Int) : Either m (j + 1) (k.cutAt a) L := by
  unfold Dk.cutAt
  split
  · exact h.more
  · exact ⟨h.len, by have := h.un; show k.un.length ≤ _; omega, h.may, h.small⟩
theorem Either.crash {m j : Nat} {k : Dk Nat} {L : List Nat} (h : Either m j k L) (t : Nat) : ∃ y, (k.crash t).now[m]? = some y ∧ y ∈ L ∧ y < 256 := by
  obtain ⟨h1, h2, ⟨x, h3, h4⟩, h5⟩ := h
  obtain ⟨y, h6, h7⟩ := puts_last m k.safe x (kept t 0 k.un) h3
  have hm : y ∈ L := by
    rw [h4]
    have := List.mem_iff_getElem?.2 ⟨_, h7⟩
    rcases List.mem_cons.1 this with rfl | hy
    · exact List.mem_cons_self
    · exact List.mem_cons_of_mem _ (atm_kept m t 0 k.un y hy)
  exact ⟨y, h6, hm, h5 y hm⟩

/-- The slice of what it may be. -/
structure May (w : World) (g o n cap : Nat) (L : List Nat) : Prop where
  blk : ∃ cur : Array Value, w.heap[g]? = some (.cells cur 5 (0, 0)) ∧ o + cap ≤ cur.size
  len : L.length = n
  le : n ≤ cap
  max : cap ≤ maxLen
  get : w.rangeAt g o (L.map fun c : Nat => .int .u8 (c : Int))
theorem May.keep {w w' : World} {g o n cap : Nat} {L : List Nat} (h : May w g o n cap L) (hb : w'.heap[g]? = w.heap[g]?) : May w' g o n cap L := by
  obtain ⟨cur, h1, h2⟩ := h.blk
  exact ⟨⟨cur, hb.trans h1, h2⟩, h.len, h.le, h.max, range_of_block h.get hb⟩
theorem May.lt {w : World} {g o n cap : Nat} {L : List Nat} (h : May w g o n cap L) : g < w.heap.size := by
  obtain ⟨cur, h1, _⟩ := h.blk
  rcases Nat.lt_or_ge g w.heap.size with hlt | hge
  · exact hlt
  · rw [Array.getElem?_eq_none hge] at h1; cases h1
theorem May.start (w : World) : May (w.alloc (.cells #[.int .u8 0] 5)) w.heap.size 0 1 1 [0] :=
  ⟨⟨_, heap_alloc_new w _, by simp⟩, rfl, Nat.le_refl _, by simp [maxLen], fun j v hj => by
    rw [cell_of_row _ w.heap.size (0 + j) _ 5 (0, 0) (heap_alloc_new w _), Nat.zero_add]
    simpa using hj⟩
/-- The last one alone. -/
theorem May.cut {w : World} {g o n cap : Nat} {L : List Nat} (h : May w g o (n + 1) cap L) {y : Nat} (hy : L[n]? = some y) : May w g (o + n) 1 (cap - n) [y] := by
  obtain ⟨cur, h1, h2⟩ := h.blk
  have hle := h.le
  have hmx := h.max
  refine ⟨⟨cur, h1, by omega⟩, rfl, by omega, by omega, fun j v hj => ?_⟩
  have hj0 : j = 0 := by have := (List.getElem?_eq_some_iff.1 hj).1; simp at this; exact this
  subst hj0
  have := h.get n v (by rw [List.getElem?_map, hy]; simpa using hj)
  simpa using this
theorem May.at_ {w : World} {g o n cap : Nat} {L : List Nat} (h : May w g o n cap L) {i y : Nat} (hy : L[i]? = some y) : w.cell? ⟨g, o + i, none⟩ = some (.int .u8 (y : Int)) := h.get i _ (by rw [List.getElem?_map, hy]; rfl)


section
variable {ops : Array Oper} {rest : List Oper} {op : Oper} {a : Go.Act} {Q : Exit → Go.Act → World → Prop}
/-- One more. -/
theorem wpList_may (w : World) (hgd : op.guard = none) (s x : Operand) (hop : op.op = .call { callee := .builtin .append, args := #[s, x], argTypes := #[29, 29] })
    (g o n cap : Nat) (L : List Nat) (hs : a.eval s = .slice (some ⟨g, o, none⟩) n cap) (hM : May w g o n cap L) (gx c : Nat) (hx : a.eval x = .slice (some ⟨gx, 0, none⟩) 1 1) (hc : w.cell? ⟨gx, 0, none⟩ = some (.int .u8 (c : Int))) (hn : n ≤ 1000)
    (h : ∀ g' o' cap' w', May w' g' o' (n + 1) cap' (L ++ [c]) → w.grownBy w' (some g) → (g' = g ∨ w.heap.size ≤ g') → wpList Try.prog ops Q rest (a.put op.dst (.slice (some ⟨g', o', none⟩) (n + 1) cap')) w') : wpList Try.prog ops Q (op :: rest) a w := by
  obtain ⟨cur, hb, hsz⟩ := hM.blk
  have hcell : ∀ i, i < cap → ∃ u, w.cell? ⟨g, o + i, none⟩ = some u := fun i hi => ⟨cur[o + i]'(by omega), by rw [cell_of_row w g (o + i) cur 5 (0, 0) hb]; exact Array.getElem?_eq_getElem _⟩
  have hnews : ∀ j u, [Value.int .u8 (c : Int)][j]? = some u → w.cell? ((⟨gx, 0, none⟩ : Addr).add j) = some u := fun j u hj => by
    have hj0 : j = 0 := by have := (List.getElem?_eq_some_iff.1 hj).1; simp at this; exact this
    subst hj0
    rw [Addr.add_mid]
    simp only [List.getElem?_cons_zero, Option.some.injEq] at hj
    rw [← hj]
    exact hc
  refine wpList_append_arg w hgd s x 29 hop 5 Try.t5 (.int .u8 0) 1 1 Try.underlying29 (by kernel_rfl) (by kernel_rfl) rfl rfl rfl (by decide) g o n cap (L.map fun c : Nat => .int .u8 (c : Int)) hs (by simp [hM.len]) (fun j u hj => hM.get j u hj)
    ⟨gx, 0, none⟩ 1 1 [.int .u8 (c : Int)] hx rfl hnews (by intro u hu; simp only [List.mem_singleton] at hu; subst hu; rfl) ?_ (by simp [maxLen]; omega) (by omega) ?_ ?_
  · intro hroom j hj
    have hj0 : j = 0 := by simpa using hj
    subst hj0
    obtain ⟨u, hu⟩ := hcell n (by omega)
    refine ⟨by rw [Nat.mul_one, Nat.add_zero, hu]; rfl, by simp [World.frozen?, hb]⟩
  · intro hroom
    rw [Nat.mul_one]
    refine h g o cap _ ⟨?_, by simp [hM.len], by omega, hM.max, fun j v hj => ?_⟩ (setCells_grown w g (o + n) _) (.inl rfl)
    · obtain ⟨cur', h1, h2⟩ := setCells_block g [.int .u8 (c : Int)] (o + n) w cur 5 hb
      exact ⟨cur', h1, by omega⟩
    · have hth : w.there g (o + n) ([Value.int .u8 (c : Int)]).length := fun i hi => by
        have hi0 : i = 0 := by simpa using hi
        subst hi0
        obtain ⟨u, hu⟩ := hcell n (by omega)
        exact ⟨by rw [Nat.add_zero, hu]; rfl, by simp [World.frozen?, hb]⟩
      rw [List.map_append] at hj
      rcases Nat.lt_or_ge j (L.map fun c : Nat => Value.int .u8 (c : Int)).length with hlt | hge
      · rw [List.getElem?_append_left hlt] at hj
        have hlt' : j < n := by rw [List.length_map, hM.len] at hlt; exact hlt
        exact World.rangeAt_setCells_apart hM.get g (o + n) _ (.inr (.inl (by rw [List.length_map, hM.len]; exact Nat.le_refl _))) j v hj
      · rw [List.getElem?_append_right hge] at hj
        have hl0 : (L.map fun c : Nat => Value.int .u8 (c : Int)).length = n := by rw [List.length_map, hM.len]
        have hj0 : j = n := by
          have := (List.getElem?_eq_some_iff.1 hj).1
          simp at this
          rw [hM.len] at this
          rw [hl0] at hge
          omega
        subst hj0
        have := World.rangeAt_setCells_same w g (o + j) [.int .u8 (c : Int)] hth 0 v (by rw [hl0] at hj; simpa using hj)
        simpa using this
  · intro hgrow v' w' hown hg
    obtain ⟨g', cap', rfl, hbase, hlt⟩ := hown.form (by omega)
    have hown2 := hown
    rcases hown.2 with ⟨h0, _⟩ | ⟨g2, cap2, cur2, hv, _, hb2, hc1, hc2, hc3, hc4⟩
    · cases h0
    · cases hv
      refine h g' 0 cap' w' ⟨⟨cur2, hb2, by omega⟩, by simp [hM.len], hc1, hc2, fun j v hj => ?_⟩ ⟨hg.os, hg.tape, hg.output, hg.size, fun i hi _ => hg.block i hi (by intro e; cases e)⟩ (.inr hbase)
      have hlt' : j < n + 1 := by
        have := (List.getElem?_eq_some_iff.1 hj).1
        simpa [hM.len] using this
      rw [Nat.zero_add, hown2.cellAt j (by omega)]
      simpa using hj
end

theorem strS_ne {c d : Nat} (h : c ≠ d) (hc : c < 256) (hd : d < 256) : ((strS c).toList == (strS d).toList) = false := by
  rw [beq_eq_false_iff_ne]
  intro e
  rw [ByteArray.toList_eq, ByteArray.toList_eq] at e
  have e1 : List.replicate 64 (UInt8.ofNat c) = List.replicate 64 (UInt8.ofNat d) := e
  have e2 : UInt8.ofNat c = UInt8.ofNat d := by
    have := congrArg List.head? e1
    simpa [List.replicate_succ] using this
  have e3 := congrArg UInt8.toNat e2
  simp at e3
  omega

/-- What a call on the disk leaves aside. -/
theorem Mine.turn2 {B : Nat} {w w' : World} {b : Nat} {k k' : Dk Nat} {S : Nat → Prop} (h : Mine B w b k S) (ht : Turned sec S w w' b k') (hB : B ≤ w.heap.size) :
    (∃ S', Mine B w' b k' S' ∧ ∀ i, i < w.heap.size → ¬ S i → ¬ S' i) ∧ Below B w w' ∧ (∀ i, i < w.heap.size → ¬ S i → w'.heap[i]? = w.heap[i]?) := by
  obtain ⟨hK, S', hD, hS⟩ := ht
  refine ⟨⟨S', ⟨hD, fun i hi => ?_⟩, fun i hi hn hs => ?_⟩, hK.below h.2 hB, fun i hi hn => hK.block i hi hn⟩
  · rcases hS i hi with hs | hs
    · exact h.2 i hs
    · omega
  · rcases hS i hs with hs | hs
    · exact hn hs
    · omega

set_option maxRecDepth 100000 in
set_option maxHeartbeats 1600000 in
theorem either_walk (l0 : List Act) (A0 : Option Addr) (n0 c0' there which : Nat) (w : World) (hn0 : l0.length = n0) (hc0 : n0 ≤ c0') (hm0 : c0' ≤ 9223372036854775807) (hr0 : Acts w w.heap.size A0 l0) (hth : there < 18446744073709551616) (hsec : which < 256) :
    Calls Try.prog 4 #[.slice A0 n0 c0', .int .u64 (there : Int), .int .u8 (which : Int)] w fun e w' => e = .returned (.bool true) ∧ Below w.heap.size w w' := by
  have R0 := Lib.hid hr0
  have Hn0 := Lib.hid hn0
  obtain ⟨m, hm, hm10⟩ : ∃ m : Nat, (which : Int) % 10 = (m : Int) ∧ m < 10 := ⟨which % 10, by omega, by omega⟩
  clear hr0 hn0
  go_enter Try.func4, Try.ntmps4
  go_wp2_with fail
  refine (shown_any _).mono ?_
  rintro e w1 ⟨rfl, hb⟩
  have L1 := Lib.hid hb
  clear hb
  go_wp2_with fail
  refine (new_any (f := sec) _ 10 (by decide) 0 sec_zero).mono ?_
  rintro e w2 ⟨b, S, rfl, hb, hD, hS⟩
  have M0 : Hid (Mine w.heap.size w2 b (Dk.fresh 10 0) S) := ⟨hD, fun i hi => Nat.le_trans L1.out.size (hS i hi)⟩
  have L2 := Lib.hid (L1.out.trans (hb.mono L1.out.size))
  clear hb hD hS L1
  have L3 := Lib.hid (L2.out.alloc L2.out.size (.cells #[.int .u8 0] 5))
  go_wp2_with fail
  refine (few_any l0 A0 n0 c0' _ Hn0.out hc0 hm0 ((R0.out.below L3.out).more L3.out.size)).mono ?_
  rintro e w3 ⟨q0, rfl, hq0, hq1, rfl⟩
  go_wp2
  go_loopw [11, 40] (fun x i wr => ∃ (j : Nat) (k : Dk Nat) (S' : Nat → Prop) (gm o n cap : Nat) (L : List Nat), j ≤ q0 ∧ i = .int .i64 (j : Int) ∧ x = .slice (some ⟨gm, o, none⟩) n cap ∧ Mine w.heap.size wr b k S' ∧ Below w.heap.size w wr ∧ Either m j k L ∧ May wr gm o n cap L ∧ ¬ S' gm ∧ w.heap.size ≤ gm) (fun _ i _ => q0 - (intOf i).toNat)
  case atStart => exact ⟨0, _, S, w2.heap.size, 0, 1, 1, [0], Nat.zero_le _, rfl, rfl, M0.out.below ((Below.refl _ w2).alloc (Nat.le_refl _) _), L3.out, Either.start m hm10, May.start w2, M0.out.new (Nat.le_refl _), L2.out.size⟩
  case round =>
    clear M0 L2 L3
    obtain ⟨j, k, S', gm, o, n, cap, L', hj, rfl, rfl, hM, hL, hC, hY, hX, hgm⟩ := hrel
    have M := Lib.hid hM
    have L := Lib.hid hL
    have C := Lib.hid hC
    have Y := Lib.hid hY
    have X := Lib.hid hX
    clear hM hL hC hY hX
    by_cases hlt : j < q0
    · have hun : Hid (k.un.length ≤ 1073741824) := by have := C.out.un; unfold Hid; omega
      obtain ⟨y, n', hl, hn', hy, hnow, hy256⟩ := C.out.last
      obtain rfl : n = n' + 1 := by rw [← Y.out.len, hl]
      have Hy := Lib.hid hy
      have Hnow := Lib.hid hnow
      clear hy hnow hl
      obtain ⟨ab, ao, a, rfl, hab, ha, hg, c0, c1, c2, c3, c4, c5⟩ := (R0.out.below L.out).at (i := j) (by rw [Hn0.out]; omega)
      have Hg := Lib.hid hg
      clear ha hg hab
      have hk5 : (a.kind : Int) % 5 = 0 ∨ (a.kind : Int) % 5 = 1 ∨ (a.kind : Int) % 5 = 2 ∨ (a.kind : Int) % 5 = 3 ∨ (a.kind : Int) % 5 = 4 := by omega
      have Ma := Lib.hid (M.out.below ((Below.refl _ wr).alloc (Nat.le_refl _) (.cells #[.int .u8 (a.kind : Int), .int .i64 a.at_, .int .u8 (a.c : Int), .slice a.bA a.bn a.bc, .int .u16 a.tag, .int .u64 (a.there : Int)] 34)))
      have La := Lib.hid (L.out.alloc L.out.size (.cells #[.int .u8 (a.kind : Int), .int .i64 a.at_, .int .u8 (a.c : Int), .slice a.bA a.bn a.bc, .int .u16 a.tag, .int .u64 (a.there : Int)] 34))
      have Ya := Lib.hid (Y.out.keep (Below.heap_alloc wr (.cells #[.int .u8 (a.kind : Int), .int .i64 a.at_, .int .u8 (a.c : Int), .slice a.bA a.bn a.bc, .int .u16 a.tag, .int .u64 (a.there : Int)] 34) gm Y.out.lt))
      clear Y
      obtain ⟨ga, hga⟩ : ∃ ga, ga = wr.heap.size := ⟨_, rfl⟩
      have HBa : Hid (Bk (wr.alloc (.cells #[.int .u8 (a.kind : Int), .int .i64 a.at_, .int .u8 (a.c : Int), .slice a.bA a.bn a.bc, .int .u16 a.tag, .int .u64 (a.there : Int)] 34)) ga 34 [.int .u8 (a.kind : Int), .int .i64 a.at_, .int .u8 (a.c : Int), .slice a.bA a.bn a.bc, .int .u16 a.tag, .int .u64 (a.there : Int)]) := by rw [hga]; exact Bk.new wr 34 _
      have Xa := Lib.hid (M.out.new (Nat.le_of_eq hga.symm))
      have Hga := Lib.hid hga
      clear hga
      rcases hk5 with hk | hk | hk | hk | hk
      · have Hw := Lib.hid (write_code k a.at_ a.c)
        go_wp2_with fail
        refine (patch_any _ a.c Hg.out.c _).mono ?_
        rintro e u ⟨g, rfl, hg, hB, hb⟩
        have hM := Ma.out.below hb
        have D := Lib.hid hM
        have N := Lib.hid (Ma.out.new hg)
        have HB := Lib.hid hB
        have L1 := Lib.hid (La.out.trans (hb.mono La.out.size))
        have Y1 := Lib.hid (Ya.out.keep (hb.block gm Ya.out.lt))
        have Q1 := Lib.hid (show gm < u.heap.size from Nat.lt_of_lt_of_le Ya.out.lt hb.size)
        have A1 := Lib.hid (HBa.out.below hb HBa.out.lt)
        clear hM hg hB hb
        go_wp2_with fail
        refine (write_same _ _ _ k D.out.1 a.at_ a.c g HB.out N.out hun.out).mono ?_
        rintro e v ⟨rfl, ht⟩
        obtain ⟨⟨S2, hM2, hX2⟩, hb, hsame⟩ := D.out.turn2 ht L1.out.size
        have M2 := Lib.hid hM2
        have X2 := Lib.hid (hX2 gm Q1.out X.out)
        have Y2 := Lib.hid (Y1.out.keep (hsame gm Q1.out X.out))
        have L2 := Lib.hid (L1.out.trans hb)
        have A2 := Lib.hid ((hsame ga A1.out.lt Xa.out).trans A1.out)
        clear ht hM2 hX2 hb hsame M L D
        have d0 := Bk.cell (w := v) A2.out 0
        have d1 := Bk.cell (w := v) A2.out 1
        have d2 := Bk.cell (w := v) A2.out 2
        simp only [List.getElem?_cons_zero, List.getElem?_cons_succ] at d0 d1 d2
        have hga2 : wr.heap.size = ga := Hga.out.symm
        rw [hga2]
        clear hga2
        rcases Hw.out with ⟨hw1, hw2, hw3⟩ | ⟨hw1, hw2⟩
        · rw [hw1]
          have M3 : Hid (Mine w.heap.size v b (k.wrote a.at_.toNat a.c) S2) := by rw [← hw2]; exact M2.out
          clear hw1 hw2 M2
          by_cases hat : a.at_ = (m : Int)
          · rw [hat] at d1
            have Hat := Lib.hid hat
            clear hat
            have Yv := Lib.hid (Y2.out.keep (Below.heap_alloc v (.cells #[.int .u8 (a.c : Int)] 5) gm Y2.out.lt))
            go_wp2_with (at_builtin; refine wpList_may _ rfl (.tmp 90) (.tmp 93) rfl gm o (n' + 1) cap L' rfl Yv.out v.heap.size a.c rfl (Bk.cell (Bk.new v 5 [.int .u8 (a.c : Int)]) 0) (by omega) ?_)
            intro g' o' cap' w' hY' hg' hor
            have hk : ∀ i, i < v.heap.size → i ≠ gm → w'.heap[i]? = v.heap[i]? := fun i hi hne => (hg'.block i (by simp; omega) (by intro e; injection e with e; exact hne e)).trans (Below.heap_alloc v _ i hi)
            have M4 : Hid (Mine w.heap.size w' b (k.wrote m a.c) S2) := by
              have e : a.at_.toNat = m := by rw [Hat.out]; rfl
              rw [← e]
              exact ⟨M3.out.1.keep fun i hi => hk i (M3.out.1.lt hi) (fun e => X2.out (e ▸ hi)), M3.out.2⟩
            have X4 : Hid (¬ S2 g') := by
              intro hs
              rcases hor with rfl | hor
              · exact X2.out hs
              · have := M3.out.1.lt hs
                try simp at hor
                omega
            have Q4 : Hid (w.heap.size ≤ g') := by
              rcases hor with rfl | hor
              · exact hgm
              · have := L2.out.size
                try simp at hor
                unfold Hid
                omega
            have L4 := Lib.hid (((L2.out.alloc L2.out.size (.cells #[.int .u8 (a.c : Int)] 5))).grown hg' (by have := L2.out.size; simp; omega) (by rintro _ h; injection h with h; omega))
            have Y4 := Lib.hid hY'
            clear hY' hg' hor hk
            go_wp2
            go_roundw
            case rel => exact ⟨j + 1, _, S2, g', o', n' + 1 + 1, cap', L' ++ [a.c], by omega, by go_num, rfl, M4.out, L4.out, C.out.at_ a.c Hg.out.c, Y4.out, X4.out, Q4.out⟩
            case measure => simp [intOf]; omega
          · have Hat := Lib.hid hat
            go_wp2
            go_roundw
            case rel => exact ⟨j + 1, _, S2, gm, o, n' + 1, cap, L', by omega, by go_num, rfl, M3.out, L2.out, C.out.else_ _ _ (by have := Hat.out; omega), Y2.out, X2.out, hgm⟩
            case measure => simp [intOf]; omega
        · have Hw2 := Lib.hid hw2
          clear hw2
          go_wp2
          go_roundw
          case rel => exact ⟨j + 1, _, S2, gm, o, n' + 1, cap, L', by omega, by go_num, rfl, M2.out, L2.out, C.out.bad Hw2.out, Y2.out, X2.out, hgm⟩
          case measure => simp [intOf]; omega
      · have Hw := Lib.hid (write_code k a.at_ a.c)
        go_wp2_with fail
        refine (patch_any _ a.c Hg.out.c _).mono ?_
        rintro e u ⟨g, rfl, hg, hB, hb⟩
        have hM := Ma.out.below hb
        have D := Lib.hid hM
        have N := Lib.hid (Ma.out.new hg)
        have HB := Lib.hid hB
        have L1 := Lib.hid (La.out.trans (hb.mono La.out.size))
        have Y1 := Lib.hid (Ya.out.keep (hb.block gm Ya.out.lt))
        have Q1 := Lib.hid (show gm < u.heap.size from Nat.lt_of_lt_of_le Ya.out.lt hb.size)
        have A1 := Lib.hid (HBa.out.below hb HBa.out.lt)
        clear hM hg hB hb
        go_wp2_with fail
        refine (write_same _ _ _ k D.out.1 a.at_ a.c g HB.out N.out hun.out).mono ?_
        rintro e v ⟨rfl, ht⟩
        obtain ⟨⟨S2, hM2, hX2⟩, hb, hsame⟩ := D.out.turn2 ht L1.out.size
        have M2 := Lib.hid hM2
        have X2 := Lib.hid (hX2 gm Q1.out X.out)
        have Y2 := Lib.hid (Y1.out.keep (hsame gm Q1.out X.out))
        have L2 := Lib.hid (L1.out.trans hb)
        have A2 := Lib.hid ((hsame ga A1.out.lt Xa.out).trans A1.out)
        clear ht hM2 hX2 hb hsame M L D
        have d0 := Bk.cell (w := v) A2.out 0
        have d1 := Bk.cell (w := v) A2.out 1
        have d2 := Bk.cell (w := v) A2.out 2
        simp only [List.getElem?_cons_zero, List.getElem?_cons_succ] at d0 d1 d2
        have hga2 : wr.heap.size = ga := Hga.out.symm
        rw [hga2]
        clear hga2
        rcases Hw.out with ⟨hw1, hw2, hw3⟩ | ⟨hw1, hw2⟩
        · rw [hw1]
          have M3 : Hid (Mine w.heap.size v b (k.wrote a.at_.toNat a.c) S2) := by rw [← hw2]; exact M2.out
          clear hw1 hw2 M2
          by_cases hat : a.at_ = (m : Int)
          · rw [hat] at d1
            have Hat := Lib.hid hat
            clear hat
            have Yv := Lib.hid (Y2.out.keep (Below.heap_alloc v (.cells #[.int .u8 (a.c : Int)] 5) gm Y2.out.lt))
            go_wp2_with (at_builtin; refine wpList_may _ rfl (.tmp 90) (.tmp 93) rfl gm o (n' + 1) cap L' rfl Yv.out v.heap.size a.c rfl (Bk.cell (Bk.new v 5 [.int .u8 (a.c : Int)]) 0) (by omega) ?_)
            intro g' o' cap' w' hY' hg' hor
            have hk : ∀ i, i < v.heap.size → i ≠ gm → w'.heap[i]? = v.heap[i]? := fun i hi hne => (hg'.block i (by simp; omega) (by intro e; injection e with e; exact hne e)).trans (Below.heap_alloc v _ i hi)
            have M4 : Hid (Mine w.heap.size w' b (k.wrote m a.c) S2) := by
              have e : a.at_.toNat = m := by rw [Hat.out]; rfl
              rw [← e]
              exact ⟨M3.out.1.keep fun i hi => hk i (M3.out.1.lt hi) (fun e => X2.out (e ▸ hi)), M3.out.2⟩
            have X4 : Hid (¬ S2 g') := by
              intro hs
              rcases hor with rfl | hor
              · exact X2.out hs
              · have := M3.out.1.lt hs
                try simp at hor
                omega
            have Q4 : Hid (w.heap.size ≤ g') := by
              rcases hor with rfl | hor
              · exact hgm
              · have := L2.out.size
                try simp at hor
                unfold Hid
                omega
            have L4 := Lib.hid (((L2.out.alloc L2.out.size (.cells #[.int .u8 (a.c : Int)] 5))).grown hg' (by have := L2.out.size; simp; omega) (by rintro _ h; injection h with h; omega))
            have Y4 := Lib.hid hY'
            clear hY' hg' hor hk
            go_wp2
            go_roundw
            case rel => exact ⟨j + 1, _, S2, g', o', n' + 1 + 1, cap', L' ++ [a.c], by omega, by go_num, rfl, M4.out, L4.out, C.out.at_ a.c Hg.out.c, Y4.out, X4.out, Q4.out⟩
            case measure => simp [intOf]; omega
          · have Hat := Lib.hid hat
            go_wp2
            go_roundw
            case rel => exact ⟨j + 1, _, S2, gm, o, n' + 1, cap, L', by omega, by go_num, rfl, M3.out, L2.out, C.out.else_ _ _ (by have := Hat.out; omega), Y2.out, X2.out, hgm⟩
            case measure => simp [intOf]; omega
        · have Hw2 := Lib.hid hw2
          clear hw2
          go_wp2
          go_roundw
          case rel => exact ⟨j + 1, _, S2, gm, o, n' + 1, cap, L', by omega, by go_num, rfl, M2.out, L2.out, C.out.bad Hw2.out, Y2.out, X2.out, hgm⟩
          case measure => simp [intOf]; omega
      · clear HBa Hga Xa
        cases hoff : k.off
        · have Hoff := Lib.hid hoff
          clear hoff
          go_wp2_with fail
          refine (flush_any sec_enc _ _ _ k Ma.out.1 hun.out).mono ?_
          rintro e v ⟨rfl, ht⟩
          obtain ⟨⟨S2, hM2, hX2⟩, hb, hsame⟩ := Ma.out.turn2 ht La.out.size
          have M2 := Lib.hid hM2
          have X2 := Lib.hid (hX2 gm Ya.out.lt X.out)
          have Y2 := Lib.hid (Ya.out.keep (hsame gm Ya.out.lt X.out))
          have L2 := Lib.hid (La.out.trans hb)
          clear ht hM2 hX2 hb hsame
          rw [Hoff.out]
          go_wp2
          go_roundw
          case rel => exact ⟨j + 1, _, S2, gm, o + n', 1, cap - n', [y], by omega, by go_num, by (have := Y2.out.le; rw [if_neg (by omega)]), M2.out, L2.out, C.out.flush Hoff.out Hnow.out hy256, Y2.out.cut Hy.out, X2.out, hgm⟩
          case measure => simp [intOf]; omega
        · have Hoff := Lib.hid hoff
          clear hoff
          go_wp2_with fail
          refine (flush_any sec_enc _ _ _ k Ma.out.1 hun.out).mono ?_
          rintro e v ⟨rfl, ht⟩
          obtain ⟨⟨S2, hM2, hX2⟩, hb, hsame⟩ := Ma.out.turn2 ht La.out.size
          have M2 := Lib.hid hM2
          have X2 := Lib.hid (hX2 gm Ya.out.lt X.out)
          have Y2 := Lib.hid (Ya.out.keep (hsame gm Ya.out.lt X.out))
          have L2 := Lib.hid (La.out.trans hb)
          clear ht hM2 hX2 hb hsame
          rw [Hoff.out]
          go_wp2
          go_roundw
          case rel => exact ⟨j + 1, _, S2, gm, o, n' + 1, cap, L', by omega, by go_num, rfl, M2.out, L2.out, C.out.flushNo Hoff.out, Y2.out, X2.out, hgm⟩
          case measure => simp [intOf]; omega
      · clear HBa Hga Xa
        go_wp2_with fail
        refine (cut_any _ _ _ k Ma.out.1 a.at_).mono ?_
        rintro e v ⟨rfl, ht⟩
        obtain ⟨⟨S2, hM2, hX2⟩, hb, hsame⟩ := Ma.out.turn2 ht La.out.size
        have M2 := Lib.hid hM2
        have X2 := Lib.hid (hX2 gm Ya.out.lt X.out)
        have Y2 := Lib.hid (Ya.out.keep (hsame gm Ya.out.lt X.out))
        have L2 := Lib.hid (La.out.trans hb)
        clear ht hM2 hX2 hb hsame
        go_wp2
        go_roundw
        case rel => exact ⟨j + 1, _, S2, gm, o, n' + 1, cap, L', by omega, by go_num, rfl, M2.out, L2.out, C.out.cutAt _, Y2.out, X2.out, hgm⟩
        case measure => simp [intOf]; omega
      · clear HBa Hga Xa
        have hmlt : m < k.safe.length := by rw [C.out.len]; exact hm10
        cases hdead : k.dead
        · have Hd := Lib.hid hdead
          clear hdead
          go_wp2_with fail
          refine (read_any _ _ _ k Ma.out.1 m y (same y) (.int .u16 (y : Int)) Hnow.out rfl (same_length y) (same_one y) Hd.out).mono ?_
          rintro e v ⟨rfl, hB, hb⟩
          have M2 := Lib.hid (Ma.out.below hb)
          have Y2 := Lib.hid (Ya.out.keep (hb.block gm Ya.out.lt))
          have L2 := Lib.hid (La.out.trans (hb.mono La.out.size))
          obtain ⟨gr, hgr⟩ : ∃ gr, gr = (wr.alloc (.cells #[.int .u8 (a.kind : Int), .int .i64 a.at_, .int .u8 (a.c : Int), .slice a.bA a.bn a.bc, .int .u16 a.tag, .int .u64 (a.there : Int)] 34)).heap.size := ⟨_, rfl⟩
          rw [← hgr] at hB ⊢
          have hg0 : v.cell? ⟨gr, 0, none⟩ = some (.int .u8 (y : Int)) := by rw [hB.cell 0]; rfl
          have hm0 : v.cell? ⟨gm, o + n', none⟩ = some (.int .u8 (y : Int)) := Y2.out.at_ Hy.out
          clear hB hb hgr
          go_wp2
          have hw1 : IntKind.i64.wrap ((n' : Int) + 1 - 1) = (n' : Int) := by rw [IntKind.wrap_i64]; omega
          have hw2 : IntKind.i64.wrap (n' : Int) = (n' : Int) := by rw [IntKind.wrap_i64]; omega
          have hn0 : (0 : Int) ≤ (n' : Int) := by omega
          have hn1 : (n' : Int) < (n' : Int) + 1 := by omega
          refine wp_region_held_drew (S := fun u => u = v.drew) (by kernel_rfl) rfl (fun hHeld => ?_)
          refine wpAnyH_take (i := 0) (oi := _) (v := ?_) (by simp only [List.getElem?_toArray, List.getElem?_cons_zero]; rfl) (by kernel_rfl) (by kernel_rfl) (by kernel_rfl) (by exact fun _ _ _ h => h) (Or.inl ⟨by rfl, ?hya0⟩) (rfl) ?rea0
          case hya0 => (rintro w rfl; go_simp <;> with_reducible rfl)
          try simp only [Act.put, List.setIfInBounds_toArray, List.set_cons_zero, List.set_cons_succ]
          refine wpAnyH_ready (rs := [1]) (by kernel_rfl) (by simp) ?_
          refine AllReadyH.cons (o := _) (by simp only [List.getElem?_toArray, List.getElem?_cons_succ, List.getElem?_cons_zero]; rfl) (fun K hK => ?_) AllReadyH.nil
          go_simp
          refine (dead_any (World.drew _) _ _ k (IsDisk.keep (w := v) M2.out.1 (fun _ _ => rfl))).mono ?_
          rintro e w' ⟨rfl, rfl⟩
          rw [Hd.out]
          go_simp
          refine hK.out _ _ rfl (fun hHeld2 => ?_)
          clear hK K hHeld hHeld2
          refine wpAnyH_take (i := 2) (oi := _) (v := ?_) (by simp only [List.getElem?_toArray, List.getElem?_cons_succ, List.getElem?_cons_zero]; rfl) (by kernel_rfl) (by kernel_rfl) (by kernel_rfl) (by exact fun _ _ _ h => h) (Or.inl ⟨by rfl, ?hya2⟩) (rfl) ?rea2
          case hya2 => (rintro w rfl; go_simp <;> with_reducible rfl)
          try simp only [Act.put, List.setIfInBounds_toArray, List.set_cons_zero, List.set_cons_succ]
          refine wpAnyH_take (i := 3) (oi := _) (v := ?_) (by simp only [List.getElem?_toArray, List.getElem?_cons_succ, List.getElem?_cons_zero]; rfl) (by kernel_rfl) (by kernel_rfl) (by kernel_rfl) (by exact fun _ _ _ h => h) (Or.inl ⟨by rfl, ?hya3⟩) (rfl) ?rea3
          case hya3 => (rintro w rfl; go_simp <;> with_reducible rfl)
          try simp only [Act.put, List.setIfInBounds_toArray, List.set_cons_zero, List.set_cons_succ]
          refine wpAnyH_take (i := 4) (oi := _) (v := ?_) (by simp only [List.getElem?_toArray, List.getElem?_cons_succ, List.getElem?_cons_zero]; rfl) (by kernel_rfl) (by kernel_rfl) (by kernel_rfl) (by exact fun _ _ _ h => h) (Or.inl ⟨by rfl, ?hya4⟩) (rfl) ?rea4
          case hya4 => (rintro w rfl; go_simp <;> with_reducible rfl)
          try simp only [Act.put, List.setIfInBounds_toArray, List.set_cons_zero, List.set_cons_succ]
          refine wpAnyH_take (i := 5) (oi := _) (v := ?_) (by simp only [List.getElem?_toArray, List.getElem?_cons_succ, List.getElem?_cons_zero]; rfl) (by kernel_rfl) (by kernel_rfl) (by kernel_rfl) (by exact fun _ _ _ h => h) (Or.inl ⟨by rfl, ?hya5⟩) (rfl) ?rea5
          case hya5 => (rintro w rfl; go_simp <;> with_reducible rfl)
          try simp only [Act.put, List.setIfInBounds_toArray, List.set_cons_zero, List.set_cons_succ]
          refine wpAnyH_take (i := 6) (oi := _) (v := ?_) (by simp only [List.getElem?_toArray, List.getElem?_cons_succ, List.getElem?_cons_zero]; rfl) (by kernel_rfl) (by kernel_rfl) (by kernel_rfl) (by exact fun _ _ _ h => h) (Or.inl ⟨by rfl, ?hya6⟩) (rfl) ?rea6
          case hya6 => (rintro w rfl; go_simp <;> with_reducible rfl)
          try simp only [Act.put, List.setIfInBounds_toArray, List.set_cons_zero, List.set_cons_succ]
          refine wpAnyH_take (i := 7) (oi := _) (v := ?_) (by simp only [List.getElem?_toArray, List.getElem?_cons_succ, List.getElem?_cons_zero]; rfl) (by kernel_rfl) (by kernel_rfl) (by kernel_rfl) (by exact fun _ _ _ h => h) (Or.inl ⟨by rfl, ?hya7⟩) (rfl) ?rea7
          case hya7 => (rintro w rfl; go_simp <;> with_reducible rfl)
          try simp only [Act.put, List.setIfInBounds_toArray, List.set_cons_zero, List.set_cons_succ]
          refine wpAnyH_take (i := 8) (oi := _) (v := ?_) (by simp only [List.getElem?_toArray, List.getElem?_cons_succ, List.getElem?_cons_zero]; rfl) (by kernel_rfl) (by kernel_rfl) (by kernel_rfl) (by exact fun _ _ _ h => h) (Or.inl ⟨by rfl, ?hya8⟩) (rfl) ?rea8
          case hya8 => (rintro w rfl; go_simp <;> with_reducible rfl)
          try simp only [Act.put, List.setIfInBounds_toArray, List.set_cons_zero, List.set_cons_succ]
          refine wpAnyH_take (i := 9) (oi := _) (v := ?_) (by simp only [List.getElem?_toArray, List.getElem?_cons_succ, List.getElem?_cons_zero]; rfl) (by kernel_rfl) (by kernel_rfl) (by kernel_rfl) (by exact fun _ _ _ h => h) (Or.inl ⟨by rfl, ?hya9⟩) (rfl) ?rea9
          case hya9 => (rintro w rfl; go_simp <;> with_reducible rfl)
          try simp only [Act.put, List.setIfInBounds_toArray, List.set_cons_zero, List.set_cons_succ]
          refine wpAnyH_take (i := 10) (oi := _) (v := ?_) (by simp only [List.getElem?_toArray, List.getElem?_cons_succ, List.getElem?_cons_zero]; rfl) (by kernel_rfl) (by kernel_rfl) (by kernel_rfl) (by exact fun _ _ _ h => h) (Or.inl ⟨by rfl, ?hya10⟩) (rfl) ?rea10
          case hya10 => (rintro w rfl; go_simp <;> with_reducible rfl)
          try simp only [Act.put, List.setIfInBounds_toArray, List.set_cons_zero, List.set_cons_succ]
          refine wpAnyH_take (i := 11) (oi := _) (v := ?_) (by simp only [List.getElem?_toArray, List.getElem?_cons_succ, List.getElem?_cons_zero]; rfl) (by kernel_rfl) (by kernel_rfl) (by kernel_rfl) (by exact fun _ _ _ h => h) (Or.inl ⟨by rfl, ?hya11⟩) (rfl) ?rea11
          case hya11 => (rintro w rfl; go_simp <;> with_reducible rfl)
          try simp only [Act.put, List.setIfInBounds_toArray, List.set_cons_zero, List.set_cons_succ]
          refine wpAnyH_take (i := 12) (oi := _) (v := ?_) (by simp only [List.getElem?_toArray, List.getElem?_cons_succ, List.getElem?_cons_zero]; rfl) (by kernel_rfl) (by kernel_rfl) (by kernel_rfl) (by exact fun _ _ _ h => h) (Or.inl ⟨by rfl, ?hya12⟩) (rfl) ?rea12
          case hya12 => (rintro w rfl; go_simp <;> with_reducible rfl)
          try simp only [Act.put, List.setIfInBounds_toArray, List.set_cons_zero, List.set_cons_succ]
          refine wpAnyH_take (i := 13) (oi := _) (v := ?_) (by simp only [List.getElem?_toArray, List.getElem?_cons_succ, List.getElem?_cons_zero]; rfl) (by kernel_rfl) (by kernel_rfl) (by kernel_rfl) (by exact fun _ _ _ h => h) (Or.inl ⟨by rfl, ?hya13⟩) (rfl) ?rea13
          case hya13 => (rintro w rfl; go_simp <;> with_reducible rfl)
          try simp only [Act.put, List.setIfInBounds_toArray, List.set_cons_zero, List.set_cons_succ]
          refine wpAnyH_take (i := 14) (oi := _) (v := ?_) (by simp only [List.getElem?_toArray, List.getElem?_cons_succ, List.getElem?_cons_zero]; rfl) (by kernel_rfl) (by kernel_rfl) (by kernel_rfl) (by exact fun _ _ _ h => h) (Or.inl ⟨by rfl, ?hya14⟩) (rfl) ?rea14
          case hya14 => (rintro w rfl; go_simp <;> with_reducible rfl)
          try simp only [Act.put, List.setIfInBounds_toArray, List.set_cons_zero, List.set_cons_succ]
          refine wpAnyH_take (i := 15) (oi := _) (v := ?_) (by simp only [List.getElem?_toArray, List.getElem?_cons_succ, List.getElem?_cons_zero]; rfl) (by kernel_rfl) (by kernel_rfl) (by kernel_rfl) (by exact fun _ _ _ h => h) (Or.inl ⟨by rfl, ?hya15⟩) (rfl) ?rea15
          case hya15 => (rintro w rfl; go_simp <;> with_reducible rfl)
          try simp only [Act.put, List.setIfInBounds_toArray, List.set_cons_zero, List.set_cons_succ]
          refine wpAnyH_take (i := 16) (oi := _) (v := ?_) (by simp only [List.getElem?_toArray, List.getElem?_cons_succ, List.getElem?_cons_zero]; rfl) (by kernel_rfl) (by kernel_rfl) (by kernel_rfl) (by exact fun _ _ _ h => h) (Or.inl ⟨by rfl, ?hya16⟩) (rfl) ?rea16
          case hya16 => (rintro w rfl; go_simp <;> with_reducible rfl)
          try simp only [Act.put, List.setIfInBounds_toArray, List.set_cons_zero, List.set_cons_succ]
          refine wpAnyH_take (i := 17) (oi := _) (v := ?_) (by simp only [List.getElem?_toArray, List.getElem?_cons_succ, List.getElem?_cons_zero]; rfl) (by kernel_rfl) (by kernel_rfl) (by kernel_rfl) (by exact fun _ _ _ h => h) (Or.inl ⟨by rfl, ?hya17⟩) (rfl) ?rea17
          case hya17 => (rintro w rfl; go_simp <;> with_reducible rfl)
          try simp only [Act.put, List.setIfInBounds_toArray, List.set_cons_zero, List.set_cons_succ]
          refine wpAnyH_take (i := 18) (oi := _) (v := ?_) (by simp only [List.getElem?_toArray, List.getElem?_cons_succ, List.getElem?_cons_zero]; rfl) (by kernel_rfl) (by kernel_rfl) (by kernel_rfl) (by exact fun _ _ _ h => h) (Or.inl ⟨by rfl, ?hya18⟩) (rfl) ?rea18
          case hya18 => (rintro w rfl; go_simp <;> with_reducible rfl)
          try simp only [Act.put, List.setIfInBounds_toArray, List.set_cons_zero, List.set_cons_succ]
          refine wpAnyH_take (i := 19) (oi := _) (v := ?_) (by simp only [List.getElem?_toArray, List.getElem?_cons_succ, List.getElem?_cons_zero]; rfl) (by kernel_rfl) (by kernel_rfl) (by kernel_rfl) (by exact fun _ _ _ h => h) (Or.inl ⟨by rfl, ?hya19⟩) (rfl) ?rea19
          case hya19 => (rintro w rfl; go_simp <;> with_reducible rfl)
          try simp only [Act.put, List.setIfInBounds_toArray, List.set_cons_zero, List.set_cons_succ]
          refine wpAnyH_done (by kernel_rfl) ?_ _
          go_wp2
          go_roundw
          case rel => exact ⟨j + 1, k, S', gm, o, n' + 1, cap, L', by omega, by go_num, rfl, ⟨IsDisk.keep (w := v) M2.out.1 (fun _ _ => rfl), M2.out.2⟩, L2.out.drew, C.out.more, May.keep (w := v) Y2.out rfl, X.out, hgm⟩
          case measure => simp [intOf]; omega
        · have Hd := Lib.hid hdead
          have he : Hid (k.err (m : Int) = 6) := by
            unfold Hid Dk.err Dk.has
            rw [hdead]
            simp
            omega
          clear hdead
          go_wp2_with fail
          refine (read_err _ _ _ k Ma.out.1 (m : Int) 6 he.out (by decide)).mono ?_
          rintro e v ⟨rfl, rfl⟩
          go_wp2
          refine wp_region_held_drew (S := fun u => u = (wr.alloc (.cells #[.int .u8 (a.kind : Int), .int .i64 a.at_, .int .u8 (a.c : Int), .slice a.bA a.bn a.bc, .int .u16 a.tag, .int .u64 (a.there : Int)] 34)).drew) (by kernel_rfl) rfl (fun hHeld => ?_)
          refine wpAnyH_take (i := 0) (oi := _) (v := ?_) (by simp only [List.getElem?_toArray, List.getElem?_cons_zero]; rfl) (by kernel_rfl) (by kernel_rfl) (by kernel_rfl) (by exact fun _ _ _ h => h) (Or.inl ⟨by rfl, ?hyb0⟩) (rfl) ?reb0
          case hyb0 => (rintro w rfl; go_simp <;> with_reducible rfl)
          try simp only [Act.put, List.setIfInBounds_toArray, List.set_cons_zero, List.set_cons_succ]
          refine wpAnyH_ready (rs := [1]) (by kernel_rfl) (by simp) ?_
          refine AllReadyH.cons (o := _) (by simp only [List.getElem?_toArray, List.getElem?_cons_succ, List.getElem?_cons_zero]; rfl) (fun K hK => ?_) AllReadyH.nil
          go_simp
          refine (dead_any (World.drew _) _ _ k (IsDisk.keep (w := wr.alloc (.cells #[.int .u8 (a.kind : Int), .int .i64 a.at_, .int .u8 (a.c : Int), .slice a.bA a.bn a.bc, .int .u16 a.tag, .int .u64 (a.there : Int)] 34)) Ma.out.1 (fun _ _ => rfl))).mono ?_
          rintro e w' ⟨rfl, rfl⟩
          rw [Hd.out]
          go_simp
          refine hK.out _ _ rfl (fun hHeld2 => ?_)
          clear hK K hHeld hHeld2
          refine wpAnyH_take (i := 2) (oi := _) (v := ?_) (by simp only [List.getElem?_toArray, List.getElem?_cons_succ, List.getElem?_cons_zero]; rfl) (by kernel_rfl) (by kernel_rfl) (by kernel_rfl) (by exact fun _ _ _ h => h) (Or.inl ⟨by rfl, ?hyb2⟩) (rfl) ?reb2
          case hyb2 => (rintro w rfl; go_simp <;> with_reducible rfl)
          try simp only [Act.put, List.setIfInBounds_toArray, List.set_cons_zero, List.set_cons_succ]
          refine wpAnyH_take (i := 3) (oi := _) (v := ?_) (by simp only [List.getElem?_toArray, List.getElem?_cons_succ, List.getElem?_cons_zero]; rfl) (by kernel_rfl) (by kernel_rfl) (by kernel_rfl) (by exact fun _ _ _ h => h) (Or.inl ⟨by rfl, ?hyb3⟩) (rfl) ?reb3
          case hyb3 => (rintro w rfl; go_simp <;> with_reducible rfl)
          try simp only [Act.put, List.setIfInBounds_toArray, List.set_cons_zero, List.set_cons_succ]
          refine wpAnyH_take (i := 4) (oi := _) (v := undef) (by simp only [List.getElem?_toArray, List.getElem?_cons_succ, List.getElem?_cons_zero]; rfl) (by kernel_rfl) (by kernel_rfl) (by kernel_rfl) (by exact fun _ _ _ h => h) (Or.inr ⟨by rfl, rfl⟩) (rfl) ?_
          try simp only [Act.put, List.setIfInBounds_toArray, List.set_cons_zero, List.set_cons_succ]
          refine wpAnyH_take (i := 5) (oi := _) (v := undef) (by simp only [List.getElem?_toArray, List.getElem?_cons_succ, List.getElem?_cons_zero]; rfl) (by kernel_rfl) (by kernel_rfl) (by kernel_rfl) (by exact fun _ _ _ h => h) (Or.inr ⟨by rfl, rfl⟩) (rfl) ?_
          try simp only [Act.put, List.setIfInBounds_toArray, List.set_cons_zero, List.set_cons_succ]
          refine wpAnyH_take (i := 6) (oi := _) (v := undef) (by simp only [List.getElem?_toArray, List.getElem?_cons_succ, List.getElem?_cons_zero]; rfl) (by kernel_rfl) (by kernel_rfl) (by kernel_rfl) (by exact fun _ _ _ h => h) (Or.inr ⟨by rfl, rfl⟩) (rfl) ?_
          try simp only [Act.put, List.setIfInBounds_toArray, List.set_cons_zero, List.set_cons_succ]
          refine wpAnyH_take (i := 7) (oi := _) (v := undef) (by simp only [List.getElem?_toArray, List.getElem?_cons_succ, List.getElem?_cons_zero]; rfl) (by kernel_rfl) (by kernel_rfl) (by kernel_rfl) (by exact fun _ _ _ h => h) (Or.inr ⟨by rfl, rfl⟩) (rfl) ?_
          try simp only [Act.put, List.setIfInBounds_toArray, List.set_cons_zero, List.set_cons_succ]
          refine wpAnyH_take (i := 8) (oi := _) (v := undef) (by simp only [List.getElem?_toArray, List.getElem?_cons_succ, List.getElem?_cons_zero]; rfl) (by kernel_rfl) (by kernel_rfl) (by kernel_rfl) (by exact fun _ _ _ h => h) (Or.inr ⟨by rfl, rfl⟩) (rfl) ?_
          try simp only [Act.put, List.setIfInBounds_toArray, List.set_cons_zero, List.set_cons_succ]
          refine wpAnyH_take (i := 9) (oi := _) (v := undef) (by simp only [List.getElem?_toArray, List.getElem?_cons_succ, List.getElem?_cons_zero]; rfl) (by kernel_rfl) (by kernel_rfl) (by kernel_rfl) (by exact fun _ _ _ h => h) (Or.inr ⟨by rfl, rfl⟩) (rfl) ?_
          try simp only [Act.put, List.setIfInBounds_toArray, List.set_cons_zero, List.set_cons_succ]
          refine wpAnyH_take (i := 10) (oi := _) (v := undef) (by simp only [List.getElem?_toArray, List.getElem?_cons_succ, List.getElem?_cons_zero]; rfl) (by kernel_rfl) (by kernel_rfl) (by kernel_rfl) (by exact fun _ _ _ h => h) (Or.inr ⟨by rfl, rfl⟩) (rfl) ?_
          try simp only [Act.put, List.setIfInBounds_toArray, List.set_cons_zero, List.set_cons_succ]
          refine wpAnyH_take (i := 11) (oi := _) (v := undef) (by simp only [List.getElem?_toArray, List.getElem?_cons_succ, List.getElem?_cons_zero]; rfl) (by kernel_rfl) (by kernel_rfl) (by kernel_rfl) (by exact fun _ _ _ h => h) (Or.inr ⟨by rfl, rfl⟩) (rfl) ?_
          try simp only [Act.put, List.setIfInBounds_toArray, List.set_cons_zero, List.set_cons_succ]
          refine wpAnyH_take (i := 12) (oi := _) (v := undef) (by simp only [List.getElem?_toArray, List.getElem?_cons_succ, List.getElem?_cons_zero]; rfl) (by kernel_rfl) (by kernel_rfl) (by kernel_rfl) (by exact fun _ _ _ h => h) (Or.inr ⟨by rfl, rfl⟩) (rfl) ?_
          try simp only [Act.put, List.setIfInBounds_toArray, List.set_cons_zero, List.set_cons_succ]
          refine wpAnyH_take (i := 13) (oi := _) (v := undef) (by simp only [List.getElem?_toArray, List.getElem?_cons_succ, List.getElem?_cons_zero]; rfl) (by kernel_rfl) (by kernel_rfl) (by kernel_rfl) (by exact fun _ _ _ h => h) (Or.inr ⟨by rfl, rfl⟩) (rfl) ?_
          try simp only [Act.put, List.setIfInBounds_toArray, List.set_cons_zero, List.set_cons_succ]
          refine wpAnyH_take (i := 14) (oi := _) (v := undef) (by simp only [List.getElem?_toArray, List.getElem?_cons_succ, List.getElem?_cons_zero]; rfl) (by kernel_rfl) (by kernel_rfl) (by kernel_rfl) (by exact fun _ _ _ h => h) (Or.inr ⟨by rfl, rfl⟩) (rfl) ?_
          try simp only [Act.put, List.setIfInBounds_toArray, List.set_cons_zero, List.set_cons_succ]
          refine wpAnyH_take (i := 15) (oi := _) (v := undef) (by simp only [List.getElem?_toArray, List.getElem?_cons_succ, List.getElem?_cons_zero]; rfl) (by kernel_rfl) (by kernel_rfl) (by kernel_rfl) (by exact fun _ _ _ h => h) (Or.inr ⟨by rfl, rfl⟩) (rfl) ?_
          try simp only [Act.put, List.setIfInBounds_toArray, List.set_cons_zero, List.set_cons_succ]
          refine wpAnyH_take (i := 16) (oi := _) (v := undef) (by simp only [List.getElem?_toArray, List.getElem?_cons_succ, List.getElem?_cons_zero]; rfl) (by kernel_rfl) (by kernel_rfl) (by kernel_rfl) (by exact fun _ _ _ h => h) (Or.inr ⟨by rfl, rfl⟩) (rfl) ?_
          try simp only [Act.put, List.setIfInBounds_toArray, List.set_cons_zero, List.set_cons_succ]
          refine wpAnyH_take (i := 17) (oi := _) (v := undef) (by simp only [List.getElem?_toArray, List.getElem?_cons_succ, List.getElem?_cons_zero]; rfl) (by kernel_rfl) (by kernel_rfl) (by kernel_rfl) (by exact fun _ _ _ h => h) (Or.inr ⟨by rfl, rfl⟩) (rfl) ?_
          try simp only [Act.put, List.setIfInBounds_toArray, List.set_cons_zero, List.set_cons_succ]
          refine wpAnyH_take (i := 18) (oi := _) (v := undef) (by simp only [List.getElem?_toArray, List.getElem?_cons_succ, List.getElem?_cons_zero]; rfl) (by kernel_rfl) (by kernel_rfl) (by kernel_rfl) (by exact fun _ _ _ h => h) (Or.inr ⟨by rfl, rfl⟩) (rfl) ?_
          try simp only [Act.put, List.setIfInBounds_toArray, List.set_cons_zero, List.set_cons_succ]
          refine wpAnyH_take (i := 19) (oi := _) (v := ?_) (by simp only [List.getElem?_toArray, List.getElem?_cons_succ, List.getElem?_cons_zero]; rfl) (by kernel_rfl) (by kernel_rfl) (by kernel_rfl) (by exact fun _ _ _ h => h) (Or.inl ⟨by rfl, ?hyb19⟩) (rfl) ?reb19
          case hyb19 => (rintro w rfl; go_simp <;> with_reducible rfl)
          try simp only [Act.put, List.setIfInBounds_toArray, List.set_cons_zero, List.set_cons_succ]
          refine wpAnyH_done (by kernel_rfl) ?_ _
          go_wp2
          go_roundw
          case rel => exact ⟨j + 1, k, S', gm, o, n' + 1, cap, L', by omega, by go_num, rfl, ⟨IsDisk.keep (w := wr.alloc (.cells #[.int .u8 (a.kind : Int), .int .i64 a.at_, .int .u8 (a.c : Int), .slice a.bA a.bn a.bc, .int .u16 a.tag, .int .u64 (a.there : Int)] 34)) Ma.out.1 (fun _ _ => rfl), Ma.out.2⟩, La.out.drew, C.out.more, May.keep (w := wr.alloc (.cells #[.int .u8 (a.kind : Int), .int .i64 a.at_, .int .u8 (a.c : Int), .slice a.bA a.bn a.bc, .int .u16 a.tag, .int .u64 (a.there : Int)] 34)) Ya.out rfl, X.out, hgm⟩
          case measure => simp [intOf]; omega
    · obtain rfl : j = q0 := by omega
      clear hj hlt
      have hun : Hid (k.un.length ≤ 1073741824) := by have := C.out.un; unfold Hid; omega
      have hX := X
      go_wp2_with fail
      refine (crash_any sec_enc _ _ _ k M.out.1 hun.out there hth).mono ?_
      rintro e v ⟨rfl, ht⟩
      obtain ⟨⟨S2, hM2, hX2⟩, hb, hsame⟩ := M.out.turn2 ht L.out.size
      have M2 := Lib.hid hM2
      have X2 := Lib.hid (hX2 gm Y.out.lt X.out)
      have Y2 := Lib.hid (Y.out.keep (hsame gm Y.out.lt X.out))
      have L2 := Lib.hid (L.out.trans hb)
      clear ht hM2 hX2 hb hsame
      obtain ⟨y, hnow, hyL, hy256⟩ := C.out.crash there
      obtain ⟨y', n', hl, hn', _, _, _⟩ := C.out.last
      obtain rfl : n = n' + 1 := by rw [← Y.out.len, hl]
      have hsmall := Lib.hid C.out.small
      have Hnow := Lib.hid hnow
      have HyL := Lib.hid hyL
      have hd2 : Hid ((k.crash there).dead = false) := rfl
      clear hnow hyL M L Y C hun
      generalize k.crash there = kc at *
      go_wp2_with fail
      refine (read_any _ _ _ kc M2.out.1 m y (same y) (.int .u16 (y : Int)) Hnow.out rfl (same_length y) (same_one y) hd2.out).mono ?_
      rintro e x1 ⟨rfl, hB, hb⟩
      have M3 := Lib.hid (M2.out.below hb)
      have Y3 := Lib.hid (Y2.out.keep (hb.block gm Y2.out.lt))
      obtain ⟨gr, hgr⟩ : ∃ gr, gr = v.heap.size := ⟨_, rfl⟩
      rw [← hgr] at hB ⊢
      have RA := Lib.hid hB
      have L3 := Lib.hid (L2.out.trans (hb.mono L2.out.size))
      clear hB hb hgr M2 L2 Y2
      go_wp2_with fail
      refine (tag_any _ _ _ kc M3.out.1 m y (same y) (.int .u16 (y : Int)) Hnow.out rfl (same_length y) hd2.out).mono ?_
      rintro e x2 ⟨rfl, rfl⟩
      clear M3 hd2 Hnow
      go_wp2
      go_loopw [140] (fun i wr => ∃ i' : Nat, i' ≤ n' + 1 ∧ i = .int .i64 (i' : Int) ∧ (Bk wr gr 61 (same y) ∧ Below w.heap.size w wr ∧ May wr gm o (n' + 1) cap L') ∧ Hid (∀ t, t < i' → L'[t]? ≠ some y)) (fun i _ => (n' + 1) - (intOf i).toNat)
      case atStart => exact ⟨0, Nat.zero_le _, rfl, ⟨RA.out, L3.out, Y3.out⟩, fun t ht => absurd ht (Nat.not_lt_zero t)⟩
      case round =>
        clear RA L3 Y3
        obtain ⟨i, hi, rfl, hS, hnot⟩ := hrel
        have HS := Lib.hid hS
        clear hS
        by_cases hlt : i < n' + 1
        · obtain ⟨c, hc⟩ : ∃ c, L'[i]? = some c := ⟨_, List.getElem?_eq_getElem (by rw [hl]; exact hlt)⟩
          have hc256 : c < 256 := hsmall.out c (List.mem_iff_getElem?.2 ⟨i, hc⟩)
          have hci := HS.out.2.2.at_ hc
          have Hc := Lib.hid hc
          have hi1 : (i : Int) < (n' : Int) + 1 := by omega
          clear hc
          by_cases hcy : c = y
          · subst hcy
            have hcw : IntKind.u16.wrap (c : Int) = (c : Int) := by rw [IntKind.wrap_u16]; omega
            go_wp2
            refine wp_region_held_drew (S := fun w' => Bk w' gr 61 (same c) ∧ Below w.heap.size w w' ∧ May w' gm o (n' + 1) cap L') (by kernel_rfl) ⟨HS.out.1, HS.out.2.1.drew, May.keep (w := wr) HS.out.2.2 rfl⟩ (fun hHeld => ?_)
            refine wpAnyH_take (i := 0) (oi := _) (v := ?_) (by simp only [List.getElem?_toArray, List.getElem?_cons_zero]; rfl) (by kernel_rfl) (by kernel_rfl) (by kernel_rfl) (by exact fun _ _ _ h => h) (Or.inl ⟨by rfl, ?hyc0⟩) (by assumption) ?rec0
            case hyc0 => (rintro w ⟨hA1, hA2, hA3⟩; have e1 := conv_any hA1 (by assumption); clear hA1 hA2 hA3; go_simp <;> with_reducible rfl)
            try simp only [Act.put, List.setIfInBounds_toArray, List.set_cons_zero, List.set_cons_succ]
            refine wpAnyH_take (i := 1) (oi := _) (v := ?_) (by simp only [List.getElem?_toArray, List.getElem?_cons_succ, List.getElem?_cons_zero]; rfl) (by kernel_rfl) (by kernel_rfl) (by kernel_rfl) (by exact fun _ _ _ h => h) (Or.inl ⟨by rfl, ?hyc1⟩) (by assumption) ?rec1
            case hyc1 => (rintro w ⟨hA1, hA2, hA3⟩; have e1 := conv_any hA1 (by assumption); clear hA1 hA2 hA3; go_simp <;> with_reducible rfl)
            try simp only [Act.put, List.setIfInBounds_toArray, List.set_cons_zero, List.set_cons_succ]
            refine wpAnyH_take (i := 2) (oi := _) (v := ?_) (by simp only [List.getElem?_toArray, List.getElem?_cons_succ, List.getElem?_cons_zero]; rfl) (by kernel_rfl) (by kernel_rfl) (by kernel_rfl) (by exact fun _ _ _ h => h) (Or.inl ⟨by rfl, ?hyc2⟩) (by assumption) ?rec2
            case hyc2 => (rintro w ⟨hA1, hA2, hA3⟩; have e1 := conv_any hA1 (by assumption); clear hA1 hA2 hA3; go_simp <;> with_reducible rfl)
            try simp only [Act.put, List.setIfInBounds_toArray, List.set_cons_zero, List.set_cons_succ]
            refine wpAnyH_ready (rs := [3]) (by kernel_rfl) (by simp) ?_
            refine AllReadyH.cons (o := _) (by simp only [List.getElem?_toArray, List.getElem?_cons_succ, List.getElem?_cons_zero]; rfl) (fun K hK => ?_) AllReadyH.nil
            go_simp
            refine (sector_any c _).mono ?_
            rintro e y1 ⟨rfl, hB, hb, hz⟩
            have HS1 : Hid ((fun w' : World => Bk w' gr 61 (same c) ∧ Below w.heap.size w w' ∧ May w' gm o (n' + 1) cap L') y1) := ⟨Bk.below (w := wr.drew) HS.out.1 hb HS.out.1.lt, HS.out.2.1.drew.trans (hb.mono HS.out.2.1.size), May.keep (w := wr) HS.out.2.2 (hb.block gm HS.out.2.2.lt)⟩
            obtain ⟨gc, hgc⟩ : ∃ gc, gc = wr.drew.heap.size := ⟨_, rfl⟩
            rw [← hgc] at hB ⊢
            have RC := Lib.hid hB
            clear hB hb hz hgc
            go_simp
            refine hK.out _ _ HS1.out (fun hHeld2 => ?_)
            refine held_strong (T := fun u => Bk u gc 5 (same c) ∧ (fun w' : World => Bk w' gr 61 (same c) ∧ Below w.heap.size w w' ∧ May w' gm o (n' + 1) cap L') u) (by rintro _ ⟨_, h⟩; exact h) _ _ _ _ ?_
            clear hK K hHeld hHeld2
            refine wpAnyH_take (i := 4) (oi := _) (v := ?_) (by simp only [List.getElem?_toArray, List.getElem?_cons_succ, List.getElem?_cons_zero]; rfl) (by kernel_rfl) (by kernel_rfl) (by kernel_rfl) (by exact fun _ _ _ h => h) (Or.inl ⟨by rfl, ?hyc24⟩) (⟨RC.out, HS1.out⟩) ?rec24
            case hyc24 => (rintro w ⟨hA0, hA1, hA2, hA3⟩; have e0 := conv_any hA0 (by assumption); have e1 := conv_any hA1 (by assumption); have e3 := strS_same c; clear hA0 hA1 hA2 hA3; go_simp <;> with_reducible rfl)
            try simp only [Act.put, List.setIfInBounds_toArray, List.set_cons_zero, List.set_cons_succ]
            refine wpAnyH_take (i := 5) (oi := _) (v := ?_) (by simp only [List.getElem?_toArray, List.getElem?_cons_succ, List.getElem?_cons_zero]; rfl) (by kernel_rfl) (by kernel_rfl) (by kernel_rfl) (by exact fun _ _ _ h => h) (Or.inl ⟨by rfl, ?hyc25⟩) (⟨RC.out, HS1.out⟩) ?rec25
            case hyc25 => (rintro w ⟨hA0, hA1, hA2, hA3⟩; have e0 := conv_any hA0 (by assumption); have e1 := conv_any hA1 (by assumption); have e3 := strS_same c; clear hA0 hA1 hA2 hA3; go_simp <;> with_reducible rfl)
            try simp only [Act.put, List.setIfInBounds_toArray, List.set_cons_zero, List.set_cons_succ]
            refine wpAnyH_take (i := 6) (oi := _) (v := ?_) (by simp only [List.getElem?_toArray, List.getElem?_cons_succ, List.getElem?_cons_zero]; rfl) (by kernel_rfl) (by kernel_rfl) (by kernel_rfl) (by exact fun _ _ _ h => h) (Or.inl ⟨by rfl, ?hyc26⟩) (⟨RC.out, HS1.out⟩) ?rec26
            case hyc26 => (rintro w ⟨hA0, hA1, hA2, hA3⟩; have e0 := conv_any hA0 (by assumption); have e1 := conv_any hA1 (by assumption); have e3 := strS_same c; clear hA0 hA1 hA2 hA3; go_simp <;> with_reducible rfl)
            try simp only [Act.put, List.setIfInBounds_toArray, List.set_cons_zero, List.set_cons_succ]
            refine wpAnyH_take (i := 7) (oi := _) (v := ?_) (by simp only [List.getElem?_toArray, List.getElem?_cons_succ, List.getElem?_cons_zero]; rfl) (by kernel_rfl) (by kernel_rfl) (by kernel_rfl) (by exact fun _ _ _ h => h) (Or.inl ⟨by rfl, ?hyc27⟩) (⟨RC.out, HS1.out⟩) ?rec27
            case hyc27 => (rintro w ⟨hA0, hA1, hA2, hA3⟩; have e0 := conv_any hA0 (by assumption); have e1 := conv_any hA1 (by assumption); have e3 := strS_same c; clear hA0 hA1 hA2 hA3; go_simp <;> with_reducible rfl)
            try simp only [Act.put, List.setIfInBounds_toArray, List.set_cons_zero, List.set_cons_succ]
            refine wpAnyH_take (i := 8) (oi := _) (v := ?_) (by simp only [List.getElem?_toArray, List.getElem?_cons_succ, List.getElem?_cons_zero]; rfl) (by kernel_rfl) (by kernel_rfl) (by kernel_rfl) (by exact fun _ _ _ h => h) (Or.inl ⟨by rfl, ?hyc28⟩) (⟨RC.out, HS1.out⟩) ?rec28
            case hyc28 => (rintro w ⟨hA0, hA1, hA2, hA3⟩; have e0 := conv_any hA0 (by assumption); have e1 := conv_any hA1 (by assumption); have e3 := strS_same c; clear hA0 hA1 hA2 hA3; go_simp <;> with_reducible rfl)
            try simp only [Act.put, List.setIfInBounds_toArray, List.set_cons_zero, List.set_cons_succ]
            refine wpAnyH_take (i := 9) (oi := _) (v := ?_) (by simp only [List.getElem?_toArray, List.getElem?_cons_succ, List.getElem?_cons_zero]; rfl) (by kernel_rfl) (by kernel_rfl) (by kernel_rfl) (by exact fun _ _ _ h => h) (Or.inl ⟨by rfl, ?hyc29⟩) (⟨RC.out, HS1.out⟩) ?rec29
            case hyc29 => (rintro w ⟨hA0, hA1, hA2, hA3⟩; have e0 := conv_any hA0 (by assumption); have e1 := conv_any hA1 (by assumption); have e3 := strS_same c; clear hA0 hA1 hA2 hA3; go_simp <;> with_reducible rfl)
            try simp only [Act.put, List.setIfInBounds_toArray, List.set_cons_zero, List.set_cons_succ]
            refine wpAnyH_take (i := 10) (oi := _) (v := ?_) (by simp only [List.getElem?_toArray, List.getElem?_cons_succ, List.getElem?_cons_zero]; rfl) (by kernel_rfl) (by kernel_rfl) (by kernel_rfl) (by exact fun _ _ _ h => h) (Or.inl ⟨by rfl, ?hyc210⟩) (⟨RC.out, HS1.out⟩) ?rec210
            case hyc210 => (rintro w ⟨hA0, hA1, hA2, hA3⟩; have e0 := conv_any hA0 (by assumption); have e1 := conv_any hA1 (by assumption); have e3 := strS_same c; clear hA0 hA1 hA2 hA3; go_simp <;> with_reducible rfl)
            try simp only [Act.put, List.setIfInBounds_toArray, List.set_cons_zero, List.set_cons_succ]
            refine wpAnyH_take (i := 11) (oi := _) (v := ?_) (by simp only [List.getElem?_toArray, List.getElem?_cons_succ, List.getElem?_cons_zero]; rfl) (by kernel_rfl) (by kernel_rfl) (by kernel_rfl) (by exact fun _ _ _ h => h) (Or.inl ⟨by rfl, ?hyc211⟩) (⟨RC.out, HS1.out⟩) ?rec211
            case hyc211 => (rintro w ⟨hA0, hA1, hA2, hA3⟩; have e0 := conv_any hA0 (by assumption); have e1 := conv_any hA1 (by assumption); have e3 := strS_same c; clear hA0 hA1 hA2 hA3; go_simp <;> with_reducible rfl)
            try simp only [Act.put, List.setIfInBounds_toArray, List.set_cons_zero, List.set_cons_succ]
            refine wpAnyH_done (by kernel_rfl) ?_ _
            go_wp2
            go_ret
            exact ⟨rfl, HS1.out.2.1⟩
          · have hne := strS_ne (fun e => hcy e.symm) hy256 hc256
            have hnot' : Hid (∀ t, t < i + 1 → L'[t]? ≠ some y) := fun t ht => by
              rcases Nat.lt_or_ge t i with h | h
              · exact hnot.out t h
              · obtain rfl : t = i := by omega
                rw [Hc.out]
                intro e
                exact hcy (by injection e)
            go_wp2
            refine wp_region_held_drew (S := fun w' => Bk w' gr 61 (same y) ∧ Below w.heap.size w w' ∧ May w' gm o (n' + 1) cap L') (by kernel_rfl) ⟨HS.out.1, HS.out.2.1.drew, May.keep (w := wr) HS.out.2.2 rfl⟩ (fun hHeld => ?_)
            refine wpAnyH_take (i := 0) (oi := _) (v := ?_) (by simp only [List.getElem?_toArray, List.getElem?_cons_zero]; rfl) (by kernel_rfl) (by kernel_rfl) (by kernel_rfl) (by exact fun _ _ _ h => h) (Or.inl ⟨by rfl, ?hyd0⟩) (by assumption) ?red0
            case hyd0 => (rintro w ⟨hA1, hA2, hA3⟩; have e1 := conv_any hA1 (by assumption); clear hA1 hA2 hA3; go_simp <;> with_reducible rfl)
            try simp only [Act.put, List.setIfInBounds_toArray, List.set_cons_zero, List.set_cons_succ]
            refine wpAnyH_take (i := 1) (oi := _) (v := ?_) (by simp only [List.getElem?_toArray, List.getElem?_cons_succ, List.getElem?_cons_zero]; rfl) (by kernel_rfl) (by kernel_rfl) (by kernel_rfl) (by exact fun _ _ _ h => h) (Or.inl ⟨by rfl, ?hyd1⟩) (by assumption) ?red1
            case hyd1 => (rintro w ⟨hA1, hA2, hA3⟩; have e1 := conv_any hA1 (by assumption); clear hA1 hA2 hA3; go_simp <;> with_reducible rfl)
            try simp only [Act.put, List.setIfInBounds_toArray, List.set_cons_zero, List.set_cons_succ]
            refine wpAnyH_take (i := 2) (oi := _) (v := ?_) (by simp only [List.getElem?_toArray, List.getElem?_cons_succ, List.getElem?_cons_zero]; rfl) (by kernel_rfl) (by kernel_rfl) (by kernel_rfl) (by exact fun _ _ _ h => h) (Or.inl ⟨by rfl, ?hyd2⟩) (by assumption) ?red2
            case hyd2 => (rintro w ⟨hA1, hA2, hA3⟩; have e1 := conv_any hA1 (by assumption); clear hA1 hA2 hA3; go_simp <;> with_reducible rfl)
            try simp only [Act.put, List.setIfInBounds_toArray, List.set_cons_zero, List.set_cons_succ]
            refine wpAnyH_ready (rs := [3]) (by kernel_rfl) (by simp) ?_
            refine AllReadyH.cons (o := _) (by simp only [List.getElem?_toArray, List.getElem?_cons_succ, List.getElem?_cons_zero]; rfl) (fun K hK => ?_) AllReadyH.nil
            go_simp
            refine (sector_any c _).mono ?_
            rintro e y1 ⟨rfl, hB, hb, hz⟩
            have HS1 : Hid ((fun w' : World => Bk w' gr 61 (same y) ∧ Below w.heap.size w w' ∧ May w' gm o (n' + 1) cap L') y1) := ⟨Bk.below (w := wr.drew) HS.out.1 hb HS.out.1.lt, HS.out.2.1.drew.trans (hb.mono HS.out.2.1.size), May.keep (w := wr) HS.out.2.2 (hb.block gm HS.out.2.2.lt)⟩
            obtain ⟨gc, hgc⟩ : ∃ gc, gc = wr.drew.heap.size := ⟨_, rfl⟩
            rw [← hgc] at hB ⊢
            have RC := Lib.hid hB
            clear hB hb hz hgc
            go_simp
            refine hK.out _ _ HS1.out (fun hHeld2 => ?_)
            refine held_strong (T := fun u => Bk u gc 5 (same c) ∧ (fun w' : World => Bk w' gr 61 (same y) ∧ Below w.heap.size w w' ∧ May w' gm o (n' + 1) cap L') u) (by rintro _ ⟨_, h⟩; exact h) _ _ _ _ ?_
            clear hK K hHeld hHeld2
            refine wpAnyH_take (i := 4) (oi := _) (v := ?_) (by simp only [List.getElem?_toArray, List.getElem?_cons_succ, List.getElem?_cons_zero]; rfl) (by kernel_rfl) (by kernel_rfl) (by kernel_rfl) (by exact fun _ _ _ h => h) (Or.inl ⟨by rfl, ?hyd24⟩) (⟨RC.out, HS1.out⟩) ?red24
            case hyd24 => (rintro w ⟨hA0, hA1, hA2, hA3⟩; have e0 := conv_any hA0 (by assumption); have e1 := conv_any hA1 (by assumption); have e3 := strS_same c; clear hA0 hA1 hA2 hA3; go_simp <;> with_reducible rfl)
            try simp only [Act.put, List.setIfInBounds_toArray, List.set_cons_zero, List.set_cons_succ]
            refine wpAnyH_take (i := 5) (oi := _) (v := ?_) (by simp only [List.getElem?_toArray, List.getElem?_cons_succ, List.getElem?_cons_zero]; rfl) (by kernel_rfl) (by kernel_rfl) (by kernel_rfl) (by exact fun _ _ _ h => h) (Or.inl ⟨by rfl, ?hyd25⟩) (⟨RC.out, HS1.out⟩) ?red25
            case hyd25 => (rintro w ⟨hA0, hA1, hA2, hA3⟩; have e0 := conv_any hA0 (by assumption); have e1 := conv_any hA1 (by assumption); have e3 := strS_same c; clear hA0 hA1 hA2 hA3; go_simp <;> with_reducible rfl)
            try simp only [Act.put, List.setIfInBounds_toArray, List.set_cons_zero, List.set_cons_succ]
            refine wpAnyH_take (i := 6) (oi := _) (v := ?_) (by simp only [List.getElem?_toArray, List.getElem?_cons_succ, List.getElem?_cons_zero]; rfl) (by kernel_rfl) (by kernel_rfl) (by kernel_rfl) (by exact fun _ _ _ h => h) (Or.inl ⟨by rfl, ?hyd26⟩) (⟨RC.out, HS1.out⟩) ?red26
            case hyd26 => (rintro w ⟨hA0, hA1, hA2, hA3⟩; have e0 := conv_any hA0 (by assumption); have e1 := conv_any hA1 (by assumption); have e3 := strS_same c; clear hA0 hA1 hA2 hA3; go_simp <;> with_reducible rfl)
            try simp only [Act.put, List.setIfInBounds_toArray, List.set_cons_zero, List.set_cons_succ]
            refine wpAnyH_take (i := 7) (oi := _) (v := undef) (by simp only [List.getElem?_toArray, List.getElem?_cons_succ, List.getElem?_cons_zero]; rfl) (by kernel_rfl) (by kernel_rfl) (by kernel_rfl) (by exact fun _ _ _ h => h) (Or.inr ⟨by rfl, rfl⟩) (⟨RC.out, HS1.out⟩) ?_
            try simp only [Act.put, List.setIfInBounds_toArray, List.set_cons_zero, List.set_cons_succ]
            refine wpAnyH_take (i := 8) (oi := _) (v := undef) (by simp only [List.getElem?_toArray, List.getElem?_cons_succ, List.getElem?_cons_zero]; rfl) (by kernel_rfl) (by kernel_rfl) (by kernel_rfl) (by exact fun _ _ _ h => h) (Or.inr ⟨by rfl, rfl⟩) (⟨RC.out, HS1.out⟩) ?_
            try simp only [Act.put, List.setIfInBounds_toArray, List.set_cons_zero, List.set_cons_succ]
            refine wpAnyH_take (i := 9) (oi := _) (v := undef) (by simp only [List.getElem?_toArray, List.getElem?_cons_succ, List.getElem?_cons_zero]; rfl) (by kernel_rfl) (by kernel_rfl) (by kernel_rfl) (by exact fun _ _ _ h => h) (Or.inr ⟨by rfl, rfl⟩) (⟨RC.out, HS1.out⟩) ?_
            try simp only [Act.put, List.setIfInBounds_toArray, List.set_cons_zero, List.set_cons_succ]
            refine wpAnyH_take (i := 10) (oi := _) (v := undef) (by simp only [List.getElem?_toArray, List.getElem?_cons_succ, List.getElem?_cons_zero]; rfl) (by kernel_rfl) (by kernel_rfl) (by kernel_rfl) (by exact fun _ _ _ h => h) (Or.inr ⟨by rfl, rfl⟩) (⟨RC.out, HS1.out⟩) ?_
            try simp only [Act.put, List.setIfInBounds_toArray, List.set_cons_zero, List.set_cons_succ]
            refine wpAnyH_take (i := 11) (oi := _) (v := ?_) (by simp only [List.getElem?_toArray, List.getElem?_cons_succ, List.getElem?_cons_zero]; rfl) (by kernel_rfl) (by kernel_rfl) (by kernel_rfl) (by exact fun _ _ _ h => h) (Or.inl ⟨by rfl, ?hyd211⟩) (⟨RC.out, HS1.out⟩) ?red211
            case hyd211 => (rintro w ⟨hA0, hA1, hA2, hA3⟩; have e0 := conv_any hA0 (by assumption); have e1 := conv_any hA1 (by assumption); have e3 := strS_same c; clear hA0 hA1 hA2 hA3; go_simp <;> with_reducible rfl)
            try simp only [Act.put, List.setIfInBounds_toArray, List.set_cons_zero, List.set_cons_succ]
            refine wpAnyH_done (by kernel_rfl) ?_ _
            go_wp2
            go_roundw
            case rel => exact ⟨i + 1, by omega, by go_num, HS1.out, hnot'⟩
            case measure => simp [intOf]; omega
        · exfalso
          obtain ⟨t, ht⟩ := List.mem_iff_getElem?.1 HyL.out
          have : t < L'.length := (List.getElem?_eq_some_iff.1 ht).1
          exact hnot.out t (by omega) ht

theorem either_int (l0 : List Act) (A0 : Option Addr) (n0 c0 : Nat) (t x : Int) (w : World) (hn0 : l0.length = n0) (hc0 : n0 ≤ c0) (hm0 : c0 ≤ 9223372036854775807) (hr0 : Acts w w.heap.size A0 l0)
    (ht : 0 ≤ t) (ht2 : t < 18446744073709551616) (hx : 0 ≤ x) (hx2 : x < 256) :
    Calls Try.prog 4 #[.slice A0 n0 c0, .int .u64 t, .int .u8 x] w fun e w' => e = .returned (.bool true) ∧ Below w.heap.size w w' := by
  obtain ⟨n, rfl⟩ : ∃ n : Nat, t = (n : Int) := ⟨t.toNat, by omega⟩
  obtain ⟨s, rfl⟩ : ∃ s : Nat, x = (s : Int) := ⟨x.toNat, by omega⟩
  exact either_walk l0 A0 n0 c0 n s w hn0 hc0 hm0 hr0 (by omega) (by omega)

theorem either_contract (H : Type) (enc : TypeId × Value → H) (W : World) (base : Nat) (args : Array Value) (ds gs : List (DataW H)) (before : List MemPlace)
    (hval : ∀ (j : Nat) t v, Try.f4.params[j]? = some t → args[j]? = some v → Value.okWide Try.prog W .any base t v)
    (hW : DataW.Whole enc Try.prog Try.f4.params.toList Rows.diskEitherSpec.vars false W args.toList ds gs before) :
    Calls Try.prog 4 args W fun e W' => ∃ v, e = .returned v ∧ Rows.diskEitherSpec.post enc Try.prog Try.f4 false true false false W args v W' := by
  have hW' := hW
  have hlt : ∀ x ∈ before, x.block < W.heap.size := fun x hx => hW.lt x hx
  obtain ⟨p, q, hA0, hV, rfl, _, _⟩ := hW
  have hA : DataW.TrodAll enc Try.prog W 0 (fun _ => true) true Try.f4.params.toList args.toList ds p := hA0
  rw [Try.params4] at hA hval
  obtain ⟨v0, vs0, d0, ds0, p0, q0, hargs, rfl, rfl, h0, r0⟩ := trodAll_cons hA
  obtain ⟨v1, vs1, d1, ds1, p1, q1, rfl, rfl, rfl, h1, r1⟩ := trodAll_cons r0
  obtain ⟨v2, vs2, d2, ds2, p2, q2, rfl, rfl, rfl, h2, r2⟩ := trodAll_cons r1
  obtain ⟨rfl, rfl, rfl⟩ := trodAll_nil r2
  obtain rfl : args = #[v0, v1, v2] := by cases args; simp_all
  obtain ⟨rfl, rfl⟩ := trodVars_none hV
  clear hA0
  obtain ⟨A0, n0, c0, l0, rfl, hn0, hc0, hm0, hr0⟩ := open_actsL (hval 0 22 v0 rfl rfl) h0 (fun x hx => hlt x (by simp [hx]))
  unfold maxLen at hm0
  obtain ⟨a1, rfl, rfl, rfl, wa1⟩ := open_int Try.underlying32 (hval 1 32 v1 rfl rfl) h1
  have bd1 := bounds_u64 wa1
  obtain ⟨a2, rfl, rfl, rfl, wa2⟩ := open_int Try.underlying5 (hval 2 5 v2 rfl rfl) h2
  have bd2 := bounds_u8 wa2
  refine (either_int l0 A0 n0 c0 a1 a2 W hn0 hc0 (by omega) hr0 (by omega) (by omega) (by omega) (by omega)).mono fun e W' ⟨he, hb⟩ => ?_
  subst he
  exact ⟨_, rfl, law_post laid (by kernel_rfl) Try.underlying4 (by rw [Try.params4]; decide +kernel) rfl hW' ⟨rfl, rfl, rfl⟩ hb⟩

set_option maxRecDepth 100000 in
theorem either_lifted (os : Os) (started : os.Started) (H : Type) (enc : TypeId × Value → H) :
    ReturnsInHanded {} Try.checked os 4 .any (Rows.diskEitherSpec.pre6 enc Try.prog Try.f4 Rows.diskEitherRow.domain false) (Rows.diskEitherSpec.post enc Try.prog Try.f4 false true false false) := by
  refine returnsInHanded_of_change (C := Try.checked) own started (by kernel_rfl) Try.func4
    (ChangeSpec.witness6 (enc := enc) (C := Try.checked) false ⟨#[], #[.slice none 0 0, .int .u64 0, .int .u8 0], []⟩ 8 (by kernel_rfl) (by kernel_rfl) (by kernel_rfl) (by kernel_rfl)) ?_
  intro W base args ds gs before hval hW _ _
  exact either_contract H enc W base args ds gs before hval hW

/-- DiskEither is true for every input. -/
theorem either_holds : Rows.DiskEitherSaid :=
  OpenClaim.holds_of_wide 4 Try.f4 rfl rfl rfl rfl rfl rfl rfl ⟨rfl, rfl, rfl, rfl, rfl⟩ rfl rfl rfl rfl rfl (by kernel_rfl) Try.func4 (by kernel_rfl)
    (of_decide_eq_true (by kernel_rfl)) (by unfold Func.isWrapper; first | (rw [if_pos (by decide +kernel)]; kernel_rfl) | (rw [if_neg (by decide +kernel)]; exact ⟨rfl, rfl⟩))
    (fun os started H enc _ => either_lifted os started H enc)
end Go.Proofs.Ytnebenkodpnofaa
