/-
  What is not safe is settled; a flush, a crash.
-/
import Derived.Test.YtnkpmmijdkcdjaaU2
namespace Go.Proofs.Ytnkpmmijdkcdjaa
open Go.RowKit
attribute [local go_sem ↓] Go.wp_at_zero Go.wp_at_succ

section
variable {α : Type} {f : α → List Value}

theorem kept_append (t i : Nat) (l m : List (Nat × α)) : kept t i (l ++ m) = kept t i l ++ kept t (i + l.length) m := by
  induction l generalizing i with
  | nil => simp [kept]
  | cons p l ih =>
    simp only [List.cons_append, kept, List.length_cons]
    rw [ih (i + 1), show i + 1 + l.length = i + (l.length + 1) by omega]
    split <;> rfl

theorem kept_mem {t i : Nat} {l : List (Nat × α)} : ∀ p ∈ kept t i l, p ∈ l := by
  induction l generalizing i with
  | nil => intro p hp; exact hp
  | cons q l ih =>
    intro p hp
    simp only [kept] at hp
    split at hp
    · rcases List.mem_cons.1 hp with rfl | hp
      · exact List.mem_cons_self
      · exact List.mem_cons_of_mem _ (ih p hp)
    · exact List.mem_cons_of_mem _ (ih p hp)

theorem puts_get {L : List α} {l : List (Nat × α)} {s : Nat} (h : ∀ p ∈ l, p.1 ≠ s) : (puts L l)[s]? = L[s]? := by
  induction l generalizing L with
  | nil => rfl
  | cons p l ih =>
    rw [puts_cons, ih fun q hq => h q (by simp [hq]), List.getElem?_set_ne (h p (by simp))]

/-- How far the unsafe writes have been settled. -/
def safeTo (k : Dk α) (t j : Nat) : List α := puts k.safe (kept t 0 (k.un.take j))
theorem safeTo_length (k : Dk α) (t j : Nat) : (safeTo k t j).length = k.safe.length := length_puts _ _
theorem safeTo_zero (k : Dk α) (t : Nat) : safeTo k t 0 = k.safe := by simp [safeTo, kept, puts]
theorem safeTo_yes (k : Dk α) (t j : Nat) (p : Nat × α) (hp : k.un[j]? = some p) (h : t.testBit (j % 64) = true) : safeTo k t (j + 1) = (safeTo k t j).set p.1 p.2 := by
  have hl : (k.un.take j).length = j := by have := (List.getElem?_eq_some_iff.1 hp).1; simp; omega
  have e : k.un.take (j + 1) = k.un.take j ++ [p] := by rw [List.take_add_one, hp]; rfl
  simp only [safeTo, e, kept_append, puts_append, hl, kept, Nat.zero_add, h, if_true, puts_cons, puts_nil]
theorem safeTo_no (k : Dk α) (t j : Nat) (p : Nat × α) (hp : k.un[j]? = some p) (h : t.testBit (j % 64) = false) : safeTo k t (j + 1) = safeTo k t j := by
  have hl : (k.un.take j).length = j := by have := (List.getElem?_eq_some_iff.1 hp).1; simp; omega
  have e : k.un.take (j + 1) = k.un.take j ++ [p] := by rw [List.take_add_one, hp]; rfl
  simp only [safeTo, e, kept_append, puts_append, hl, kept, Nat.zero_add, h, Bool.false_eq_true, if_false, puts_nil]
theorem safeTo_all (k : Dk α) (t : Nat) : safeTo k t k.un.length = (k.settle t).safe := by simp [safeTo, Dk.settle]

/-- A safe sector is put. -/
theorem Mem.putSafe {w : World} {b bn bs cn cs : Nat} {vu : Value} {now safe : List α} {un : List (Nat × α)} {dead cut : Bool} {left done : Int} (h : Mem f w b bn bs cn cs vu now safe un dead cut left done) (hf : Enc f) {s : Nat} (hs : s < safe.length) (c : α) : Mem f (w.setCells bs (s * 65) (f c)) b bn bs cn cs vu now (safe.set s c) un dead cut left done := by
  have ho := fun k (hk : k ≠ bs) => setCells_other bs (f c) (s * 65) w k hk
  refine ⟨by rw [List.length_set]; exact (ho b h.b_bs).trans h.blk, h.nowR.keep (ho bn h.ne), ?_, h.unR.keep fun i hi => ho i (h.bu hi).2.2, h.ne, by simpa using h.len, by simpa using h.idx⟩
  rw [List.map_set]
  exact h.safeR.set (by simpa using hs) (hf.len c) (hf.one c)

theorem ent_cell (W : World) (p : Nat × α) : (W.alloc (.cells (ent f p).toArray 95)).cell? ⟨W.heap.size, 0, none⟩ = some (.int .i64 (p.1 : Int)) := by
  rw [cell_of_row _ W.heap.size 0 _ 95 (0, 0) (heap_alloc_new W _)]
  simp [ent]
theorem ent_range (W : World) (p : Nat × α) : (W.alloc (.cells (ent f p).toArray 95)).rangeAt W.heap.size 1 (f p.2) := fun j v hj => by
  rw [cell_of_row _ W.heap.size (1 + j) _ 95 (0, 0) (heap_alloc_new W _), Nat.add_comm]
  simpa [ent] using hj

theorem bit_test64 (a j : Nat) (ha : a < 18446744073709551616) : (bits .and .u64 ((a : Int) / 2 ^ j) 1 == 1) = a.testBit j := by
  have e : ((a : Int) / 2 ^ j) = ((a / 2 ^ j : Nat) : Int) := by simp
  have h := Nat.div_le_self a (2 ^ j)
  have e2 := u64_and_nat (a / 2 ^ j) 1 (by omega) (by omega)
  rw [show (a / 2 ^ j) &&& 1 = a / 2 ^ j % 2 from Nat.and_one_is_mod _] at e2
  rw [e, show (1 : Int) = ((1 : Nat) : Int) from rfl, e2, Nat.testBit_eq_decide_div_mod_eq, Bool.eq_iff_iff]
  simp
  omega

theorem URow.range {w : World} {a : Addr} {m cu : Nat} {L : List (List Value)} (h : URow w (.slice (some a) m cu) L) {j : Nat} {c : List Value} (hc : L[j]? = some c) : w.rangeAt a.block (j * 66) c := by
  rcases h with ⟨h, _⟩ | ⟨bu', cu', he, hR⟩
  · cases h
  · injection he with h1 h2 h3
    injection h1 with h1
    subst h1
    exact (hR.elem j _ hc).2.2

/-- How far the sectors have been set right again. -/
def Back (k : Dk α) (S' N : List α) (j : Nat) : Prop := ∀ s, (s ∈ (k.un.take j).map (·.1) → N[s]? = S'[s]?) ∧ (s ∉ (k.un.take j).map (·.1) → N[s]? = k.now[s]?)
theorem Back.start (k : Dk α) (S' : List α) : Back k S' k.now 0 := fun s => ⟨fun h => by simp at h, fun _ => rfl⟩
theorem Back.step {k : Dk α} {S' N : List α} {j : Nat} (h : Back k S' N j) {p : Nat × α} (hp : k.un[j]? = some p) {c : α} (hc : S'[p.1]? = some c) (hl : N.length = S'.length) : Back k S' (N.set p.1 c) (j + 1) := fun s => by
  have e : k.un.take (j + 1) = k.un.take j ++ [p] := by rw [List.take_add_one, hp]; rfl
  rw [e, List.map_append, List.mem_append]
  have hlt : p.1 < N.length := by rw [hl]; exact (List.getElem?_eq_some_iff.1 hc).1
  by_cases hs : p.1 = s
  · subst hs
    refine ⟨fun _ => by rw [List.getElem?_set_self hlt, hc], fun hn => absurd (.inr (by simp)) hn⟩
  · rw [List.getElem?_set_ne hs]
    refine ⟨fun hm => (h s).1 ?_, fun hn => (h s).2 fun hm => hn (.inl hm)⟩
    rcases hm with hm | hm
    · exact hm
    · simp at hm
      exact absurd hm.symm hs
theorem Back.all {k : Dk α} {t : Nat} {N : List α} (h : Back k (safeTo k t k.un.length) N k.un.length) : N = safeTo k t k.un.length := by
  apply List.ext_getElem?
  intro s
  by_cases hs : s ∈ (k.un.take k.un.length).map (·.1)
  · exact (h s).1 hs
  · rw [(h s).2 hs]
    rw [List.take_length] at hs
    have h1 : k.now[s]? = k.safe[s]? := puts_get fun p hp e => hs (List.mem_map.2 ⟨p, hp, e⟩)
    have h2 : (safeTo k t k.un.length)[s]? = k.safe[s]? := puts_get fun p hp e => hs (List.mem_map.2 ⟨p, by
      have := kept_mem p hp
      rwa [List.take_length] at this, e⟩)
    rw [h1, h2]

/-- The list of unsafe writes is dropped. -/
theorem Mem.drop {w : World} {b bn bs cn cs : Nat} {vu : Value} {now safe : List α} {un : List (Nat × α)} {dead cut : Bool} {left done : Int} (h : Mem f w b bn bs cn cs vu now safe un dead cut left done) : Mem f (w.setCell ⟨b, 2, none⟩ (.slice none 0 0)) b bn bs cn cs (.slice none 0 0) now safe [] dead cut left done := by
  have ho := fun k (hk : k ≠ b) => Below.heap_setCell w ⟨b, 2, none⟩ (.slice none 0 0) k hk
  exact ⟨h.blk.set 2 _, h.nowR.keep (ho bn h.b_bn.symm), h.safeR.keep (ho bs h.b_bs.symm), .inl ⟨rfl, rfl⟩, h.ne, h.len, fun p hp => by cases hp⟩

set_option maxRecDepth 100000 in
set_option maxHeartbeats 800000 in
theorem settle_some (hf : Enc f) (w : World) (b bn bs cn cs bu cu : Nat) (k : Dk α) (there : Nat) (ht : there < 18446744073709551616) (hun : k.un.length ≤ 1073741824) (hm : MemK f w b bn bs cn cs (.slice (some ⟨bu, 0, none⟩) k.un.length cu) k) :
    Calls Try.prog 35 #[.pointer (some ⟨b, 0, none⟩), .int .u64 (there : Int)] w fun e w' => e = .returned (.tuple #[]) ∧ Kept (foot b bn bs (.slice (some ⟨bu, 0, none⟩) k.un.length cu)) w w' ∧ MemK f w' b bn bs cn cs (.slice none 0 0) (k.settle there) := by
  have h2 := hm.unC
  have Hf := Lib.hid hf
  have Hm := Lib.hid hm
  clear hm hf
  obtain ⟨m, hmm⟩ : ∃ m, m = k.un.length := ⟨_, rfl⟩
  rw [← hmm] at h2 hun
  have Hmm := Lib.hid hmm
  clear hmm
  go_enter Try.func35, Try.ntmps35
  go_wp2
  go_loopw [13] (fun i wr => ∃ j : Nat, j ≤ m ∧ i = .int .i64 (j : Int) ∧ Kept (foot b bn bs (.slice (some ⟨bu, 0, none⟩) k.un.length cu)) w wr ∧ Mem f wr b bn bs cn cs (.slice (some ⟨bu, 0, none⟩) k.un.length cu) k.now (safeTo k there j) k.un k.dead k.cut k.left k.done) (fun i _ => m - (intOf i).toNat)
  case atStart => exact ⟨0, Nat.zero_le _, rfl, Kept.refl _ _, by rw [safeTo_zero]; exact Hm.out⟩
  case round =>
    obtain ⟨j, hj, rfl, hK, hM⟩ := hrel
    have HK := Lib.hid hK
    have HM := Lib.hid hM
    clear hK hM
    by_cases hlt : j < m
    · have hlt' : j < k.un.length := by rw [← Hmm.out]; exact hlt
      obtain ⟨p, hp⟩ : ∃ p, k.un[j]? = some p := ⟨_, List.getElem?_eq_getElem hlt'⟩
      have hr : wr.rangeAt bu (j * 66) (ent f p) := by
        exact HM.out.unR.range (by rw [List.getElem?_map, hp]; rfl)
      have Hp := Lib.hid hp
      clear hp hlt'
      have hEl := ent_len Hf.out p
      have HE1 := Lib.hid (ent_one Hf.out p)
      have hst : ∀ (c0 : Array Value), c0.size = 66 → (storeCells ⟨wr.heap.size, 0, none⟩ (ent f p) 0).run Try.prog (wr.alloc (.cells c0 95)) = .ok () (wr.alloc (.cells (ent f p).toArray 95)) := fun c0 h0 => by
        simpa using run_storeCells_new (P := Try.prog) wr 95 c0 (ent f p).toArray (by rw [size65]; simp [hEl]) (by simp [hEl, h0]) (all_oneCell_toArray HE1.out)
      have hz65 := zeroV65
      have hzl := lenz65
      have hMa : Mem f (wr.alloc (.cells (ent f p).toArray 95)) b bn bs cn cs (.slice (some ⟨bu, 0, none⟩) k.un.length cu) k.now (safeTo k there j) k.un k.dead k.cut k.left k.done := HM.out.alloc _
      have hKa : Kept (foot b bn bs (.slice (some ⟨bu, 0, none⟩) k.un.length cu)) w (wr.alloc (.cells (ent f p).toArray 95)) := HK.out.trans (Kept.of_below (S := foot b bn bs (.slice (some ⟨bu, 0, none⟩) k.un.length cu)) ((Below.refl _ wr).alloc (Nat.le_refl _) _)) fun i hi => .inl hi
      have HMa := Lib.hid hMa
      have HKa := Lib.hid hKa
      clear hMa hKa
      cases hbit : there.testBit (j % 64)
      · have ht' : (bits .and .u64 ((there : Int) / 2 ^ (j % 64)) 1 == 1) = false := by rw [bit_test64 _ _ ht, hbit]
        have Hbit := Lib.hid hbit
        clear hbit
        go_wp2_with (refine wpList_load_mid rfl 95 (.tmp 16) rfl bu (j * 66) rfl (ent f p) _ hr Try.underlying95 rfl (by rw [size65, hEl]) ?_)
        go_roundw
        case rel => exact ⟨j + 1, by omega, by go_num, HKa.out, by rw [safeTo_no k there j p Hp.out Hbit.out]; exact HMa.out⟩
        case measure => simp [intOf]; omega
      · have ht' : (bits .and .u64 ((there : Int) / 2 ^ (j % 64)) 1 == 1) = true := by rw [bit_test64 _ _ ht, hbit]
        have Hbit := Lib.hid hbit
        clear hbit
        go_wp2_with (refine wpList_load_mid rfl 95 (.tmp 16) rfl bu (j * 66) rfl (ent f p) _ hr Try.underlying95 rfl (by rw [size65, hEl]) ?_)
        have hc0 := ent_cell (f := f) wr p
        have hr0 := ent_range (f := f) wr p
        have hps : p.1 < (safeTo k there j).length := by
          rw [safeTo_length]
          exact Hm.out.idx p (List.mem_iff_getElem?.2 ⟨j, Hp.out⟩)
        obtain ⟨nn, hnn⟩ : ∃ nn, nn = (safeTo k there j).length := ⟨_, rfl⟩
        have hb1 := HMa.out.safeC
        have hth : (wr.alloc (.cells (ent f p).toArray 95)).there bs (p.1 * 65) 65 := HMa.out.safeR.there (by simpa using hps)
        have hgs : wr.heap.size ≠ bs := by have := HM.out.safeR.lt; omega
        have hbb := HMa.out.b_bs
        rw [← hnn] at hb1 hps
        have hp0 : (0 : Int) ≤ (p.1 : Int) := by omega
        have hpn : (p.1 : Int) < (nn : Int) := by omega
        have Hnn := Lib.hid hnn
        have Hps := Lib.hid hps
        clear hnn hps hst hr
        obtain ⟨g, hg⟩ : ∃ g, g = wr.heap.size := ⟨_, rfl⟩
        rw [← hg] at hc0 hr0 hgs
        generalize wr.alloc (.cells (ent f p).toArray 95) = w1 at *
        have hl65 := Hf.out.len p.2
        have h1 := Hf.out.one p.2
        have Key : Hid ((fun w' : World => w'.cell? ⟨b, 1, none⟩ = some (.slice (some ⟨bs, 0, none⟩) nn cs) ∧ w'.cell? ⟨g, 0, none⟩ = some (.int .i64 (p.1 : Int)) ∧ w'.rangeAt g 1 (f p.2)) (w1.drew.setCells bs (p.1 * 65) (f p.2))) := ⟨(World.cell?_of_block (a := ⟨b, 1, none⟩) (setCells_other bs _ _ w1.drew b hbb)).trans hb1, (World.cell?_of_block (a := ⟨g, 0, none⟩) (setCells_other bs _ _ w1.drew g hgs)).trans hc0, range_of_block hr0 (setCells_other bs _ _ w1.drew g hgs)⟩
        have hfin : Mem f (w1.drew.setCells bs (p.1 * 65) (f p.2)) b bn bs cn cs (.slice (some ⟨bu, 0, none⟩) k.un.length cu) k.now (safeTo k there (j + 1)) k.un k.dead k.cut k.left k.done := by
          rw [safeTo_yes k there j p Hp.out Hbit.out]
          exact Mem.putSafe (w := w1.drew) (HMa.out.keep fun _ _ => rfl) Hf.out (by rw [← Hnn.out]; exact Hps.out) p.2
        have Hfin := Lib.hid hfin
        have HKb : Hid (Kept (foot b bn bs (.slice (some ⟨bu, 0, none⟩) k.un.length cu)) w (w1.drew.setCells bs (p.1 * 65) (f p.2))) := HKa.out.drew.trans (Kept.of_grown (S := foot b bn bs (.slice (some ⟨bu, 0, none⟩) k.un.length cu)) (setCells_grown w1.drew bs _ _) (by rintro _ h; injection h with h; exact .inr (.inr (.inl h.symm)))) fun i hi => .inl hi
        have hl65' := Lib.hid hl65
        have h1' := Lib.hid h1
        have hi63 : (Try.prog.info? 79).map (·.size) = some (f p.2).length := by rw [size63, hl65]
        clear hl65 h1 hfin hgs hbb
        rw [← hg]
        clear hg
        refine wp_region_held_drew (S := fun w' => w'.cell? ⟨b, 1, none⟩ = some (.slice (some ⟨bs, 0, none⟩) nn cs) ∧ w'.cell? ⟨g, 0, none⟩ = some (.int .i64 (p.1 : Int)) ∧ w'.rangeAt g 1 (f p.2)) (by kernel_rfl) ⟨hb1, hc0, hr0⟩ (fun hHeld => ?_)
        refine wpAnyH_take (i := 0) (oi := _) (v := ?_) (by simp only [List.getElem?_toArray, List.getElem?_cons_zero]; rfl) (by kernel_rfl) (by kernel_rfl) (by kernel_rfl) (by exact fun _ _ _ h => h) (Or.inl ⟨by rfl, ?hya0⟩) (by assumption) ?rea0
        case hya0 => (rintro w ⟨hA1, hA2, hA3⟩; go_simp <;> with_reducible rfl)
        try simp only [Act.put, List.setIfInBounds_toArray, List.set_cons_zero, List.set_cons_succ]
        refine wpAnyH_take (i := 1) (oi := _) (v := ?_) (by simp only [List.getElem?_toArray, List.getElem?_cons_succ, List.getElem?_cons_zero]; rfl) (by kernel_rfl) (by kernel_rfl) (by kernel_rfl) (by exact fun _ _ _ h => h) (Or.inl ⟨by rfl, ?hya1⟩) (by assumption) ?rea1
        case hya1 => (rintro w ⟨hA1, hA2, hA3⟩; go_simp <;> with_reducible rfl)
        try simp only [Act.put, List.setIfInBounds_toArray, List.set_cons_zero, List.set_cons_succ]
        refine wpAnyH_take (i := 2) (oi := _) (v := ?_) (by simp only [List.getElem?_toArray, List.getElem?_cons_succ, List.getElem?_cons_zero]; rfl) (by kernel_rfl) (by kernel_rfl) (by kernel_rfl) (by exact fun _ _ _ h => h) (Or.inl ⟨by rfl, ?hya2⟩) (by assumption) ?rea2
        case hya2 => (rintro w ⟨hA1, hA2, hA3⟩; go_simp <;> with_reducible rfl)
        try simp only [Act.put, List.setIfInBounds_toArray, List.set_cons_zero, List.set_cons_succ]
        refine wpAnyH_take (i := 3) (oi := _) (v := ?_) (by simp only [List.getElem?_toArray, List.getElem?_cons_succ, List.getElem?_cons_zero]; rfl) (by kernel_rfl) (by kernel_rfl) (by kernel_rfl) (by exact fun _ _ _ h => h) (Or.inl ⟨by rfl, ?hya3⟩) (by assumption) ?rea3
        case hya3 => (rintro w ⟨hA1, hA2, hA3⟩; go_simp <;> with_reducible rfl)
        try simp only [Act.put, List.setIfInBounds_toArray, List.set_cons_zero, List.set_cons_succ]
        refine wpAnyH_take (i := 4) (oi := _) (v := ?_) (by simp only [List.getElem?_toArray, List.getElem?_cons_succ, List.getElem?_cons_zero]; rfl) (by kernel_rfl) (by kernel_rfl) (by kernel_rfl) (by exact fun _ _ _ h => h) (Or.inl ⟨by rfl, ?hya4⟩) (by assumption) ?rea4
        case hya4 => (rintro w ⟨hA1, hA2, hA3⟩; go_simp <;> with_reducible rfl)
        try simp only [Act.put, List.setIfInBounds_toArray, List.set_cons_zero, List.set_cons_succ]
        refine wpAnyH_take (i := 5) (oi := _) (v := ?_) (by simp only [List.getElem?_toArray, List.getElem?_cons_succ, List.getElem?_cons_zero]; rfl) (by kernel_rfl) (by kernel_rfl) (by kernel_rfl) (by exact fun _ _ _ h => h) (Or.inl ⟨by rfl, ?hya5⟩) (by assumption) ?rea5
        case hya5 => (rintro w ⟨hA1, hA2, hA3⟩; go_simp <;> with_reducible rfl)
        try simp only [Act.put, List.setIfInBounds_toArray, List.set_cons_zero, List.set_cons_succ]
        refine wpAnyH_take (i := 6) (oi := _) (v := ?_) (by simp only [List.getElem?_toArray, List.getElem?_cons_succ, List.getElem?_cons_zero]; rfl) (by kernel_rfl) (by kernel_rfl) (by kernel_rfl) (by exact fun _ _ _ h => h) (Or.inl ⟨by rfl, ?hya6⟩) (by assumption) ?rea6
        case hya6 => (rintro w ⟨hA1, hA2, hA3⟩; go_simp <;> with_reducible rfl)
        try simp only [Act.put, List.setIfInBounds_toArray, List.set_cons_zero, List.set_cons_succ]
        refine wpAnyH_take (i := 7) (oi := _) (v := _) (by simp only [List.getElem?_toArray, List.getElem?_cons_succ, List.getElem?_cons_zero]; rfl) (by kernel_rfl) (by kernel_rfl) (by kernel_rfl) (by exact fun _ _ _ h => h) (yieldsIf_load_mid (by rfl) 79 _ rfl g 1 rfl (f p.2) _ (fun w' h => h.2.2) Try.underlying79 rfl hi63) (by assumption) ?_
        try simp only [Act.put, List.setIfInBounds_toArray, List.set_cons_zero, List.set_cons_succ]
        refine wpAnyH_take (i := 8) (oi := _) (v := ?_) (by simp only [List.getElem?_toArray, List.getElem?_cons_succ, List.getElem?_cons_zero]; rfl) (by kernel_rfl) (by kernel_rfl) (by kernel_rfl) (by exact fun _ _ _ h => h) (Or.inl ⟨by rfl, ?hya8⟩) (by assumption) ?rea8
        case hya8 => (rintro w ⟨hA1, hA2, hA3⟩; go_simp <;> with_reducible rfl)
        try simp only [Act.put, List.setIfInBounds_toArray, List.set_cons_zero, List.set_cons_succ]
        refine wpAnyH_ready (rs := [9]) (by kernel_rfl) (by simp) ?_
        refine AllReadyH.cons (o := _) (by simp only [List.getElem?_toArray, List.getElem?_cons_succ, List.getElem?_cons_zero]; rfl) (fun K hK => ?_) AllReadyH.nil
        rw [if_pos (by rfl)]
        refine wp_store_mid 79 _ _ rfl bs (p.1 * 65) (f p.2).toArray rfl rfl (by simpa [hl65'.out] using hth) (by rw [size63]; simp [hl65'.out]) (all_oneCell_toArray h1'.out) ?_
        simp only [Act.put]
        refine hK.out _ _ Key.out (fun hHeld2 => ?_)
        clear hK K hHeld
        refine wpAnyH_done (by kernel_rfl) ?_ _
        clear hHeld2 hb1 hc0 hr0 hth hp0 hpn hi63
        generalize w1.drew.setCells bs (p.1 * 65) (f p.2) = w2 at *
        go_wp2
        go_roundw
        case rel => exact ⟨j + 1, by omega, by go_num, HKb.out, Hfin.out⟩
        case measure => simp [intOf]; omega
    · obtain rfl : j = m := by omega
      clear hj hlt h2
      have h2 : wr.cell? ⟨b, 2, none⟩ = some (.slice (some ⟨bu, 0, none⟩) j cu) := by
        have := HM.out.unC
        rw [← Hmm.out] at this
        exact this
      go_wp2
      go_loopw [39] (fun i wq => ∃ (i' : Nat) (N : List α), i' ≤ j ∧ i = .int .i64 (i' : Int) ∧ Kept (foot b bn bs (.slice (some ⟨bu, 0, none⟩) k.un.length cu)) w wq ∧ Mem f wq b bn bs cn cs (.slice (some ⟨bu, 0, none⟩) k.un.length cu) N (safeTo k there j) k.un k.dead k.cut k.left k.done ∧ Back k (safeTo k there j) N i') (fun i _ => j - (intOf i).toNat)
      case atStart => exact ⟨0, k.now, Nat.zero_le _, rfl, HK.out, HM.out, Back.start _ _⟩
      case round =>
        clear HM HK h2
        obtain ⟨i, N, hi, rfl, hK, hM, hB⟩ := hrel
        have HK := Lib.hid hK
        have HM := Lib.hid hM
        have HB := Lib.hid hB
        clear hK hM hB
        by_cases hlt : i < j
        · have hlt' : i < k.un.length := by rw [← Hmm.out]; exact hlt
          obtain ⟨p, hp⟩ : ∃ p, k.un[i]? = some p := ⟨_, List.getElem?_eq_getElem hlt'⟩
          have hr : wr.rangeAt bu (i * 66) (ent f p) := by
            exact HM.out.unR.range (by rw [List.getElem?_map, hp]; rfl)
          have hps : p.1 < (safeTo k there j).length := by
            rw [safeTo_length]
            exact Hm.out.idx p (List.mem_iff_getElem?.2 ⟨i, hp⟩)
          obtain ⟨c, hcc⟩ : ∃ c, (safeTo k there j)[p.1]? = some c := ⟨_, List.getElem?_eq_getElem hps⟩
          have Hp := Lib.hid hp
          have Hcc := Lib.hid hcc
          clear hp hlt' hcc
          have hEl := ent_len Hf.out p
          have HE1 := Lib.hid (ent_one Hf.out p)
          have hst : ∀ (c0 : Array Value), c0.size = 66 → (storeCells ⟨wr.heap.size, 0, none⟩ (ent f p) 0).run Try.prog (wr.alloc (.cells c0 95)) = .ok () (wr.alloc (.cells (ent f p).toArray 95)) := fun c0 h0 => by
            simpa using run_storeCells_new (P := Try.prog) wr 95 c0 (ent f p).toArray (by rw [size65]; simp [hEl]) (by simp [hEl, h0]) (all_oneCell_toArray HE1.out)
          have hz65 := zeroV65
          have hzl := lenz65
          have hMa : Mem f (wr.alloc (.cells (ent f p).toArray 95)) b bn bs cn cs (.slice (some ⟨bu, 0, none⟩) k.un.length cu) N (safeTo k there j) k.un k.dead k.cut k.left k.done := HM.out.alloc _
          have hKa : Kept (foot b bn bs (.slice (some ⟨bu, 0, none⟩) k.un.length cu)) w (wr.alloc (.cells (ent f p).toArray 95)) := HK.out.trans (Kept.of_below (S := foot b bn bs (.slice (some ⟨bu, 0, none⟩) k.un.length cu)) ((Below.refl _ wr).alloc (Nat.le_refl _) _)) fun i hi => .inl hi
          have HMa := Lib.hid hMa
          have HKa := Lib.hid hKa
          clear hMa hKa
          go_wp2_with (refine wpList_load_mid rfl 95 (.tmp 41) rfl bu (i * 66) rfl (ent f p) _ hr Try.underlying95 rfl (by rw [size65, hEl]) ?_)
          have hc0 := ent_cell (f := f) wr p
          obtain ⟨nn, hnn⟩ : ∃ nn, nn = (safeTo k there j).length := ⟨_, rfl⟩
          have hb0 := HMa.out.nowC
          have hb1 := HMa.out.safeC
          have hth : (wr.alloc (.cells (ent f p).toArray 95)).there bn (p.1 * 65) 65 := HMa.out.nowR.there (by have := HMa.out.len; simp; omega)
          have hr1 : (wr.alloc (.cells (ent f p).toArray 95)).rangeAt bs (p.1 * 65) (f c) := (HMa.out.safeR.elem p.1 (f c) (by rw [List.getElem?_map, Hcc.out]; rfl)).2.2
          have hgs : wr.heap.size ≠ bn := by have := HM.out.nowR.lt; omega
          have hbb := HMa.out.b_bn
          have hsn := HMa.out.ne
          have hNl := HMa.out.len
          rw [hNl, ← hnn] at hb0
          rw [← hnn] at hb1 hps
          have hp0 : (0 : Int) ≤ (p.1 : Int) := by omega
          have hpn : (p.1 : Int) < (nn : Int) := by omega
          have Hnn := Lib.hid hnn
          have Hps := Lib.hid hps
          have HNl := Lib.hid hNl
          clear hnn hps hst hr hNl
          obtain ⟨g, hg⟩ : ∃ g, g = wr.heap.size := ⟨_, rfl⟩
          rw [← hg] at hc0 hgs
          generalize wr.alloc (.cells (ent f p).toArray 95) = w1 at *
          have hl65 := Hf.out.len c
          have h1 := Hf.out.one c
          have Key : Hid ((fun w' : World => w'.cell? ⟨b, 0, none⟩ = some (.slice (some ⟨bn, 0, none⟩) nn cn) ∧ w'.cell? ⟨b, 1, none⟩ = some (.slice (some ⟨bs, 0, none⟩) nn cs) ∧ w'.cell? ⟨g, 0, none⟩ = some (.int .i64 (p.1 : Int)) ∧ w'.rangeAt bs (p.1 * 65) (f c)) (w1.drew.setCells bn (p.1 * 65) (f c))) := ⟨(World.cell?_of_block (a := ⟨b, 0, none⟩) (setCells_other bn _ _ w1.drew b hbb)).trans hb0, (World.cell?_of_block (a := ⟨b, 1, none⟩) (setCells_other bn _ _ w1.drew b hbb)).trans hb1, (World.cell?_of_block (a := ⟨g, 0, none⟩) (setCells_other bn _ _ w1.drew g hgs)).trans hc0, range_of_block hr1 (setCells_other bn _ _ w1.drew bs hsn.symm)⟩
          have hfin : Mem f (w1.drew.setCells bn (p.1 * 65) (f c)) b bn bs cn cs (.slice (some ⟨bu, 0, none⟩) k.un.length cu) (N.set p.1 c) (safeTo k there j) k.un k.dead k.cut k.left k.done :=
            Mem.put (w := w1.drew) (HMa.out.keep fun _ _ => rfl) Hf.out (by rw [HNl.out, ← Hnn.out]; exact Hps.out) c
          have Hfin := Lib.hid hfin
          have HKb : Hid (Kept (foot b bn bs (.slice (some ⟨bu, 0, none⟩) k.un.length cu)) w (w1.drew.setCells bn (p.1 * 65) (f c))) := HKa.out.drew.trans (Kept.of_grown (S := foot b bn bs (.slice (some ⟨bu, 0, none⟩) k.un.length cu)) (setCells_grown w1.drew bn _ _) (by rintro _ h; injection h with h; exact .inr (.inl h.symm))) fun i hi => .inl hi
          have hl65' := Lib.hid hl65
          have h1' := Lib.hid h1
          have hi63 : (Try.prog.info? 79).map (·.size) = some (f c).length := by rw [size63, hl65]
          clear hl65 h1 hfin hgs hbb hsn
          rw [← hg]
          clear hg
          refine wp_region_held_drew (S := fun w' => w'.cell? ⟨b, 0, none⟩ = some (.slice (some ⟨bn, 0, none⟩) nn cn) ∧ w'.cell? ⟨b, 1, none⟩ = some (.slice (some ⟨bs, 0, none⟩) nn cs) ∧ w'.cell? ⟨g, 0, none⟩ = some (.int .i64 (p.1 : Int)) ∧ w'.rangeAt bs (p.1 * 65) (f c)) (by kernel_rfl) ⟨hb0, hb1, hc0, hr1⟩ (fun hHeld => ?_)
          refine wpAnyH_take (i := 0) (oi := _) (v := ?_) (by simp only [List.getElem?_toArray, List.getElem?_cons_zero]; rfl) (by kernel_rfl) (by kernel_rfl) (by kernel_rfl) (by exact fun _ _ _ h => h) (Or.inl ⟨by rfl, ?hyb0⟩) (by assumption) ?reb0
          case hyb0 => (rintro w ⟨hA1, hA2, hA3, hA4⟩; go_simp <;> with_reducible rfl)
          try simp only [Act.put, List.setIfInBounds_toArray, List.set_cons_zero, List.set_cons_succ]
          refine wpAnyH_take (i := 1) (oi := _) (v := ?_) (by simp only [List.getElem?_toArray, List.getElem?_cons_succ, List.getElem?_cons_zero]; rfl) (by kernel_rfl) (by kernel_rfl) (by kernel_rfl) (by exact fun _ _ _ h => h) (Or.inl ⟨by rfl, ?hyb1⟩) (by assumption) ?reb1
          case hyb1 => (rintro w ⟨hA1, hA2, hA3, hA4⟩; go_simp <;> with_reducible rfl)
          try simp only [Act.put, List.setIfInBounds_toArray, List.set_cons_zero, List.set_cons_succ]
          refine wpAnyH_take (i := 2) (oi := _) (v := ?_) (by simp only [List.getElem?_toArray, List.getElem?_cons_succ, List.getElem?_cons_zero]; rfl) (by kernel_rfl) (by kernel_rfl) (by kernel_rfl) (by exact fun _ _ _ h => h) (Or.inl ⟨by rfl, ?hyb2⟩) (by assumption) ?reb2
          case hyb2 => (rintro w ⟨hA1, hA2, hA3, hA4⟩; go_simp <;> with_reducible rfl)
          try simp only [Act.put, List.setIfInBounds_toArray, List.set_cons_zero, List.set_cons_succ]
          refine wpAnyH_take (i := 3) (oi := _) (v := ?_) (by simp only [List.getElem?_toArray, List.getElem?_cons_succ, List.getElem?_cons_zero]; rfl) (by kernel_rfl) (by kernel_rfl) (by kernel_rfl) (by exact fun _ _ _ h => h) (Or.inl ⟨by rfl, ?hyb3⟩) (by assumption) ?reb3
          case hyb3 => (rintro w ⟨hA1, hA2, hA3, hA4⟩; go_simp <;> with_reducible rfl)
          try simp only [Act.put, List.setIfInBounds_toArray, List.set_cons_zero, List.set_cons_succ]
          refine wpAnyH_take (i := 4) (oi := _) (v := ?_) (by simp only [List.getElem?_toArray, List.getElem?_cons_succ, List.getElem?_cons_zero]; rfl) (by kernel_rfl) (by kernel_rfl) (by kernel_rfl) (by exact fun _ _ _ h => h) (Or.inl ⟨by rfl, ?hyb4⟩) (by assumption) ?reb4
          case hyb4 => (rintro w ⟨hA1, hA2, hA3, hA4⟩; go_simp <;> with_reducible rfl)
          try simp only [Act.put, List.setIfInBounds_toArray, List.set_cons_zero, List.set_cons_succ]
          refine wpAnyH_take (i := 5) (oi := _) (v := ?_) (by simp only [List.getElem?_toArray, List.getElem?_cons_succ, List.getElem?_cons_zero]; rfl) (by kernel_rfl) (by kernel_rfl) (by kernel_rfl) (by exact fun _ _ _ h => h) (Or.inl ⟨by rfl, ?hyb5⟩) (by assumption) ?reb5
          case hyb5 => (rintro w ⟨hA1, hA2, hA3, hA4⟩; go_simp <;> with_reducible rfl)
          try simp only [Act.put, List.setIfInBounds_toArray, List.set_cons_zero, List.set_cons_succ]
          refine wpAnyH_take (i := 6) (oi := _) (v := ?_) (by simp only [List.getElem?_toArray, List.getElem?_cons_succ, List.getElem?_cons_zero]; rfl) (by kernel_rfl) (by kernel_rfl) (by kernel_rfl) (by exact fun _ _ _ h => h) (Or.inl ⟨by rfl, ?hyb6⟩) (by assumption) ?reb6
          case hyb6 => (rintro w ⟨hA1, hA2, hA3, hA4⟩; go_simp <;> with_reducible rfl)
          try simp only [Act.put, List.setIfInBounds_toArray, List.set_cons_zero, List.set_cons_succ]
          refine wpAnyH_take (i := 7) (oi := _) (v := ?_) (by simp only [List.getElem?_toArray, List.getElem?_cons_succ, List.getElem?_cons_zero]; rfl) (by kernel_rfl) (by kernel_rfl) (by kernel_rfl) (by exact fun _ _ _ h => h) (Or.inl ⟨by rfl, ?hyb7⟩) (by assumption) ?reb7
          case hyb7 => (rintro w ⟨hA1, hA2, hA3, hA4⟩; go_simp <;> with_reducible rfl)
          try simp only [Act.put, List.setIfInBounds_toArray, List.set_cons_zero, List.set_cons_succ]
          refine wpAnyH_take (i := 8) (oi := _) (v := ?_) (by simp only [List.getElem?_toArray, List.getElem?_cons_succ, List.getElem?_cons_zero]; rfl) (by kernel_rfl) (by kernel_rfl) (by kernel_rfl) (by exact fun _ _ _ h => h) (Or.inl ⟨by rfl, ?hyb8⟩) (by assumption) ?reb8
          case hyb8 => (rintro w ⟨hA1, hA2, hA3, hA4⟩; go_simp <;> with_reducible rfl)
          try simp only [Act.put, List.setIfInBounds_toArray, List.set_cons_zero, List.set_cons_succ]
          refine wpAnyH_take (i := 9) (oi := _) (v := ?_) (by simp only [List.getElem?_toArray, List.getElem?_cons_succ, List.getElem?_cons_zero]; rfl) (by kernel_rfl) (by kernel_rfl) (by kernel_rfl) (by exact fun _ _ _ h => h) (Or.inl ⟨by rfl, ?hyb9⟩) (by assumption) ?reb9
          case hyb9 => (rintro w ⟨hA1, hA2, hA3, hA4⟩; go_simp <;> with_reducible rfl)
          try simp only [Act.put, List.setIfInBounds_toArray, List.set_cons_zero, List.set_cons_succ]
          refine wpAnyH_take (i := 10) (oi := _) (v := ?_) (by simp only [List.getElem?_toArray, List.getElem?_cons_succ, List.getElem?_cons_zero]; rfl) (by kernel_rfl) (by kernel_rfl) (by kernel_rfl) (by exact fun _ _ _ h => h) (Or.inl ⟨by rfl, ?hyb10⟩) (by assumption) ?reb10
          case hyb10 => (rintro w ⟨hA1, hA2, hA3, hA4⟩; go_simp <;> with_reducible rfl)
          try simp only [Act.put, List.setIfInBounds_toArray, List.set_cons_zero, List.set_cons_succ]
          refine wpAnyH_take (i := 11) (oi := _) (v := ?_) (by simp only [List.getElem?_toArray, List.getElem?_cons_succ, List.getElem?_cons_zero]; rfl) (by kernel_rfl) (by kernel_rfl) (by kernel_rfl) (by exact fun _ _ _ h => h) (Or.inl ⟨by rfl, ?hyb11⟩) (by assumption) ?reb11
          case hyb11 => (rintro w ⟨hA1, hA2, hA3, hA4⟩; go_simp <;> with_reducible rfl)
          try simp only [Act.put, List.setIfInBounds_toArray, List.set_cons_zero, List.set_cons_succ]
          refine wpAnyH_take (i := 12) (oi := _) (v := ?_) (by simp only [List.getElem?_toArray, List.getElem?_cons_succ, List.getElem?_cons_zero]; rfl) (by kernel_rfl) (by kernel_rfl) (by kernel_rfl) (by exact fun _ _ _ h => h) (Or.inl ⟨by rfl, ?hyb12⟩) (by assumption) ?reb12
          case hyb12 => (rintro w ⟨hA1, hA2, hA3, hA4⟩; go_simp <;> with_reducible rfl)
          try simp only [Act.put, List.setIfInBounds_toArray, List.set_cons_zero, List.set_cons_succ]
          refine wpAnyH_take (i := 13) (oi := _) (v := _) (by simp only [List.getElem?_toArray, List.getElem?_cons_succ, List.getElem?_cons_zero]; rfl) (by kernel_rfl) (by kernel_rfl) (by kernel_rfl) (by exact fun _ _ _ h => h) (yieldsIf_load_mid (by rfl) 79 _ rfl bs (p.1 * 65) rfl (f c) _ (fun w' h => h.2.2.2) Try.underlying79 rfl hi63) (by assumption) ?_
          try simp only [Act.put, List.setIfInBounds_toArray, List.set_cons_zero, List.set_cons_succ]
          refine wpAnyH_take (i := 14) (oi := _) (v := ?_) (by simp only [List.getElem?_toArray, List.getElem?_cons_succ, List.getElem?_cons_zero]; rfl) (by kernel_rfl) (by kernel_rfl) (by kernel_rfl) (by exact fun _ _ _ h => h) (Or.inl ⟨by rfl, ?hyb14⟩) (by assumption) ?reb14
          case hyb14 => (rintro w ⟨hA1, hA2, hA3, hA4⟩; go_simp <;> with_reducible rfl)
          try simp only [Act.put, List.setIfInBounds_toArray, List.set_cons_zero, List.set_cons_succ]
          refine wpAnyH_ready (rs := [15]) (by kernel_rfl) (by simp) ?_
          refine AllReadyH.cons (o := _) (by simp only [List.getElem?_toArray, List.getElem?_cons_succ, List.getElem?_cons_zero]; rfl) (fun K hK => ?_) AllReadyH.nil
          rw [if_pos (by rfl)]
          refine wp_store_mid 79 _ _ rfl bn (p.1 * 65) (f c).toArray rfl rfl (by simpa [hl65'.out] using hth) (by rw [size63]; simp [hl65'.out]) (all_oneCell_toArray h1'.out) ?_
          simp only [Act.put]
          refine hK.out _ _ Key.out (fun hHeld2 => ?_)
          clear hK K hHeld
          refine wpAnyH_done (by kernel_rfl) ?_ _
          clear hHeld2 hb0 hb1 hc0 hr1 hth hp0 hpn hi63
          generalize w1.drew.setCells bn (p.1 * 65) (f c) = w2 at *
          go_wp2
          go_roundw
          case rel => exact ⟨i + 1, N.set p.1 c, by omega, by go_num, HKb.out, Hfin.out, HB.out.step Hp.out Hcc.out HNl.out⟩
          case measure => simp [intOf]; omega
        · obtain rfl : i = j := by omega
          have hb2 := HM.out.unC
          have hf2 := HM.out.blk.frozen 2
          have hN : N = safeTo k there i := by
            have h1 := HB.out
            have h2 := Hmm.out
            rw [h2] at h1 ⊢
            exact h1.all
          have hfin : MemK f (wr.setCell ⟨b, 2, none⟩ (.slice none 0 0)) b bn bs cn cs (.slice none 0 0) (k.settle there) := by
            have h1 := HM.out.drop
            rw [hN, Hmm.out, safeTo_all] at h1
            exact h1
          have Hfin := Lib.hid hfin
          clear hfin hN
          go_wp2
          go_end0
          exact ⟨rfl, HK.out.trans (Kept.of_grown (row := some b) (S := foot b bn bs (.slice (some ⟨bu, 0, none⟩) k.un.length cu)) (only_set (World.grownBy.refl wr _) 2 _) (by rintro _ h; injection h with h; exact .inl h.symm)) (fun i hi => .inl hi), Hfin.out⟩
set_option maxHeartbeats 400000 in
theorem settle_none (w : World) (b bn bs cn cs : Nat) (k : Dk α) (there : Nat) (hm : MemK f w b bn bs cn cs (.slice none 0 0) k) (hu : k.un = []) :
    Calls Try.prog 35 #[.pointer (some ⟨b, 0, none⟩), .int .u64 (there : Int)] w fun e w' => e = .returned (.tuple #[]) ∧ Kept (foot b bn bs (.slice none 0 0)) w w' ∧ MemK f w' b bn bs cn cs (.slice none 0 0) (k.settle there) := by
  have h2 := hm.unC
  have f2 := hm.blk.frozen 2
  have hfin : MemK f (w.setCell ⟨b, 2, none⟩ (.slice none 0 0)) b bn bs cn cs (.slice none 0 0) (k.settle there) := by
    have h1 := hm.drop
    have e1 : k.now = k.safe := by simp [Dk.now, hu, puts]
    have e2 : (k.settle there).safe = k.safe := by simp [Dk.settle, hu, kept, puts]
    have e3 : (k.settle there).now = k.safe := by simp [Dk.now, Dk.settle, hu, kept, puts]
    unfold MemK
    rw [e2, e3, ← e1]
    rw [← e1] at h1
    exact h1
  have Hfin := Lib.hid hfin
  clear hfin hm hu
  go_enter Try.func35, Try.ntmps35
  go_wp2
  go_loopw [13] (fun i wr => i = .int .i64 0 ∧ wr = w) (fun _ _ => 0)
  case atStart => exact ⟨rfl, rfl⟩
  case round =>
    obtain ⟨rfl, rfl⟩ := hrel
    go_wp2
    go_loopw [39] (fun i wq => i = .int .i64 0 ∧ wq = wr) (fun _ _ => 0)
    case atStart => exact ⟨rfl, rfl⟩
    case round =>
      obtain ⟨rfl, rfl⟩ := hrel
      go_wp2
      go_end0
      exact ⟨rfl, Kept.of_grown (row := some b) (only_set (World.grownBy.refl _ _) 2 _) (by rintro _ h; injection h with h; exact .inl h.symm), Hfin.out⟩

theorem settle_mem (hf : Enc f) (w : World) (b bn bs cn cs : Nat) (vu : Value) (k : Dk α) (there : Nat) (ht : there < 18446744073709551616) (hun : k.un.length ≤ 1073741824) (hm : MemK f w b bn bs cn cs vu k) :
    Calls Try.prog 35 #[.pointer (some ⟨b, 0, none⟩), .int .u64 (there : Int)] w fun e w' => e = .returned (.tuple #[]) ∧ Kept (foot b bn bs vu) w w' ∧ MemK f w' b bn bs cn cs (.slice none 0 0) (k.settle there) := by
  rcases hm.unR with ⟨rfl, h⟩ | ⟨bu, cu, rfl, h⟩
  · exact settle_none w b bn bs cn cs k there hm (by simpa using h)
  · rw [List.length_map] at hm ⊢
    exact settle_some hf w b bn bs cn cs bu cu k there ht hun hm

theorem kept_all (i : Nat) (l : List (Nat × α)) : kept 18446744073709551615 i l = l := by
  induction l generalizing i with
  | nil => rfl
  | cons p l ih =>
    have : (18446744073709551615 : Nat).testBit (i % 64) = true := by
      rw [show (18446744073709551615 : Nat) = 2 ^ 64 - 1 from rfl, Nat.testBit_two_pow_sub_one]
      simp
      omega
    simp only [kept, this, if_true, ih]

theorem foot_nil {b bn bs : Nat} {vu : Value} {i : Nat} (h : foot b bn bs (.slice none 0 0) i) : foot b bn bs vu i := by
  rcases h with h | h | h | h
  · exact .inl h
  · exact .inr (.inl h)
  · exact .inr (.inr (.inl h))
  · cases h

theorem flush_any (hf : Enc f) (w : World) (S : Nat → Prop) (b : Nat) (k : Dk α) (h : IsDisk f w S b k) (hun : k.un.length ≤ 1073741824) :
    Calls Try.prog 46 #[.pointer (some ⟨b, 0, none⟩)] w fun e w' => e = .returned (.int .i64 (if k.off then 6 else 0)) ∧ Turned f S w w' b k.flush := by
  obtain ⟨bn, bs, cn, cs, vu, rfl, hm⟩ := h
  have Hm := Lib.hid hm
  clear hm
  cases hoff : k.off
  · have Hoff := Lib.hid hoff
    have hr : Hid (k.flush = k.op.settle 18446744073709551615) := by
      unfold Hid Dk.flush Dk.settle
      rw [hoff, if_neg (by decide), kept_all]
      simp [Dk.now, Dk.op_safe, Dk.op_un]
    rw [hr.out]
    clear hoff hr
    go_enter Try.func46, Try.ntmps46
    go_wp2_with (first
      | (go_at_call 55; refine (op_on _ _ _ _ _ _ _ _ Hm.out Hoff.out).mono ?_; rintro e w1 ⟨rfl, hg, hop⟩; replace hop := Lib.hid hop; replace hg := Lib.hid hg)
      | (go_at_call 35; refine (settle_mem hf _ _ _ _ _ _ _ _ 18446744073709551615 (by decide) (by rw [Dk.op_un]; exact hun) hop.out).mono ?_; rintro e w2 ⟨rfl, hK, hM⟩; replace hK := Lib.hid hK; replace hM := Lib.hid hM))
    go_ret
    exact ⟨rfl, (Kept.of_grown (S := foot b bn bs vu) hg.out (by rintro _ h; injection h with h; exact .inl h.symm)).trans hK.out (fun i hi => .inl hi), _, ⟨bn, bs, cn, cs, _, rfl, hM.out⟩, fun i hi => .inl (foot_nil hi)⟩
  · have Hoff := Lib.hid hoff
    have hr : Hid (k.flush = k.op) := by
      unfold Hid Dk.flush
      rw [hoff, if_pos rfl]
    rw [hr.out]
    clear hoff hr
    go_enter Try.func46, Try.ntmps46
    go_wp2_with (go_at_call 55; refine (op_off _ _ _ _ _ _ _ _ Hm.out Hoff.out).mono ?_; rintro e w1 ⟨rfl, hg, hop⟩; replace hop := Lib.hid hop; replace hg := Lib.hid hg)
    go_ret
    exact ⟨rfl, Kept.of_grown (S := foot b bn bs vu) hg.out (by rintro _ h; injection h with h; exact .inl h.symm), _, ⟨bn, bs, cn, cs, _, rfl, hop.out⟩, fun i hi => .inl hi⟩

theorem flush_nil (w : World) :
    Calls Try.prog 46 #[.pointer none] w fun e w' => e = .returned (.int .i64 2) ∧ w = w' := by
  go_enter Try.func46, Try.ntmps46
  go_wp2
  go_ret
  exact ⟨rfl, rfl⟩

theorem crash_any (hf : Enc f) (w : World) (S : Nat → Prop) (b : Nat) (k : Dk α) (h : IsDisk f w S b k) (hun : k.un.length ≤ 1073741824) (there : Nat) (ht : there < 18446744073709551616) :
    Calls Try.prog 22 #[.pointer (some ⟨b, 0, none⟩), .int .u64 (there : Int)] w fun e w' => e = .returned (.tuple #[]) ∧ Turned f S w w' b (k.crash there) := by
  obtain ⟨bn, bs, cn, cs, vu, rfl, hm⟩ := h
  have Hm := Lib.hid hm
  clear hm
  go_enter Try.func22, Try.ntmps22
  go_wp2_with (go_at_call 35; refine (settle_mem hf _ _ _ _ _ _ _ _ there ht hun Hm.out).mono ?_; rintro e w2 ⟨rfl, hK, hM⟩; have h3 := hM.deadC; have h4 := hM.cutC; have f3 := hM.blk.frozen 3; have f4 := hM.blk.frozen 4; replace hK := Lib.hid hK; replace hM := Lib.hid hM)
  go_end0
  have hM2 := hM.out.own (only_set (only_set (World.grownBy.refl w2 (some b)) 3 (.bool false)) 4 (.bool false)) ((hM.out.blk.set 3 (.bool false)).set 4 (.bool false))
  exact ⟨rfl, hK.out.trans (Kept.of_grown (row := some b) (S := foot b bn bs vu) (only_set (only_set (World.grownBy.refl w2 _) 3 _) 4 _) (by rintro _ h; injection h with h; exact .inl h.symm)) (fun i hi => .inl hi), _, ⟨bn, bs, cn, cs, _, rfl, hM2⟩, fun i hi => .inl (foot_nil hi)⟩

theorem crash_nil (w : World) (t : Int) :
    Calls Try.prog 22 #[.pointer none, .int .u64 t] w fun e w' => e = .returned (.tuple #[]) ∧ w = w' := by
  go_enter Try.func22, Try.ntmps22
  go_wp2
  refine bodyPost_ret (results_none rfl _ _ _) rfl ?_
  exact ⟨rfl, rfl⟩

theorem cut_nil (w : World) (t : Int) :
    Calls Try.prog 21 #[.pointer none, .int .i64 t] w fun e w' => e = .returned (.tuple #[]) ∧ w = w' := by
  go_enter Try.func21, Try.ntmps21
  go_wp2
  refine bodyPost_ret (results_none rfl _ _ _) rfl ?_
  exact ⟨rfl, rfl⟩

end

end Go.Proofs.Ytnkpmmijdkcdjaa
