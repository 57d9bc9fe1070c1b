/-
  What is known, changed, on paper; its sectors as patches, and what a journal makes of them.
-/
import Derived.Test.YtaflpigpeckhoaaGreatQMetaU
import Derived.Test.YtaflpigpeckhoaaGreatQJrnB
import Derived.Test.YtaflpigpeckhoaaGreatQTopA
import Derived.Test.YtaflpigpeckhoaaGreatQMetaX8
import Derived.Test.YtaflpigpeckhoaaGreatQSuper
import Derived.Deep.QuietTactic
import Derived.Test.YtaflpigpeckhoaaGreatQMetaB
namespace Go.Proofs.YtaflpigpeckhoaaGreat.Top
open Go.RowKit Meta Jrn

/-- One change: a group's owner, a block, an inode and its size. -/
structure Kn where
  o : Nat
  b : Nat
  i : Nat
  s : Nat
structure Kn.Ok (x : Kn) : Prop where
  o : x.o < 256
  b : x.b < 65536
  i : x.i < 256
  s : x.s < 65536
def G0 : Geo := ⟨30, 12, 6, 8⟩
def ow (m : Meta.Met) (x : Kn) : List Int := m.own.set (x.o % 6) ((m.own.getD (x.o % 6) 0 + 1) % 17)
def us (m : Meta.Met) (x : Kn) : List UInt8 := m.used.set (x.b % 48 / 8) (m.used.getD (x.b % 48 / 8) 0 ^^^ UInt8.ofNat (2 ^ (x.b % 48 % 8)))
def ino (x : Kn) : Inode.Ino := ⟨1, 0, 0, ((x.s % 3840 : Nat) : Int), [0, 0, 0, 0, 0, 0, 0, 0, 0, 0]⟩
def step (m : Meta.Met) (x : Kn) : Meta.Met := ⟨m.rows, ow m x, us m x, m.ino.set (x.i % 12) (ino x)⟩
def chg (m : Meta.Met) (l : List Kn) : Meta.Met := (l.take 20).foldl step m
theorem valid0 : G0.Ok := by
  show Super.Valid 30 12 6 8
  exact ⟨by decide, by decide, by decide, by decide, by decide, by decide, by decide, by decide, by decide⟩
theorem ino_right (x : Kn) : Inode.Right (ino x) := .inr ⟨.inl rfl, by show 0 < 16; decide, by show (0 : Int) ≤ 0; decide, by show (0 : Int) ≤ 65535; decide, by show (0 : Int) ≤ ((x.s % 3840 : Nat) : Int); omega, by show ((x.s % 3840 : Nat) : Int) ≤ 3840; omega, by show [(0 : Int), 0, 0, 0, 0, 0, 0, 0, 0, 0].all Inode.ptrB = true; decide⟩
theorem ino_oki (x : Kn) : Inode.Oki (ino x) := ⟨rfl, by show 1 < 256; decide, by show 0 < 256; decide⟩
theorem step_right {m : Meta.Met} (h : Right G0 m) (x : Kn) : Right G0 (step m x) := by
  refine ⟨h.geo, h.rows, by show ((ow m x).length : Int) = 6; rw [ow, List.length_set]; exact h.olen, fun y hy => ?_, by show (us m x).length = 64; rw [us, List.length_set]; exact h.ulen, fun k h1 h2 => ?_, by show ((m.ino.set _ _).length : Int) = 12; rw [List.length_set]; exact h.ilen, fun y hy => ?_⟩
  · rcases List.mem_or_eq_of_mem_set hy with hy | hy
    · exact h.own y hy
    · rw [hy]; omega
  · rw [← h.used k h1 h2]
    have h1 : (6 : Int) * 8 ≤ k := h1
    show Bits.hb (us m x) k = Bits.hb m.used k
    unfold Bits.hb us
    rw [List.getD_eq_getElem?_getD, List.getElem?_set_ne (by omega), ← List.getD_eq_getElem?_getD]
  · rcases List.mem_or_eq_of_mem_set hy with hy | hy
    · exact h.ino y hy
    · rw [hy]; exact ino_right x
theorem step_okm {m : Meta.Met} (h : Okm m) (x : Kn) : Okm (step m x) :=
  ⟨h.rows, fun y hy => by
    rcases List.mem_or_eq_of_mem_set hy with hy | hy
    · exact h.own y hy
    · rw [hy]; omega, fun y hy => by
    rcases List.mem_or_eq_of_mem_set hy with hy | hy
    · exact h.ino y hy
    · rw [hy]; exact ino_oki x⟩
theorem fold_right (l : List Kn) : ∀ {m : Meta.Met}, Right G0 m → Right G0 (l.foldl step m) := by
  induction l with
  | nil => exact fun h => h
  | cons x l ih => exact fun h => ih (step_right h x)
theorem fold_okm (l : List Kn) : ∀ {m : Meta.Met}, Okm m → Okm (l.foldl step m) := by
  induction l with
  | nil => exact fun h => h
  | cons x l ih => exact fun h => ih (step_okm h x)
theorem chg_right {m : Meta.Met} (h : Right G0 m) (l : List Kn) : Right G0 (chg m l) := fold_right _ h
theorem chg_okm {m : Meta.Met} (h : Okm m) (l : List Kn) : Okm (chg m l) := fold_okm _ h
def upto (m : Meta.Met) (l : List Kn) (a : Nat) : Meta.Met := (l.take a).foldl step m
theorem upto_succ {m : Meta.Met} {l : List Kn} {a : Nat} {x : Kn} (h : l[a]? = some x) : upto m l (a + 1) = step (upto m l a) x := by
  unfold upto
  rw [List.take_add_one, h, List.foldl_append]
  rfl
theorem upto_all {m : Meta.Met} {l : List Kn} {a : Nat} (h : l.length ≤ a) (h20 : a ≤ 20) : upto m l a = chg m l := by
  unfold upto chg
  rw [List.take_of_length_le h, List.take_of_length_le (by omega)]
theorem upto_20 (m : Meta.Met) (l : List Kn) : upto m l 20 = chg m l := rfl

/-- A sector as it is patched in. -/
def sxOf (b : List UInt8) : Sx := if h : b.length = 64 then ⟨b, 0, h, by decide⟩ else zx
theorem sxOf_b {b : List UInt8} (h : b.length = 64) : (sxOf b).b = b := by unfold sxOf; rw [dif_pos h]
theorem sxOf_t (b : List UInt8) : (sxOf b).t = 0 := by unfold sxOf; split <;> rfl
def pats (m : Meta.Met) : List (Nat × Sx) := placed 31 ((secs m).map sxOf)
theorem plc0 : Plc 1 30 88 := ⟨by decide, by decide, by decide⟩
theorem secs_nine {m : Meta.Met} (h : Right G0 m) : (secs m).length = 9 := by
  have := length_secs h
  have h2 : (3 : Int) + G0.i / 2 = 9 := by decide
  omega
theorem pats_len {m : Meta.Met} (h : Right G0 m) : (pats m).length = 9 := by rw [pats, length_placed, List.length_map, secs_nine h]
theorem pats_vals {m : Meta.Met} (h : Right G0 m) : Vals 1 30 88 (pats m) := fun p hp => by
  obtain ⟨h1, h2, _⟩ := placed_mem hp
  rw [List.length_map, secs_nine h] at h2
  exact ⟨.inr (by omega), by omega⟩
theorem pats_room {m : Meta.Met} (h : Right G0 m) : (stored (pats m)).length + 1 ≤ 30 := by
  rw [length_stored, pats_len h]
  decide
theorem pats_ok {m : Meta.Met} (h : Right G0 m) : refuseE 88 1 30 (ints (pats m)) = 0 := by
  have hl := pats_len h
  have hv := pats_vals h
  unfold refuseE
  rw [if_neg (by rw [ints, List.length_map, hl]; decide)]
  have : anyWrong 88 1 30 (ints (pats m)) = false := by
    rw [anyWrong, List.any_eq_false]
    intro p hp
    rw [ints, List.mem_map] at hp
    obtain ⟨p0, h0, rfl⟩ := hp
    obtain ⟨h1, h2⟩ := hv p0 h0
    rcases h1 with h1 | h1 <;> simp [takesB] <;> omega
  rw [this]
  rfl
/-- The disk's sectors that hold what is known. -/
def Has (S : Nat → Option Sx) (m : Meta.Met) : Prop := ∀ i : Nat, i < 9 → S (31 + i) = ((secs m).map sxOf)[i]?
theorem has_puts {S : List Sx} (hS : S.length = 88) {m : Meta.Met} (h : Right G0 m) : Has (vw 1 30 (puts S (pats m))) m := fun i hi => by
  rw [vw_out (.inr (by omega))]
  obtain ⟨x, hx⟩ : ∃ x, ((secs m).map sxOf)[i]? = some x := ⟨_, List.getElem?_eq_getElem (by rw [List.length_map, secs_nine h]; exact hi)⟩
  rw [hx]
  exact puts_placed _ 31 S (by rw [List.length_map, secs_nine h, hS]; decide) i x hx
end Go.Proofs.YtaflpigpeckhoaaGreat.Top

/-
  An empty disk; what is known as patches.
-/
namespace Go.Proofs.YtaflpigpeckhoaaGreat.Top
open Go.RowKit Meta Keep Pat

theorem plan0 (w : World) : Calls Tryz.prog 16 #[.agg #[.int .i64 30, .int .i64 12, .int .i64 6, .int .i64 8]] w fun e w' => e = .returned (.tuple #[.agg #[.int .i64 1, .int .i64 31, .int .i64 32, .int .i64 33, .int .i64 34, .int .i64 40, .int .i64 88], .int .i64 0]) ∧ Below w.heap.size w w' := Super.plan_yes valid0 w
theorem new88 (w : World) : Calls Tryz.prog 17 #[.int .i64 88] w fun e w' => ∃ b S, e = .returned (.tuple #[.pointer (some ⟨b, 0, none⟩), .int .i64 0]) ∧ Below w.heap.size w w' ∧ IsDisk sx w' S b (Dk.fresh 88 zx) ∧ ∀ i, S i → w.heap.size ≤ i := new_any w 88 (by decide) zx sx_zero
theorem seven_cells {w : World} {g : Nat} {e : TypeId} {a0 a1 a2 a3 a4 a5 a6 : Value} (h : Bk w g e [a0, a1, a2, a3, a4, a5, a6]) : w.cell? ⟨g, 0, none⟩ = some a0 ∧ w.cell? ⟨g, 1, none⟩ = some a1 ∧ w.cell? ⟨g, 2, none⟩ = some a2 ∧ w.cell? ⟨g, 3, none⟩ = some a3 ∧ w.cell? ⟨g, 4, none⟩ = some a4 ∧ w.cell? ⟨g, 5, none⟩ = some a5 ∧ w.cell? ⟨g, 6, none⟩ = some a6 :=
  ⟨h.cell 0, h.cell 1, h.cell 2, h.cell 3, h.cell 4, h.cell 5, h.cell 6⟩
set_option maxRecDepth 100000 in
set_option maxHeartbeats 6400000 in
theorem empty_any (w : World) : Calls Tryz.prog 4 #[.agg #[.int .i64 30, .int .i64 12, .int .i64 6, .int .i64 8]] w fun e w' => ∃ b S, e = .returned (.tuple #[.pointer (some ⟨b, 0, none⟩), .agg #[.int .i64 1, .int .i64 31, .int .i64 32, .int .i64 33, .int .i64 34, .int .i64 40, .int .i64 88], .bool true]) ∧ DO w.heap.size w' S b (Dk.fresh 88 zx) ∧ Below w.heap.size w w' := by
  obtain ⟨W, hW⟩ : ∃ W, W = (w.alloc (.cells #[.int .i64 30, .int .i64 12, .int .i64 6, .int .i64 8] 25)).alloc (.cells #[.int .i64 0, .int .i64 0, .int .i64 0, .int .i64 0, .int .i64 0, .int .i64 0, .int .i64 0] 28) := ⟨_, rfl⟩
  have hbW : Below w.heap.size w W := by rw [hW]; exact (Below.refl _ _).alloc (Nat.le_refl _) _ |>.alloc (by simp) _
  have hG : Bk W w.heap.size 25 [.int .i64 30, .int .i64 12, .int .i64 6, .int .i64 8] := by rw [hW]; exact (Bk.new w 25 [.int .i64 30, .int .i64 12, .int .i64 6, .int .i64 8]).below (al_below _ _) (by simp)
  have hR : Bk W (w.heap.size + 1) 28 [.int .i64 0, .int .i64 0, .int .i64 0, .int .i64 0, .int .i64 0, .int .i64 0, .int .i64 0] := by
    rw [hW]
    have := Bk.new (w.alloc (.cells #[.int .i64 30, .int .i64 12, .int .i64 6, .int .i64 8] 25)) 28 [.int .i64 0, .int .i64 0, .int .i64 0, .int .i64 0, .int .i64 0, .int .i64 0, .int .i64 0]
    simpa using this
  have HG := Lib.hid hG
  have HR := Lib.hid hR
  have HB := Lib.hid hbW
  have HBW := Lib.hid (Below.refl W.heap.size W)
  have HSZ : Hid (W.heap.size = w.heap.size + 2) := Lib.hid (by rw [hW]; simp)
  obtain ⟨g0, g1, g2, g3⟩ := four_cells hG
  have hltg := hG.lt
  clear hbW hG hR
  go_enter Tryz.func4, Tryz.ntmps4
  go_upto_region 1 with fail
  rw [← hW]
  clear hW
  go_upto_region 2 with (go_at_call 16; (with_reducible refine (plan0 _).mono ?_); rintro e w1 ⟨he, hb⟩; obtain rfl := he; replace HBW := Lib.hid (HBW.out.trans (hb.mono HBW.out.size)); replace HG := Lib.hid (HG.out.below hb HG.out.lt); replace HR := Lib.hid (HR.out.below hb HR.out.lt); have HZ1 := Lib.hid hb.size; clear g0 g1 g2 g3 hltg hb; obtain ⟨g0, g1, g2, g3⟩ := four_cells HG.out; have hltg := HG.out.lt)
  have hal := al_below w1 (.cells #[.int .i64 1, .int .i64 31, .int .i64 32, .int .i64 33, .int .i64 34, .int .i64 40, .int .i64 88] 28)
  replace HBW := Lib.hid (HBW.out.trans (hal.mono HBW.out.size))
  replace HG := Lib.hid (HG.out.below hal HG.out.lt)
  replace HR := Lib.hid (HR.out.below hal HR.out.lt)
  have HL := Lib.hid (Bk.new w1 28 [.int .i64 1, .int .i64 31, .int .i64 32, .int .i64 33, .int .i64 34, .int .i64 40, .int .i64 88])
  have HI1 := Lib.hid HL.out.lt
  clear hal g0 g1 g2 g3 hltg
  generalize w1.alloc (.cells #[.int .i64 1, .int .i64 31, .int .i64 32, .int .i64 33, .int .i64 34, .int .i64 40, .int .i64 88] 28) = U1 at *
  obtain ⟨l0, l1, l2, l3, l4, l5, l6⟩ := seven_cells HL.out
  go_upto_region 3 with (go_at_call 17; (with_reducible refine (new88 _).mono ?_); rintro e w2 ⟨b, S, he, hb, hD, hlo⟩; obtain rfl := he; replace HBW := Lib.hid (HBW.out.trans (hb.mono HBW.out.size)); replace HG := Lib.hid (HG.out.below hb HG.out.lt); replace HR := Lib.hid (HR.out.below hb HR.out.lt); replace HL := Lib.hid (HL.out.below hb HL.out.lt); have HZ2 := Lib.hid hb.size; have HDK := Lib.hid hD; have HLO := Lib.hid hlo; clear hD hlo l0 l1 l2 l3 l4 l5 l6; clear hb)
  have hne : w.heap.size + 1 ≠ w1.heap.size := by
    have := HZ1.out
    have := HSZ.out
    omega
  obtain ⟨l0, l1, l2, l3, l4, l5, l6⟩ := seven_cells HL.out
  obtain ⟨r0, r1, r2, r3, r4, r5, r6⟩ := seven_cells HR.out
  have hltr := HR.out.lt
  have hltl := HL.out.lt
  have fz := fun j => HR.out.frozen j
  go_region
  have hR7 := ((((((HR.out.set 0 (.int .i64 1)).set 1 (.int .i64 31)).set 2 (.int .i64 32)).set 3 (.int .i64 33)).set 4 (.int .i64 34)).set 5 (.int .i64 40)).set 6 (.int .i64 88)
  simp only [List.set_cons_zero, List.set_cons_succ] at hR7
  have z1 := HZ1.out
  have z2 := HSZ.out
  have z3 := HI1.out
  have hS : Side U1.heap.size w2.heap.size w2 (w2.setCell ⟨w.heap.size + 1, 0, none⟩ (.int .i64 1) |>.setCell ⟨w.heap.size + 1, 1, none⟩ (.int .i64 31) |>.setCell ⟨w.heap.size + 1, 2, none⟩ (.int .i64 32) |>.setCell ⟨w.heap.size + 1, 3, none⟩ (.int .i64 33) |>.setCell ⟨w.heap.size + 1, 4, none⟩ (.int .i64 34) |>.setCell ⟨w.heap.size + 1, 5, none⟩ (.int .i64 40) |>.setCell ⟨w.heap.size + 1, 6, none⟩ (.int .i64 88)) := by
    repeat (refine Side.set ?_ _ _ (.inl (by show w.heap.size + 1 < U1.heap.size; omega)))
    exact Side.refl _ _ _
  have hB : Below w.heap.size w2 (w2.setCell ⟨w.heap.size + 1, 0, none⟩ (.int .i64 1) |>.setCell ⟨w.heap.size + 1, 1, none⟩ (.int .i64 31) |>.setCell ⟨w.heap.size + 1, 2, none⟩ (.int .i64 32) |>.setCell ⟨w.heap.size + 1, 3, none⟩ (.int .i64 33) |>.setCell ⟨w.heap.size + 1, 4, none⟩ (.int .i64 34) |>.setCell ⟨w.heap.size + 1, 5, none⟩ (.int .i64 40) |>.setCell ⟨w.heap.size + 1, 6, none⟩ (.int .i64 88)) := by
    repeat (refine Below.setCell ?_ (by show w.heap.size ≤ w.heap.size + 1; omega) _)
    exact Below.refl _ _
  generalize ((((((w2.setCell ⟨w.heap.size + 1, 0, none⟩ (.int .i64 1)).setCell ⟨w.heap.size + 1, 1, none⟩ (.int .i64 31)).setCell ⟨w.heap.size + 1, 2, none⟩ (.int .i64 32)).setCell ⟨w.heap.size + 1, 3, none⟩ (.int .i64 33)).setCell ⟨w.heap.size + 1, 4, none⟩ (.int .i64 34)).setCell ⟨w.heap.size + 1, 5, none⟩ (.int .i64 40)).setCell ⟨w.heap.size + 1, 6, none⟩ (.int .i64 88) = u at *
  obtain ⟨c0, c1, c2, c3, c4, c5, c6⟩ := seven_cells (bk_drew hR7)
  clear l0 l1 l2 l3 l4 l5 l6 r0 r1 r2 r3 r4 r5 r6 fz hltr hltl hne
  go_wp2
  refine bodyPost_ret (v := .tuple #[.pointer (some ⟨b, 0, none⟩), .agg #[.int .i64 1, .int .i64 31, .int .i64 32, .int .i64 33, .int .i64 34, .int .i64 40, .int .i64 88], .bool true]) (by simp [results, Tryz.results4, go_sem, c0, c1, c2, c3, c4, c5, c6]) rfl ⟨b, S, rfl, ⟨HDK.out.keep fun i hi => hS i (HLO.out i hi) (HDK.out.lt hi), fun i hi => by have := HLO.out i hi; omega⟩, ?_⟩
  exact (HB.out.trans ((HBW.out.mono (by omega)).trans hB)).drew
/-- Sectors of one's own, where a row of patches has grown. -/
theorem SecsOwn.besides {u u' : World} {base b2 n : Nat} {v v2 : Value} {xs : List Value} {L : List Sc} {l : List (List UInt8)} (h : SecsOwn u base v L l) (h2 : u.ownsRow b2 50 3 v2 n xs) (hg : u.grownBy u' v2.ownBlock) : SecsOwn u' base v L l :=
  ⟨h.len, h.row.kept hg (own_ne h.row h2 (by decide)), fun i s b h1 h3 => (h.each i s b h1 h3).kept hg (own_ne (h.each i s b h1 h3) h2 (by decide))⟩
theorem pats_take {m : Meta.Met} (_hR : Right G0 m) {a : Nat} {y : List UInt8} (hy : (secs m)[a]? = some y) : (ints (pats m)).take (a + 1) = (ints (pats m)).take a ++ [(((31 + a : Nat) : Int), sxOf y)] := by
  rw [List.take_add_one]
  congr 1
  rw [ints_get (p := (31 + a, sxOf y)) (by rw [pats, placed_get, List.getElem?_map, hy]; rfl)]
  rfl
set_option maxRecDepth 100000 in
set_option maxHeartbeats 6400000 in
theorem lay_top (m : Meta.Met) (ho : Okm m) (hR : Right G0 m) (M0 M1 M2 M3 : Option Addr) (r0 e0 r1 e1 r2 e2 r3 e3 : Nat) (w : World) (h0 : m.rows.length = r0) (h1 : m.own.length = r1) (h2 : m.used.length = r2) (h3 : m.ino.length = r3) (hl : Lies w w.heap.size ⟨M0, e0, M1, e1, M2, e2, M3, e3⟩ m)
    (gB pB : Nat) (hg : Bk w gB 25 [.int .i64 30, .int .i64 12, .int .i64 6, .int .i64 8]) (hp : Bk w pB 28 [.int .i64 1, .int .i64 31, .int .i64 32, .int .i64 33, .int .i64 34, .int .i64 40, .int .i64 88]) :
    Calls Tryz.prog 7 #[.agg #[.slice M0 r0 e0, .slice M1 r1 e1, .slice M2 r2 e2, .slice M3 r3 e3], .pointer (some ⟨gB, 0, none⟩), .pointer (some ⟨pB, 0, none⟩)] w fun e w' => ∃ A c P, e = .returned (.slice A 9 c) ∧ PatsOwn w' w.heap.size (.slice A 9 c) P ∧ P.map (fun p => (p.s, p.x)) = ints (pats m) ∧ Below w.heap.size w w' := by
  have h9 := secs_nine hR
  have h64 := secs_64 hR ho
  have hl16 := hR.rows.len
  have hu64 := hR.ulen
  have hol := hR.olen
  have hil := hR.ilen
  simp only [G0] at hol hil
  have HLAY : Hid (∀ u : World, Below w.heap.size w u → Calls Tryz.prog 8 #[.agg #[.int .i64 30, .int .i64 12, .int .i64 6, .int .i64 8], .agg #[.slice M0 r0 e0, .slice M1 r1 e1, .slice M2 r2 e2, .slice M3 r3 e3]] u fun e w' => HandsL u (secs m, 0) e w') := Lib.hid (fun u hu => by
    have := lay_in 30 12 6 8 m ho M0 M1 M2 M3 r0 e0 r1 e1 r2 e2 r3 e3 u h0 h1 h2 h3 (hl.later hu) (by omega)
    rwa [lay_yes (G := ⟨30, 12, 6, 8⟩) hR] at this)
  obtain ⟨l, hl2⟩ : ∃ l, secs m = l := ⟨_, rfl⟩
  rw [hl2] at h9 h64 HLAY
  have H9 := Lib.hid h9
  have H64 := Lib.hid h64
  have HPT : Hid (∀ (a : Nat) (y : List UInt8), l[a]? = some y → (ints (pats m)).take (a + 1) = (ints (pats m)).take a ++ [(((31 + a : Nat) : Int), sxOf y)]) := Lib.hid (fun a y hy => pats_take hR (by rw [hl2]; exact hy))
  have HP9 : Hid ((ints (pats m)).take 9 = ints (pats m)) := Lib.hid (List.take_of_length_le (by rw [ints, List.length_map, pats_len hR]; exact Nat.le_refl _))
  generalize ints (pats m) = LP at *
  have HG := Lib.hid (hg.below (al_below w (.cells #[.slice M0 r0 e0, .slice M1 r1 e1, .slice M2 r2 e2, .slice M3 r3 e3] 36)) hg.lt)
  have HP := Lib.hid (hp.below (al_below w (.cells #[.slice M0 r0 e0, .slice M1 r1 e1, .slice M2 r2 e2, .slice M3 r3 e3] 36)) hp.lt)
  have HM := Lib.hid (Bk.new w 36 [.slice M0 r0 e0, .slice M1 r1 e1, .slice M2 r2 e2, .slice M3 r3 e3])
  have HB0 := Lib.hid (al_below w (.cells #[.slice M0 r0 e0, .slice M1 r1 e1, .slice M2 r2 e2, .slice M3 r3 e3] 36))
  have HSZ : Hid ((w.alloc (.cells #[.slice M0 r0 e0, .slice M1 r1 e1, .slice M2 r2 e2, .slice M3 r3 e3] 36)).heap.size = w.heap.size + 1) := Lib.hid (by simp)
  have HGL := Lib.hid hg.lt
  have HPL := Lib.hid hp.lt
  clear h9 h64 hl2 hl hg hp h0 h1 h2 h3 hR ho hl16 hu64 hol hil
  go_enter Tryz.func7, Tryz.ntmps7
  go_upto_region 1 with fail
  generalize w.alloc (.cells #[.slice M0 r0 e0, .slice M1 r1 e1, .slice M2 r2 e2, .slice M3 r3 e3] 36) = W at *
  obtain ⟨g0, g1, g2, g3⟩ := four_cells HG.out
  obtain ⟨q0, q1, q2, q3⟩ := four_cells HM.out
  have HBW := Lib.hid (Below.refl W.heap.size W)
  go_upto_region 3 with (go_at_call 8; (with_reducible refine (HLAY.out _ (HB0.out.trans (HBW.out.mono HB0.out.size))).mono ?_); have HBW0 := HBW; rintro e w1 hh; obtain ⟨C1, c1, L1, he, hso, -, -, -, hb⟩ := hh.got; rw [H9.out] at he hso; obtain rfl := he; replace HBW := Lib.hid (HBW.out.trans (hb.mono HBW.out.size)); replace HG := Lib.hid (HG.out.below hb HG.out.lt); replace HP := Lib.hid (HP.out.below hb HP.out.lt); replace HM := Lib.hid (HM.out.below hb HM.out.lt); have HSO := Lib.hid (hso.base HBW0.out.size); clear hso; clear g0 g1 g2 g3 q0 q1 q2 q3 hb; obtain ⟨g0, g1, g2, g3⟩ := four_cells HG.out; obtain ⟨q0, q1, q2, q3⟩ := four_cells HM.out)
  clear g0 g1 g2 g3 q0 q1 q2 q3
  go_wp2_with fail
  go_loopw [5, 8, 17] (fun out _ k wr => ∃ (a : Nat) (P : List Pc), k = .int .i64 (a : Int) ∧ a ≤ 9 ∧ Hid (PatsOwn wr W.heap.size out P) ∧ Hid (P.length = a) ∧ Hid (P.map (fun p => (p.s, p.x)) = LP.take a) ∧ Hid (Below W.heap.size w1 wr) ∧ Hid (SecsOwn wr W.heap.size (.slice C1 9 c1) L1 l)) (fun _ _ k _ => 9 - (intOf k).toNat)
  case atStart => exact ⟨0, [], rfl, Nat.zero_le _, Lib.hid (PatsOwn.nil _ _), Lib.hid rfl, Lib.hid (by simp), Lib.hid (Below.refl _ _), HSO⟩
  case round =>
    obtain ⟨a, P, rfl, ha, HPO, HPN, HPM, HBR, HSR⟩ := hrel
    by_cases hlt : a < 9
    · obtain ⟨y, hy⟩ : ∃ y, l[a]? = some y := ⟨_, List.getElem?_eq_getElem (by rw [H9.out]; exact hlt)⟩
      have hy64 := H64.out y (List.mem_of_getElem? hy)
      have hsa := HSR.out.at_.2.2.2
      obtain ⟨bb, oo, hA, -⟩ := hsa.first (by rw [H9.out]; omega)
      subst hA
      obtain ⟨S1, hS1, hcx, -, -, -⟩ := hsa.get hy
      have hown := HSR.out.each a S1 y hS1 hy
      obtain ⟨gy, hgy, hgy1, hgy2⟩ := own_at hown (by omega)
      rw [hgy] at hcx hown
      rw [hy64] at hcx hown
      have hcap := (own_rdk hown).1
      obtain ⟨p, hp⟩ : ∃ p : Pc, p = ⟨((31 + a : Nat) : Int), gy, 0, S1.c, sxOf y⟩ := ⟨_, rfl⟩
      have hlain : Lain wr W.heap.size p := by
        subst hp
        refine ⟨hgy1, ?_, hcap, fun j u hu => ?_⟩
        · rcases hown.2 with ⟨hv, _⟩ | ⟨g', cap, cur, hv, _, hc, _⟩
          · cases hv
          · injection hv with hv _ _
            injection hv with hv
            injection hv with hv
            subst hv
            exact ⟨_, _, _, hc, by decide⟩
        · have hu' : (bytesV y)[j]? = some u := by
            have e : (sxOf y).b = y := sxOf_b hy64
            rw [← e]; exact hu
          rw [Nat.zero_add, hown.cellAt j (by have := (List.getElem?_eq_some_iff.1 hu').1; rw [length_bytesV] at this; omega)]
          exact hu'
      have HLN := Lib.hid hlain
      have HPE := Lib.hid hp
      have p1 := (HP.out.below HBR.out (by have := HPL.out; have := HSZ.out; omega)).cell 1
      simp only [List.getElem?_cons_succ, List.getElem?_cons_zero] at p1
      have hlti : (a : Int) < 9 := by omega
      have hi0 : (0 : Int) ≤ (a : Int) := by omega
      have hiw : IntKind.i64.wrap ((a : Int) + 1) = ((a + 1 : Nat) : Int) := by rw [IntKind.wrap_i64]; omega
      have haw : IntKind.i64.wrap (31 + (a : Int)) = 31 + (a : Int) := by rw [IntKind.wrap_i64]; omega
      have HPT1 := Lib.hid (HPT.out a y hy)
      clear hlain hp hown hgy1 hgy2 hcap hS1 hsa hy hy64 hgy
      go_upto_region 6 with fail
      have hq1 := Bk.new wr 50 (patC p)
      have hpc : patC p = [.int .i64 (31 + (a : Int)), .slice (some ⟨gy, 0, none⟩) 64 S1.c, .int .u16 0] := by
        rw [HPE.out]
        show [Value.int .i64 ((31 + a : Nat) : Int), .slice (some ⟨gy, 0, none⟩) 64 S1.c, .int .u16 ((sxOf y).t : Int)] = _
        rw [sxOf_t]
        rfl
      rw [hpc] at hq1
      have hq2 := al_below wr (.cells #[.int .i64 (31 + (a : Int)), .slice (some ⟨gy, 0, none⟩) 64 S1.c, .int .u16 0] 50)
      have HZ1 := Lib.hid HBW.out.size
      have HZ2 := Lib.hid HBR.out.size
      have HA : Hid (∀ u, Below wr.heap.size wr u → PatsOwn u W.heap.size u5 P ∧ Lain u W.heap.size p ∧ SecsOwn u W.heap.size (.slice (some ⟨bb, oo, none⟩) 9 c1) L1 l ∧ Below W.heap.size w1 u) := Lib.hid (fun u hu => ⟨HPO.out.below hu, HLN.out.below hu, HSR.out.below hu, HBR.out.trans (hu.mono (Nat.le_trans HZ1.out HZ2.out))⟩)
      have HPC := Lib.hid hpc
      clear hpc
      have HQ2 := Lib.hid hq2
      have HQ1 := Lib.hid hq1
      have HSZ2 : Hid (W.heap.size ≤ wr.heap.size + 1) := Lib.hid (by have := HZ1.out; have := HZ2.out; omega)
      clear hq1 hq2
      go_region_law (refine step_patch rfl (.tmp 20) (.tmp 30) rfl W.heap.size u5 P a HPN.out rfl (HA.out _ (by first | exact HQ2.out | exact HQ2.out.drew)).1 wr.heap.size p rfl (by rw [HPC.out]; exact HQ1.out) (HA.out _ (by first | exact HQ2.out | exact HQ2.out.drew)).2.1 (by omega) (Nat.le_trans HZ1.out (HA.out _ (by first | exact HQ2.out | exact HQ2.out.drew)).2.2.2.size) ?_; intro g' c' w' hpo hgr; have HSR6 := Lib.hid (SecsOwn.besides (HA.out _ (by first | exact HQ2.out | exact HQ2.out.drew)).2.2.1 (HA.out _ (by first | exact HQ2.out | exact HQ2.out.drew)).1.row hgr); have HBR6 := Lib.hid ((HA.out _ (by first | exact HQ2.out | exact HQ2.out.drew)).2.2.2.grown hgr (Nat.le_trans HZ1.out (HA.out _ (by first | exact HQ2.out | exact HQ2.out.drew)).2.2.2.size) (fun q hq => ((HA.out _ (by first | exact HQ2.out | exact HQ2.out.drew)).1.row.lt q hq).1)); have HPO6 := Lib.hid hpo; clear hpo hgr)
      all_goals
        have HPN6 : Hid ((P ++ [p]).length = a + 1) := Lib.hid (by rw [List.length_append, HPN.out]; rfl)
        have HPM6 : Hid ((P ++ [p]).map (fun p => (p.s, p.x)) = LP.take (a + 1)) := Lib.hid (by rw [List.map_append, HPM.out, HPT1.out, HPE.out]; rfl)
        clear HPO HSR HBR HA HLN HQ1 HQ2 p1 hcx
        go_wp2_with fail
        go_roundw
        case rel => exact ⟨a + 1, P ++ [p], by first | rfl | (congr 1), hlt, HPO6, HPN6, HPM6, HBR6, HSR6⟩
        case measure => simp [intOf]; omega
    · obtain rfl : 9 = a := by omega
      go_wp2_with fail
      obtain ⟨A, c, rfl⟩ := HPO.out.slice
      rw [HPN.out] at HPO
      go_ret
      exact ⟨A, c, P, by show Ending.returned (.slice A P.length c) = _; rw [HPN.out], HPO.out.lower (by have := HSZ.out; omega), HPM.out.trans HP9.out, HB0.out.trans ((HBW.out.trans (HBR.out)).mono (by have := HSZ.out; omega))⟩
end Go.Proofs.YtaflpigpeckhoaaGreat.Top

/-
  Whether what is known is the same, by its sectors.
-/
namespace Go.Proofs.YtaflpigpeckhoaaGreat.Top
open Go.RowKit Meta Keep Pat

theorem beq_not {l k : List (List UInt8)} {a : Nat} {x y : List UInt8} (hx : l[a]? = some x) (hy : k[a]? = some y) (h : x ≠ y) : (l == k) = false := by
  rw [beq_eq_false_iff_ne]
  intro e
  subst e
  rw [hx] at hy
  injection hy with hy
  exact h hy
theorem beq_all {l k : List (List UInt8)} {n : Nat} (hl : l.length = n) (hk : k.length = n) (h : ∀ t, t < n → l[t]? = k[t]?) : (l == k) = true := by
  rw [beq_iff_eq]
  refine List.ext_getElem? fun t => ?_
  by_cases ht : t < n
  · exact h t ht
  · rw [List.getElem?_eq_none (by omega), List.getElem?_eq_none (by omega)]
set_option maxRecDepth 100000 in
set_option maxHeartbeats 6400000 in
theorem same_top (m n : Meta.Met) (ho : Okm m) (hn : Okm n) (hR : Right G0 m) (hN : Right G0 n) (M0 M1 M2 M3 N0 N1 N2 N3 : Option Addr) (r0 e0 r1 e1 r2 e2 r3 e3 d0 d1 d2 d3 : Nat) (w : World)
    (h0 : m.rows.length = r0) (h1 : m.own.length = r1) (h2 : m.used.length = r2) (h3 : m.ino.length = r3) (k0 : n.rows.length = r0) (k1 : n.own.length = r1) (k2 : n.used.length = r2) (k3 : n.ino.length = r3)
    (hl : Lies w w.heap.size ⟨M0, e0, M1, e1, M2, e2, M3, e3⟩ m) (hk : Lies w w.heap.size ⟨N0, d0, N1, d1, N2, d2, N3, d3⟩ n) (gB : Nat) (hg : Bk w gB 25 [.int .i64 30, .int .i64 12, .int .i64 6, .int .i64 8]) :
    Calls Tryz.prog 15 #[.agg #[.slice M0 r0 e0, .slice M1 r1 e1, .slice M2 r2 e2, .slice M3 r3 e3], .agg #[.slice N0 r0 d0, .slice N1 r1 d1, .slice N2 r2 d2, .slice N3 r3 d3], .pointer (some ⟨gB, 0, none⟩)] w fun e w' => e = .returned (.bool (secs m == secs n)) ∧ Below w.heap.size w w' := by
  have h9 := secs_nine hR
  have j9 := secs_nine hN
  have hl16 := hR.rows.len
  have hu64 := hR.ulen
  have hol := hR.olen
  have hil := hR.ilen
  simp only [G0] at hol hil
  have HLAY : Hid (∀ u : World, Below w.heap.size w u → Calls Tryz.prog 8 #[.agg #[.int .i64 30, .int .i64 12, .int .i64 6, .int .i64 8], .agg #[.slice M0 r0 e0, .slice M1 r1 e1, .slice M2 r2 e2, .slice M3 r3 e3]] u fun e w' => HandsL u (secs m, 0) e w') := Lib.hid (fun u hu => by
    have := lay_in 30 12 6 8 m ho M0 M1 M2 M3 r0 e0 r1 e1 r2 e2 r3 e3 u h0 h1 h2 h3 (hl.later hu) (by omega)
    rwa [lay_yes (G := ⟨30, 12, 6, 8⟩) hR] at this)
  have HLAY2 : Hid (∀ u : World, Below w.heap.size w u → Calls Tryz.prog 8 #[.agg #[.int .i64 30, .int .i64 12, .int .i64 6, .int .i64 8], .agg #[.slice N0 r0 d0, .slice N1 r1 d1, .slice N2 r2 d2, .slice N3 r3 d3]] u fun e w' => HandsL u (secs n, 0) e w') := Lib.hid (fun u hu => by
    have := lay_in 30 12 6 8 n hn N0 N1 N2 N3 r0 d0 r1 d1 r2 d2 r3 d3 u k0 k1 k2 k3 (hk.later hu) (by omega)
    rwa [lay_yes (G := ⟨30, 12, 6, 8⟩) hN] at this)
  obtain ⟨l, hl2⟩ : ∃ l, secs m = l := ⟨_, rfl⟩
  obtain ⟨kk, hk2⟩ : ∃ k, secs n = k := ⟨_, rfl⟩
  rw [hl2] at h9 HLAY ⊢
  rw [hk2] at j9 HLAY2 ⊢
  have H9 := Lib.hid h9
  have J9 := Lib.hid j9
  obtain ⟨res, hres⟩ : ∃ res, (l == kk) = res := ⟨_, rfl⟩
  rw [hres]
  have HRS := Lib.hid hres
  obtain ⟨W, hW⟩ : ∃ W, W = (w.alloc (.cells #[.slice M0 r0 e0, .slice M1 r1 e1, .slice M2 r2 e2, .slice M3 r3 e3] 36)).alloc (.cells #[.slice N0 r0 d0, .slice N1 r1 d1, .slice N2 r2 d2, .slice N3 r3 d3] 36) := ⟨_, rfl⟩
  have hbW : Below w.heap.size w W := by rw [hW]; exact (Below.refl _ _).alloc (Nat.le_refl _) _ |>.alloc (by simp) _
  have hM : Bk W w.heap.size 36 [.slice M0 r0 e0, .slice M1 r1 e1, .slice M2 r2 e2, .slice M3 r3 e3] := by rw [hW]; exact (Bk.new w 36 [.slice M0 r0 e0, .slice M1 r1 e1, .slice M2 r2 e2, .slice M3 r3 e3]).below (al_below _ _) (by simp)
  have hN2 : Bk W (w.heap.size + 1) 36 [.slice N0 r0 d0, .slice N1 r1 d1, .slice N2 r2 d2, .slice N3 r3 d3] := by
    rw [hW]
    have := Bk.new (w.alloc (.cells #[.slice M0 r0 e0, .slice M1 r1 e1, .slice M2 r2 e2, .slice M3 r3 e3] 36)) 36 [.slice N0 r0 d0, .slice N1 r1 d1, .slice N2 r2 d2, .slice N3 r3 d3]
    simpa using this
  have HM := Lib.hid hM
  have HN := Lib.hid hN2
  have HG := Lib.hid (hg.below hbW hg.lt)
  have HB := Lib.hid hbW
  have HBW := Lib.hid (Below.refl W.heap.size W)
  obtain ⟨g0, g1, g2, g3⟩ := four_cells HG.out
  obtain ⟨q0, q1, q2, q3⟩ := four_cells HM.out
  obtain ⟨y0, y1, y2, y3⟩ := four_cells HN.out
  clear h9 j9 hl2 hk2 hl hk hg h0 h1 h2 h3 k0 k1 k2 k3 hR hN ho hn hl16 hu64 hol hil hres hbW hM hN2
  go_enter Tryz.func15, Tryz.ntmps15
  go_upto_region 1 with fail
  rw [← hW]
  clear hW
  go_upto_region 3 with (first
    | (go_at_call 8; (with_reducible refine (HLAY.out _ (HB.out.trans (HBW.out.mono HB.out.size))).mono ?_); rintro e w1 hh; obtain ⟨C1, c1, L1, he, -, -, -, hsa, hb⟩ := hh.got; rw [H9.out] at he; obtain rfl := he; replace HBW := Lib.hid (HBW.out.trans (hb.mono HBW.out.size)); replace HG := Lib.hid (HG.out.below hb HG.out.lt); replace HM := Lib.hid (HM.out.below hb HM.out.lt); replace HN := Lib.hid (HN.out.below hb HN.out.lt); have HT1 := Lib.hid hsa; clear hsa; clear g0 g1 g2 g3 q0 q1 q2 q3 y0 y1 y2 y3 hb; obtain ⟨g0, g1, g2, g3⟩ := four_cells HG.out; obtain ⟨q0, q1, q2, q3⟩ := four_cells HM.out; obtain ⟨y0, y1, y2, y3⟩ := four_cells HN.out)
    | (go_at_call 8; (with_reducible refine (HLAY2.out _ (HB.out.trans (HBW.out.mono HB.out.size))).mono ?_); rintro e w2 hh; obtain ⟨C2, c2, L2, he, -, -, -, hsa, hb⟩ := hh.got; rw [J9.out] at he; obtain rfl := he; replace HBW := Lib.hid (HBW.out.trans (hb.mono HBW.out.size)); replace HG := Lib.hid (HG.out.below hb HG.out.lt); replace HM := Lib.hid (HM.out.below hb HM.out.lt); replace HN := Lib.hid (HN.out.below hb HN.out.lt); replace HT1 := Lib.hid (HT1.out.later hb); have HT2 := Lib.hid hsa; clear hsa; clear g0 g1 g2 g3 q0 q1 q2 q3 y0 y1 y2 y3 hb; obtain ⟨g0, g1, g2, g3⟩ := four_cells HG.out; obtain ⟨q0, q1, q2, q3⟩ := four_cells HM.out; obtain ⟨y0, y1, y2, y3⟩ := four_cells HN.out))
  clear g0 g1 g2 g3 q0 q1 q2 q3 y0 y1 y2 y3
  go_wp2_with fail
  go_loopw [10, 35] (fun _ k wr => ∃ a : Nat, k = .int .i64 (a : Int) ∧ a ≤ 9 ∧ Hid (Below w2.heap.size w2 wr) ∧ Hid (∀ t, t < a → l[t]? = kk[t]?)) (fun _ k _ => 9 - (intOf k).toNat)
  case atStart => exact ⟨0, rfl, Nat.zero_le _, Lib.hid (Below.refl _ _), Lib.hid (fun t ht => absurd ht (Nat.not_lt_zero _))⟩
  case round =>
    obtain ⟨a, rfl, ha, HBR, HEQ⟩ := hrel
    by_cases hlt : a < 9
    · obtain ⟨x, hx⟩ : ∃ x, l[a]? = some x := ⟨_, List.getElem?_eq_getElem (by rw [H9.out]; exact hlt)⟩
      obtain ⟨y, hy⟩ : ∃ y, kk[a]? = some y := ⟨_, List.getElem?_eq_getElem (by rw [J9.out]; exact hlt)⟩
      obtain ⟨bb1, oo1, hA1, -⟩ := HT1.out.first (by rw [H9.out]; omega)
      subst hA1
      obtain ⟨bb2, oo2, hA2, -⟩ := HT2.out.first (by rw [J9.out]; omega)
      subst hA2
      obtain ⟨S1, -, hcx1, hrx, -, -⟩ := (HT1.out.below HBR.out).get hx
      obtain ⟨S2, -, hcy1, hry, -, -⟩ := (HT2.out.below HBR.out).get hy
      have kx := fun k => str_sec (n := x.length) (c := S1.c) rfl (hrx.drewN k)
      have ky := fun k => str_sec (n := y.length) (c := S2.c) rfl (hry.drewN k)
      have ixy := str_cmp x y
      have hlti : (a : Int) < 9 := by omega
      have hi0 : (0 : Int) ≤ (a : Int) := by omega
      have hiw : IntKind.i64.wrap ((a : Int) + 1) = ((a + 1 : Nat) : Int) := by rw [IntKind.wrap_i64]; omega
      by_cases hxy : x = y
      · have HEQ1 : Hid (∀ t, t < a + 1 → l[t]? = kk[t]?) := Lib.hid (fun t ht => by
          rcases Nat.lt_or_ge t a with h | h
          · exact HEQ.out t h
          · obtain rfl : t = a := by omega
            rw [hx, hy, hxy])
        rw [show (x == y) = true by rw [hxy]; simp] at ixy
        generalize (⟨x.toArray⟩ : ByteArray) = X at *
        generalize (⟨y.toArray⟩ : ByteArray) = Y at *
        clear hx hy hrx hry hxy
        go_wp2_with fail
        go_quiet (fail)
        go_wp2
        have HB7 := Lib.hid (Inode.below_drewN HBR.out nq)
        go_roundw
        case rel => exact ⟨a + 1, by first | rfl | (congr 1), hlt, HB7, HEQ1⟩
        case measure => simp [intOf]; omega
      · have hrf : res = false := HRS.out.symm.trans (beq_not hx hy hxy)
        rw [show (x == y) = false by simp [hxy]] at ixy
        generalize (⟨x.toArray⟩ : ByteArray) = X at *
        generalize (⟨y.toArray⟩ : ByteArray) = Y at *
        subst hrf
        clear hx hy hrx hry hxy
        go_wp2_with fail
        go_quiet (fail)
        go_wp2
        go_ret
        exact ⟨rfl, HB.out.trans ((HBW.out.trans ((Inode.below_drewN HBR.out nq).mono HBW.out.size)).mono HB.out.size)⟩
    · obtain rfl : 9 = a := by omega
      have hrf : res = true := HRS.out.symm.trans (beq_all H9.out J9.out HEQ.out)
      subst hrf
      go_wp2_with fail
      go_ret
      exact ⟨rfl, HB.out.trans ((HBW.out.trans (HBR.out.mono HBW.out.size)).mono HB.out.size)⟩
end Go.Proofs.YtaflpigpeckhoaaGreat.Top

/-
  What is known, changed.
-/
namespace Go.Proofs.YtaflpigpeckhoaaGreat.Meta
open Go.RowKit
/-- What is known, one number another one. -/
theorem OwnM.owner {u : World} {b g : Nat} {x : Meta.Mem} {m : Meta.Met} (h : OwnM u b x m) (hx : x.oA = some ⟨g, 0, none⟩) (a : Nat) (v : Int) : OwnM (u.setCell ⟨g, a, none⟩ (.int .i64 v)) b x { m with own := m.own.set a v } ∧ b ≤ g := by
  have ho := h.own
  rw [hx] at ho
  obtain ⟨h1, hg⟩ := ho.stored a (.int .i64 v)
  rw [intV_set] at h1
  exact ⟨⟨h.rows.kept hg (own_ne h.rows ho (by decide)), by rw [hx]; simpa using h1, h.used.kept hg (own_ne h.used ho (by decide)), h.ino.kept hg (own_ne h.ino ho (by decide))⟩, (ho.lt g rfl).1⟩
theorem OwnM.byte {u : World} {b g : Nat} {x : Meta.Mem} {m : Meta.Met} (h : OwnM u b x m) (hx : x.uA = some ⟨g, 0, none⟩) (a : Nat) (v : UInt8) : OwnM (u.setCell ⟨g, a, none⟩ (.int .u8 (v.toNat : Int))) b x { m with used := m.used.set a v } ∧ b ≤ g := by
  have ho := h.used
  rw [hx] at ho
  obtain ⟨h1, hg⟩ := ho.stored a (.int .u8 (v.toNat : Int))
  rw [byteV_set] at h1
  exact ⟨⟨h.rows.kept hg (own_ne h.rows ho (by decide)), h.own.kept hg (own_ne h.own ho (by decide)), by rw [hx]; simpa using h1, h.ino.kept hg (own_ne h.ino ho (by decide))⟩, (ho.lt g rfl).1⟩
theorem OwnM.inode {u : World} {b g : Nat} {x : Meta.Mem} {m : Meta.Met} (h : OwnM u b x m) (hm : ∀ n ∈ m.ino, Inode.Oki n) (hx : x.iA = some ⟨g, 0, none⟩) {a : Nat} (ha : a < m.ino.length) {n : Inode.Ino} (hn : Inode.Oki n) : OwnM (u.setCells g (a * 14) (Inode.cellsI n)) b x { m with ino := m.ino.set a n } ∧ b ≤ g := by
  have ho := h.ino
  rw [hx] at ho
  obtain ⟨h1, hg⟩ := stored_many (Inode.cellsI n) u (a * 14) _ ho
  rw [inosV_put hm hn ha] at h1
  exact ⟨⟨h.rows.kept hg (own_ne h.rows ho (by decide)), h.own.kept hg (own_ne h.own ho (by decide)), h.used.kept hg (own_ne h.used ho (by decide)), by rw [hx]; simpa using h1⟩, (ho.lt g rfl).1⟩
end Go.Proofs.YtaflpigpeckhoaaGreat.Meta
namespace Go.Proofs.YtaflpigpeckhoaaGreat.Top
open Go.RowKit Meta Keep Pat

/-- A change as it lies. -/
def knC (x : Kn) : List Value := [.int .u8 (x.o : Int), .int .u16 (x.b : Int), .int .u8 (x.i : Int), .int .u16 (x.s : Int)]
def knV (l : List Kn) : List Value := l.flatMap knC
theorem knV_at {l : List Kn} {i : Nat} {x : Kn} (h : l[i]? = some x) {j : Nat} {u : Value} (hu : (knC x)[j]? = some u) : (knV l)[i * 4 + j]? = some u := by
  induction l generalizing i with
  | nil => simp at h
  | cons y l ih =>
    have e : knV (y :: l) = knC y ++ knV l := rfl
    have hj : j < 4 := (List.getElem?_eq_some_iff.1 hu).1
    have hy : (knC y).length = 4 := rfl
    rw [e]
    cases i with
    | zero =>
      simp only [List.getElem?_cons_zero, Option.some.injEq] at h
      subst h
      rw [Nat.zero_mul, Nat.zero_add, List.getElem?_append_left (by omega)]
      exact hu
    | succ i =>
      rw [List.getElem?_append_right (by omega), hy, show (i + 1) * 4 + j - 4 = i * 4 + j by omega]
      exact ih (by simpa using h)
theorem kn_cell {w : World} {B b o : Nat} {l : List Kn} (h : Rd w B (some ⟨b, o, none⟩) (knV l)) {i : Nat} {x : Kn} (hi : l[i]? = some x) (j : Nat) {u : Value} (hu : (knC x)[j]? = some u) : w.cell? ⟨b, o + (i * 4 + j), none⟩ = some u := by
  have hg := knV_at hi hu
  rcases h with h | ⟨b', o', h1, _, h3⟩
  · rw [h] at hg; simp at hg
  · injection h1 with h1
    injection h1 with h1 h2 _
    subst h1 h2
    exact h3 _ _ hg
theorem kn_first {w : World} {B : Nat} {A : Option Addr} {l : List Kn} (h : Rd w B A (knV l)) {i : Nat} {x : Kn} (hi : l[i]? = some x) : ∃ b o, A = some ⟨b, o, none⟩ ∧ b < B := by
  rcases h with h | ⟨b, o, h1, h2, _⟩
  · have hg := knV_at hi (j := 0) (u := .int .u8 (x.o : Int)) rfl
    rw [h] at hg; simp at hg
  · exact ⟨b, o, h1, h2⟩
/-- What is known, while it is changed: in memory of the call's own, its slices in a box. -/
structure Ch (W : World) (B cB : Nat) (x : Meta.Mem) (m : Meta.Met) (u : World) : Prop where
  below : Below W.heap.size W u
  met : OwnM u B x m
  box : Bk u cB 36 (cellsM x m)
  lo : W.heap.size ≤ B
  blo : W.heap.size ≤ cB
section
variable {W u u' : World} {B cB : Nat} {x : Meta.Mem} {m : Meta.Met}
theorem Ch.later (h : Ch W B cB x m u) (hb : Below u.heap.size u u') : Ch W B cB x m u' :=
  ⟨h.below.trans (hb.mono h.below.size), h.met.below hb, h.box.below hb h.box.lt, h.lo, h.blo⟩
theorem Ch.owner (h : Ch W B cB x m u) {g : Nat} (hx : x.oA = some ⟨g, 0, none⟩) (a : Nat) (v : Int) : Ch W B cB x { m with own := m.own.set a v } (u.setCell ⟨g, a, none⟩ (.int .i64 v)) := by
  obtain ⟨h1, h2⟩ := h.met.owner hx a v
  have ho := h.met.own
  rw [hx] at ho
  have hne := bk_ne h.box ho (by decide)
  refine ⟨h.below.setCell (Nat.le_trans h.lo h2) _, h1, ?_, h.lo, h.blo⟩
  have := bk_set h.box ⟨g, a, none⟩ (.int .i64 v) (by show cB ≠ g; intro e; exact hne (by rw [e]; rfl))
  simpa [cellsM] using this
theorem Ch.byte (h : Ch W B cB x m u) {g : Nat} (hx : x.uA = some ⟨g, 0, none⟩) (a : Nat) (v : UInt8) : Ch W B cB x { m with used := m.used.set a v } (u.setCell ⟨g, a, none⟩ (.int .u8 (v.toNat : Int))) := by
  obtain ⟨h1, h2⟩ := h.met.byte hx a v
  have ho := h.met.used
  rw [hx] at ho
  have hne := bk_ne h.box ho (by decide)
  refine ⟨h.below.setCell (Nat.le_trans h.lo h2) _, h1, ?_, h.lo, h.blo⟩
  have := bk_set h.box ⟨g, a, none⟩ (.int .u8 (v.toNat : Int)) (by show cB ≠ g; intro e; exact hne (by rw [e]; rfl))
  simpa [cellsM] using this
theorem bk_sets {w : World} {g gi : Nat} {e : TypeId} {xs : List Value} (hne : g ≠ gi) : ∀ (vs : List Value) (o : Nat) {w : World}, Bk w g e xs → Bk (w.setCells gi o vs) g e xs
  | [], _, _, h => h
  | v :: vs, o, _, h => bk_sets (w := w) hne vs (o + 1) (bk_set h ⟨gi, o, none⟩ v hne)
theorem below_sets {B gi : Nat} (hg : B ≤ gi) : ∀ (vs : List Value) (o : Nat) {a w : World}, Below B a w → Below B a (w.setCells gi o vs)
  | [], _, _, _, h => h
  | v :: vs, o, _, _, h => below_sets hg vs (o + 1) (h.setCell (p := ⟨gi, o, none⟩) hg v)
theorem Ch.inode (h : Ch W B cB x m u) (hm : ∀ n ∈ m.ino, Inode.Oki n) {g : Nat} (hx : x.iA = some ⟨g, 0, none⟩) {a : Nat} (ha : a < m.ino.length) {n : Inode.Ino} (hn : Inode.Oki n) : Ch W B cB x { m with ino := m.ino.set a n } (u.setCells g (a * 14) (Inode.cellsI n)) := by
  obtain ⟨h1, h2⟩ := h.met.inode hm hx ha hn
  have ho := h.met.ino
  rw [hx] at ho
  have hne := bk_ne h.box ho (by decide)
  refine ⟨below_sets (Nat.le_trans h.lo h2) _ _ h.below, h1, ?_, h.lo, h.blo⟩
  have := bk_sets (w := u) (g := cB) (gi := g) (by intro e; exact hne (by rw [e]; rfl)) (Inode.cellsI n) (a * 14) h.box
  simpa [cellsM] using this
end
theorem fold_lens (l : List Kn) : ∀ m : Meta.Met, (l.foldl step m).rows.length = m.rows.length ∧ (l.foldl step m).own.length = m.own.length ∧ (l.foldl step m).used.length = m.used.length ∧ (l.foldl step m).ino.length = m.ino.length := by
  induction l with
  | nil => exact fun m => ⟨rfl, rfl, rfl, rfl⟩
  | cons x l ih =>
    intro m
    obtain ⟨h0, h1, h2, h3⟩ := ih (step m x)
    refine ⟨h0, h1.trans ?_, h2.trans ?_, h3.trans ?_⟩ <;> simp [step, ow, us]
theorem _root_.Go.Proofs.YtaflpigpeckhoaaGreat.Meta.OwnM.boxed {u : World} {B g : Nat} {x : Meta.Mem} {m : Meta.Met} {xs : List Value} (h : OwnM u B x m) (hb : Bk u g 36 xs) (j : Nat) (v : Value) : OwnM (u.setCell ⟨g, j, none⟩ v) B x m := by
  have hg : u.grownBy (u.setCell ⟨g, j, none⟩ v) (some g) := only_set (World.grownBy.refl _ _) j v
  exact ⟨h.rows.kept hg (.inr (Ne.symm (bk_ne hb h.rows (by decide)))), h.own.kept hg (.inr (Ne.symm (bk_ne hb h.own (by decide)))), h.used.kept hg (.inr (Ne.symm (bk_ne hb h.used (by decide)))), h.ino.kept hg (.inr (Ne.symm (bk_ne hb h.ino (by decide))))⟩
theorem end_of {W w u : World} {B cB g : Nat} {A0 A1 A2 A3 : Option Addr} {k0 k1 k2 k3 r0 : Nat} {m : Meta.Met} (h : Ch W B cB ⟨A0, k0, A1, k1, A2, k2, A3, k3⟩ m u) (hx : Bk u g 36 [.slice none 0 0, .slice none 0 0, .slice none 0 0, .slice none 0 0]) (hB : Below w.heap.size w W) (hg : w.heap.size ≤ g) :
    ∃ u4, (((u.setCell ⟨g, 0, none⟩ (.slice A0 r0 k0)).setCell ⟨g, 1, none⟩ (.slice A1 6 k1)).setCell ⟨g, 2, none⟩ (.slice A2 64 k2)).setCell ⟨g, 3, none⟩ (.slice A3 12 k3) = u4 ∧ Bk u4 g 36 [.slice A0 r0 k0, .slice A1 6 k1, .slice A2 64 k2, .slice A3 12 k3] ∧ OwnM u4 w.heap.size ⟨A0, k0, A1, k1, A2, k2, A3, k3⟩ m ∧ Below w.heap.size w u4 := by
  refine ⟨_, rfl, ?_, ?_, ?_⟩
  · have := (((hx.set 0 (.slice A0 r0 k0)).set 1 (.slice A1 6 k1)).set 2 (.slice A2 64 k2)).set 3 (.slice A3 12 k3)
    simpa only [List.set_cons_zero, List.set_cons_succ] using this
  · exact ((((h.met.base (Nat.le_trans hB.size h.lo)).boxed hx 0 _).boxed (hx.set 0 _) 1 _).boxed ((hx.set 0 _).set 1 _) 2 _).boxed (((hx.set 0 _).set 1 _).set 2 _) 3 _
  · repeat (refine Below.setCell ?_ hg _)
    exact hB.trans (h.below.mono hB.size)
theorem box_of {W u : World} {B cB : Nat} {A0 A1 A2 A3 : Option Addr} {k0 k1 k2 k3 r0 r1 r2 r3 : Nat} {m : Meta.Met} (h : Ch W B cB ⟨A0, k0, A1, k1, A2, k2, A3, k3⟩ m u) (h0 : m.rows.length = r0) (h1 : m.own.length = r1) (h2 : m.used.length = r2) (h3 : m.ino.length = r3) : Bk u cB 36 [.slice A0 r0 k0, .slice A1 r1 k1, .slice A2 r2 k2, .slice A3 r3 k3] := by
  have := h.box
  simpa [cellsM, h0, h1, h2, h3] using this
set_option maxRecDepth 100000 in
set_option maxHeartbeats 12800000 in
theorem change_any (m : Meta.Met) (ho : Okm m) (hR : Right G0 m) (M0 M1 M2 M3 : Option Addr) (r0 e0 r1 e1 r2 e2 r3 e3 : Nat) (w : World) (h0 : m.rows.length = r0) (h1 : m.own.length = r1) (h2 : m.used.length = r2) (h3 : m.ino.length = r3) (hl : Lies w w.heap.size ⟨M0, e0, M1, e1, M2, e2, M3, e3⟩ m)
    (l : List Kn) (hok : ∀ x ∈ l, x.Ok) (A : Option Addr) (n c : Nat) (hn : l.length = n) (hr : Rd w w.heap.size A (knV l)) :
    Calls Tryz.prog 9 #[.agg #[.int .i64 30, .int .i64 12, .int .i64 6, .int .i64 8], .agg #[.slice M0 r0 e0, .slice M1 r1 e1, .slice M2 r2 e2, .slice M3 r3 e3], .slice A n c] w fun e w' => ∃ A0 k0 A1 k1 A2 k2 A3 k3, e = .returned (.tuple #[.agg #[.slice A0 r0 k0, .slice A1 r1 k1, .slice A2 r2 k2, .slice A3 r3 k3], .bool true]) ∧ OwnM w' w.heap.size ⟨A0, k0, A1, k1, A2, k2, A3, k3⟩ (chg m l) ∧ Below w.heap.size w w' := by
  have hl16 := hR.rows.len
  have hu64 := hR.ulen
  have hol := hR.olen
  have hil := hR.ilen
  simp only [G0] at hol hil
  obtain ⟨W, hW⟩ : ∃ W, W = ((w.alloc (.cells #[.int .i64 30, .int .i64 12, .int .i64 6, .int .i64 8] 25)).alloc (.cells #[.slice M0 r0 e0, .slice M1 r1 e1, .slice M2 r2 e2, .slice M3 r3 e3] 36)).alloc (.cells #[.slice none 0 0, .slice none 0 0, .slice none 0 0, .slice none 0 0] 36) := ⟨_, rfl⟩
  have hbW : Below w.heap.size w W := by rw [hW]; exact ((Below.refl _ _).alloc (Nat.le_refl _) _ |>.alloc (by simp) _).alloc (by simp; omega) _
  have hG : Bk W w.heap.size 25 [.int .i64 30, .int .i64 12, .int .i64 6, .int .i64 8] := by rw [hW]; exact bk_alloc (bk_alloc (Bk.new w 25 [.int .i64 30, .int .i64 12, .int .i64 6, .int .i64 8]) _) _
  have hM : Bk W (w.heap.size + 1) 36 [.slice M0 r0 e0, .slice M1 r1 e1, .slice M2 r2 e2, .slice M3 r3 e3] := by
    rw [hW]
    have := bk_alloc (Bk.new (w.alloc (.cells #[.int .i64 30, .int .i64 12, .int .i64 6, .int .i64 8] 25)) 36 [.slice M0 r0 e0, .slice M1 r1 e1, .slice M2 r2 e2, .slice M3 r3 e3]) (.cells #[.slice none 0 0, .slice none 0 0, .slice none 0 0, .slice none 0 0] 36)
    simpa using this
  have hX : Bk W (w.heap.size + 1 + 1) 36 [.slice none 0 0, .slice none 0 0, .slice none 0 0, .slice none 0 0] := by
    rw [hW]
    have := Bk.new ((w.alloc (.cells #[.int .i64 30, .int .i64 12, .int .i64 6, .int .i64 8] 25)).alloc (.cells #[.slice M0 r0 e0, .slice M1 r1 e1, .slice M2 r2 e2, .slice M3 r3 e3] 36)) 36 [.slice none 0 0, .slice none 0 0, .slice none 0 0, .slice none 0 0]
    simpa using this
  have HCOPY : Hid (∀ u : World, Below W.heap.size W u → Calls Tryz.prog 28 #[.agg #[.slice M0 r0 e0, .slice M1 r1 e1, .slice M2 r2 e2, .slice M3 r3 e3]] u fun e w' => ∃ A0 k0 A1 k1 A2 k2 A3 k3, e = .returned (.agg #[.slice A0 r0 k0, .slice A1 r1 k1, .slice A2 r2 k2, .slice A3 r3 k3]) ∧ OwnM w' W.heap.size ⟨A0, k0, A1, k1, A2, k2, A3, k3⟩ m ∧ Below u.heap.size u w') := Lib.hid (fun u hu => by
    have hwu : Below w.heap.size w u := hbW.trans (hu.mono hbW.size)
    have := copy_in m ho M0 M1 M2 M3 r0 e0 r1 e1 r2 e2 r3 e3 u h0 h1 h2 h3 (hl.later hwu) (by omega)
    refine this.mono ?_
    rintro e w' ⟨⟨A0, k0, A1, k1, A2, k2, A3, k3⟩, he, ho, hb⟩
    exact ⟨A0, k0, A1, k1, A2, k2, A3, k3, by rw [he, ← h0, ← h1, ← h2, ← h3]; rfl, ho.base hu.size, hb⟩)
  have HG := Lib.hid hG
  have HM := Lib.hid hM
  have HXW := Lib.hid hX
  have HB := Lib.hid hbW
  have HSZ : Hid (W.heap.size = w.heap.size + 3) := Lib.hid (by rw [hW]; simp)
  have HRD := Lib.hid hr
  have HOK := Lib.hid hok
  have HN := Lib.hid hn
  have HR := Lib.hid hR
  have HO := Lib.hid ho
  have H0 := Lib.hid h0
  have H1 := Lib.hid h1
  have H2 := Lib.hid h2
  have H3 := Lib.hid h3
  obtain rfl : r1 = 6 := by omega
  obtain rfl : r2 = 64 := by omega
  obtain rfl : r3 = 12 := by omega
  have HBW := Lib.hid (Below.refl W.heap.size W)
  have HGW := Lib.hid hG
  obtain ⟨g0, g1, g2, g3⟩ := four_cells hG
  obtain ⟨q0, q1, q2, q3⟩ := four_cells hM
  clear hr hok hn hR ho hl h0 h1 h2 h3 hl16 hu64 hol hil hbW hG hM hX
  go_enter Tryz.func9, Tryz.ntmps9
  go_upto_region 1 with fail
  rw [← hW]
  clear hW
  go_upto_region 2 with (go_at_call 28; (with_reducible refine (HCOPY.out _ HBW.out).mono ?_); have HBW0 := HBW; rintro e w1 hh; obtain ⟨A0, k0, A1, k1, A2, k2, A3, k3, he, ho2, hb⟩ := hh; obtain rfl := he; replace HBW := Lib.hid (HBW.out.trans (hb.mono HBW.out.size)); replace HG := Lib.hid (HG.out.below hb HG.out.lt); replace HM := Lib.hid (HM.out.below hb HM.out.lt); have HC := Lib.hid ho2; clear ho2; clear g0 g1 g2 g3 q0 q1 q2 q3 hb; obtain ⟨g0, g1, g2, g3⟩ := four_cells HG.out; obtain ⟨q0, q1, q2, q3⟩ := four_cells HM.out)
  have hal := al_below w1 (.cells #[.slice A0 r0 k0, .slice A1 6 k1, .slice A2 64 k2, .slice A3 12 k3] 36)
  have HCH : Hid (Ch W W.heap.size w1.heap.size ⟨A0, k0, A1, k1, A2, k2, A3, k3⟩ m (w1.alloc (.cells #[.slice A0 r0 k0, .slice A1 6 k1, .slice A2 64 k2, .slice A3 12 k3] 36))) := Lib.hid (by
    refine ⟨HBW.out.trans (hal.mono HBW.out.size), HC.out.below hal, ?_, Nat.le_refl _, HBW.out.size⟩
    have := Bk.new w1 36 [.slice A0 r0 k0, .slice A1 6 k1, .slice A2 64 k2, .slice A3 12 k3]
    simpa [cellsM, H0.out, H1.out, H2.out, H3.out] using this)
  replace HG := Lib.hid (HG.out.below hal HG.out.lt)
  clear hal g0 g1 g2 g3 q0 q1 q2 q3 HM HBW
  generalize w1.alloc (.cells #[.slice A0 r0 k0, .slice A1 6 k1, .slice A2 64 k2, .slice A3 12 k3] 36) = U1 at *
  obtain ⟨g0, g1, g2, g3⟩ := four_cells HG.out
  obtain ⟨x0, x1, x2, x3⟩ := four_cells (box_of HCH.out H0.out H1.out H2.out H3.out)
  go_wp2_with fail
  clear g0 g1 g2 g3 x0 x1 x2 x3 HG HC
  have HUP : Hid (∀ a, (upto m l a).rows.length = r0 ∧ (upto m l a).own.length = 6 ∧ (upto m l a).used.length = 64 ∧ (upto m l a).ino.length = 12) := Lib.hid (fun a => by
    have := fold_lens (l.take a) m
    rwa [H0.out, H1.out, H2.out, H3.out] at this)
  have HUO : Hid (∀ a, Okm (upto m l a) ∧ Right G0 (upto m l a)) := Lib.hid (fun a => ⟨fold_okm _ HO.out, fold_right _ HR.out⟩)
  have HUS : Hid (∀ a x, l[a]? = some x → upto m l (a + 1) = step (upto m l a) x) := Lib.hid (fun a x h => upto_succ h)
  have HUE : Hid (∀ a, n ≤ a → a ≤ 20 → upto m l a = chg m l) := Lib.hid (fun a h h2 => upto_all (by rw [HN.out]; exact h) h2)
  have HU20 : Hid (upto m l 20 = chg m l) := Lib.hid rfl
  have HU0 : Hid (upto m l 0 = m) := Lib.hid rfl
  rw [← HU0.out] at HCH
  generalize upto m l = U at *
  clear HU0 H0 H1 H2 H3 HO HR
  go_loopw [9, 10, 11, 12, 38] (fun _ _ _ _ k wr => ∃ a : Nat, k = .int .i64 (a : Int) ∧ a ≤ n ∧ a ≤ 20 ∧ Hid (Ch W W.heap.size w1.heap.size ⟨A0, k0, A1, k1, A2, k2, A3, k3⟩ (U a) wr)) (fun _ _ _ _ k _ => n - (intOf k).toNat)
  case atStart => exact ⟨0, rfl, Nat.zero_le _, Nat.zero_le _, HCH⟩
  case round =>
    clear HCH
    obtain ⟨a, rfl, ha, ha20, HCH⟩ := hrel
    have hg := HGW.out.below HCH.out.below (by have := HSZ.out; omega)
    obtain ⟨u0, u1, u2, u3⟩ := HUP.out a
    by_cases hlt : a < n
    · obtain ⟨x, hx⟩ : ∃ x, l[a]? = some x := ⟨_, List.getElem?_eq_getElem (by rw [HN.out]; exact hlt)⟩
      have hxo := HOK.out x (List.mem_of_getElem? hx)
      have hrd := HRD.out.below (HB.out.trans (HCH.out.below.mono HB.out.size))
      obtain ⟨b, o, hA, -⟩ := kn_first hrd hx
      subst hA
      have c0 := kn_cell hrd hx 0 (u := .int .u8 (x.o : Int)) rfl
      have c1 := kn_cell hrd hx 1 (u := .int .u16 (x.b : Int)) rfl
      have c2 := kn_cell hrd hx 2 (u := .int .u8 (x.i : Int)) rfl
      have c3 := kn_cell hrd hx 3 (u := .int .u16 (x.s : Int)) rfl
      rw [Nat.add_zero] at c0
      rw [← Nat.add_assoc] at c1 c2 c3
      have HUS1 := Lib.hid (HUS.out a x hx)
      have hlti : (a : Int) < (n : Int) := by omega
      have hi0 : (0 : Int) ≤ (a : Int) := by omega
      have hiw : IntKind.i64.wrap ((a : Int) + 1) = ((a + 1 : Nat) : Int) := by rw [IntKind.wrap_i64]; omega
      obtain ⟨xo, xb, xi, xs⟩ := x
      have hko : xo < 256 := hxo.o
      have hkb : xb < 65536 := hxo.b
      have hki : xi < 256 := hxo.i
      have hks : xs < 65536 := hxo.s
      simp only at c0 c1 c2 c3
      clear hrd hx hxo
      go_upto_region 7 with fail
      have hal := al_below wr (.cells #[.int .u8 (xo : Int), .int .u16 (xb : Int), .int .u8 (xi : Int), .int .u16 (xs : Int)] 82)
      have HV := Lib.hid (Bk.new wr 82 [.int .u8 (xo : Int), .int .u16 (xb : Int), .int .u8 (xi : Int), .int .u16 (xs : Int)])
      have HZ : Hid (W.heap.size ≤ wr.heap.size) := Lib.hid HCH.out.below.size
      replace HCH := Lib.hid (HCH.out.later hal)
      clear hal c0 c1 c2 c3 hg
      generalize wr.alloc (.cells #[.int .u8 (xo : Int), .int .u16 (xb : Int), .int .u8 (xi : Int), .int .u16 (xs : Int)] 82) = v0 at *
      generalize wr.heap.size = vb at *
      by_cases h20 : a < 20
      · have h20i : (a : Int) < 20 := by omega
        obtain ⟨g0, g1, g2, g3⟩ := four_cells (HGW.out.below HCH.out.below (by have := HSZ.out; omega))
        obtain ⟨x0, x1, x2, x3⟩ := four_cells (box_of HCH.out u0 u1 u2 u3)
        obtain ⟨y0, y1, y2, y3⟩ := four_cells HV.out
        obtain ⟨ii, hii⟩ : ∃ ii, xo % 6 = ii := ⟨_, rfl⟩
        have hir : ii < 6 := by omega
        have hmod : (xo : Int) % 6 = (ii : Int) := by omega
        have hal : IntKind.i64.wrap (xo : Int) = (xo : Int) := by rw [IntKind.wrap_i64]; omega
        go_upto_region 9 with fail
        obtain ⟨v, hv⟩ : ∃ v, (U a).own[ii]? = some v := ⟨_, List.getElem?_eq_getElem (by rw [u1]; exact hir)⟩
        have hvr := (HUO.out a).2.own v (List.mem_of_getElem? hv)
        obtain ⟨go, hgo, -, -⟩ := own_at HCH.out.met.own (by rw [u1]; omega)
        have hgo : A1 = some ⟨go, 0, none⟩ := hgo
        subst hgo
        have hcx : v0.cell? ⟨go, ii, none⟩ = some (.int .i64 v) := by
          have := HCH.out.met.own.cellAt ii (by rw [u1]; omega)
          rw [this, Inode.intsV, List.getElem?_map, hv]; rfl
        have hfx := HCH.out.met.own.frozenAt ii
        have hxw : IntKind.i64.wrap (v + 1) = v + 1 := by rw [IntKind.wrap_i64]; omega
        have hii0 : (0 : Int) ≤ (ii : Int) := by omega
        have hiil : (ii : Int) < 6 := by omega
        go_region
        have HCH1 := Lib.hid ((HCH.out.owner rfl ii ((v + 1) % 17)).later ((Below.refl _ _).drew))
        have hne1 : vb ≠ go := fun e => bk_ne HV.out HCH.out.met.own (by decide) (by simp [Value.ownBlock, e])
        have HV1 := Lib.hid (bk_drew (bk_set HV.out ⟨go, ii, none⟩ (.int .i64 ((v + 1) % 17)) hne1))
        clear HV HCH g0 g1 g2 g3 x0 x1 x2 x3 y0 y1 y2 y3 hne1 hcx hfx hxw
        generalize (v0.setCell ⟨go, ii, none⟩ (.int .i64 ((v + 1) % 17))).drew = v1 at *
        obtain ⟨g0, g1, g2, g3⟩ := four_cells (HGW.out.below HCH1.out.below (by have := HSZ.out; omega))
        obtain ⟨x0, x1, x2, x3⟩ := four_cells (box_of HCH1.out u0 (by simpa using u1) u2 u3)
        obtain ⟨y0, y1, y2, y3⟩ := four_cells HV1.out
        obtain ⟨jj, hjj⟩ : ∃ jj, xb % 48 = jj := ⟨_, rfl⟩
        have hjr : jj < 48 := by omega
        have hmod2 : (xb : Int) % 48 = (jj : Int) := by omega
        have hal2 : IntKind.i64.wrap (xb : Int) = (xb : Int) := by rw [IntKind.wrap_i64]; omega
        go_upto_region 11 with fail
        obtain ⟨qq, hqq⟩ : ∃ qq, jj / 8 = qq := ⟨_, rfl⟩
        obtain ⟨rr, hrr⟩ : ∃ rr, jj % 8 = rr := ⟨_, rfl⟩
        have hq8 : (jj : Int) / 8 = (qq : Int) := by omega
        have hr8 : (jj : Int) % 8 = (rr : Int) := by omega
        obtain ⟨yb, hyb⟩ : ∃ yb, (U a).used[qq]? = some yb := ⟨_, List.getElem?_eq_getElem (by rw [u2]; omega)⟩
        obtain ⟨gu, hgu, -, -⟩ := own_at HCH1.out.met.used (by show 0 < (U a).used.length; rw [u2]; omega)
        have hgu : A2 = some ⟨gu, 0, none⟩ := hgu
        subst hgu
        have hcy : v1.cell? ⟨gu, qq, none⟩ = some (.int .u8 (yb.toNat : Int)) := by
          have := HCH1.out.met.used.cellAt qq (by show qq < (U a).used.length * 1; rw [u2]; omega)
          rw [this]
          show (bytesV (U a).used)[qq]? = _
          rw [bytesV, List.getElem?_map, hyb]; rfl
        have hfy := HCH1.out.met.used.frozenAt qq
        have hrr8 : rr < 8 := by omega
        have hE : (2 : Int) ^ rr % 256 = ((2 ^ rr : Nat) : Int) := by
          have h := Bits.pow_lt8 rr hrr8
          rw [Int.emod_eq_of_lt (Int.pow_nonneg (by omega)) (by have : ((2 ^ rr : Nat) : Int) < 256 := by omega
                                                                simpa using this)]
          simp
        obtain ⟨yn, hyn⟩ : ∃ yn, yb ^^^ UInt8.ofNat (2 ^ rr) = yn := ⟨_, rfl⟩
        have hxo : bits .xor .u8 (yb.toNat : Int) ((2 ^ rr : Nat) : Int) = (yn.toNat : Int) := by
          rw [u8_xor_nat yb.toNat (2 ^ rr) yb.toNat_lt (Bits.pow_lt8 rr hrr8), ← hyn, UInt8.toNat_xor, UInt8.toNat_ofNat', Nat.mod_eq_of_lt (Bits.pow_lt8 rr hrr8)]
        have hxo : bits .xor .u8 (yb.toNat : Int) ((2 : Int) ^ rr) = (yn.toNat : Int) := by
          rw [← hxo]
          congr 1
        have hqq0 : (0 : Int) ≤ (qq : Int) := by omega
        have hqql : (qq : Int) < 64 := by omega
        have hrr0 : (0 : Int) ≤ (rr : Int) := by omega
        have hqw : IntKind.i64.wrap (qq : Int) = (qq : Int) := by rw [IntKind.wrap_i64]; omega
        go_region
        have HCH2 := Lib.hid ((HCH1.out.byte rfl qq yn).later ((Below.refl _ _).drew))
        have hne2 : vb ≠ gu := fun e => bk_ne HV1.out HCH1.out.met.used (by decide) (by simp [Value.ownBlock, e])
        have HV2 := Lib.hid (bk_drew (bk_set HV1.out ⟨gu, qq, none⟩ (.int .u8 (yn.toNat : Int)) hne2))
        clear HV1 HCH1 g0 g1 g2 g3 x0 x1 x2 x3 y0 y1 y2 y3 hne2 hcy hfy hxo hE
        generalize (v1.setCell ⟨gu, qq, none⟩ (.int .u8 (yn.toNat : Int))).drew = v2 at *
        obtain ⟨g0, g1, g2, g3⟩ := four_cells (HGW.out.below HCH2.out.below (by have := HSZ.out; omega))
        obtain ⟨x0, x1, x2, x3⟩ := four_cells (box_of HCH2.out u0 (by simpa using u1) (by simpa using u2) u3)
        obtain ⟨y0, y1, y2, y3⟩ := four_cells HV2.out
        obtain ⟨kk, hkk⟩ : ∃ kk, xi % 12 = kk := ⟨_, rfl⟩
        obtain ⟨ss, hss⟩ : ∃ ss, xs % 3840 = ss := ⟨_, rfl⟩
        have hkr : kk < 12 := by omega
        have hmod3 : (xi : Int) % 12 = (kk : Int) := by omega
        have hmod4 : (xs : Int) % 3840 = (ss : Int) := by omega
        have hal3 : IntKind.i64.wrap (xi : Int) = (xi : Int) := by rw [IntKind.wrap_i64]; omega
        have hal4 : IntKind.i64.wrap (xs : Int) = (xs : Int) := by rw [IntKind.wrap_i64]; omega
        obtain ⟨gi, hgi, -, -⟩ := own_at HCH2.out.met.ino (by show 0 < (U a).ino.length; rw [u3]; omega)
        have hgi : A3 = some ⟨gi, 0, none⟩ := hgi
        subst hgi
        have HTH : Hid (∀ j, j < 14 → ∃ z, v2.cell? ⟨gi, kk * 14 + j, none⟩ = some z) := Lib.hid (fun j hj => by
          have h := HCH2.out.met.ino
          have hl : (inosV (U a).ino).length = 12 * 14 := by rw [length_inosV (HUO.out a).1.ino, u3]
          have := h.cellAt (kk * 14 + j) (by show kk * 14 + j < (U a).ino.length * 14; rw [u3]; omega)
          exact ⟨_, this.trans (List.getElem?_eq_getElem (by show kk * 14 + j < (inosV (U a).ino).length; rw [hl]; omega))⟩)
        have hfz := fun j => HCH2.out.met.ino.frozenAt j
        obtain ⟨cz0, hz0⟩ : ∃ z, v2.cell? ⟨gi, kk * 14, none⟩ = some z := HTH.out 0 (by decide)
        obtain ⟨cz1, hz1⟩ : ∃ z, v2.cell? ⟨gi, kk * 14 + 1, none⟩ = some z := HTH.out 1 (by decide)
        obtain ⟨cz2, hz2⟩ : ∃ z, v2.cell? ⟨gi, kk * 14 + 2, none⟩ = some z := HTH.out 2 (by decide)
        obtain ⟨cz3, hz3⟩ : ∃ z, v2.cell? ⟨gi, kk * 14 + 3, none⟩ = some z := HTH.out 3 (by decide)
        obtain ⟨cz4, hz4⟩ : ∃ z, v2.cell? ⟨gi, kk * 14 + 4, none⟩ = some z := HTH.out 4 (by decide)
        obtain ⟨cz5, hz5⟩ : ∃ z, v2.cell? ⟨gi, kk * 14 + 5, none⟩ = some z := HTH.out 5 (by decide)
        obtain ⟨cz6, hz6⟩ : ∃ z, v2.cell? ⟨gi, kk * 14 + 6, none⟩ = some z := HTH.out 6 (by decide)
        obtain ⟨cz7, hz7⟩ : ∃ z, v2.cell? ⟨gi, kk * 14 + 7, none⟩ = some z := HTH.out 7 (by decide)
        obtain ⟨cz8, hz8⟩ : ∃ z, v2.cell? ⟨gi, kk * 14 + 8, none⟩ = some z := HTH.out 8 (by decide)
        obtain ⟨cz9, hz9⟩ : ∃ z, v2.cell? ⟨gi, kk * 14 + 9, none⟩ = some z := HTH.out 9 (by decide)
        obtain ⟨cz10, hz10⟩ : ∃ z, v2.cell? ⟨gi, kk * 14 + 10, none⟩ = some z := HTH.out 10 (by decide)
        obtain ⟨cz11, hz11⟩ : ∃ z, v2.cell? ⟨gi, kk * 14 + 11, none⟩ = some z := HTH.out 11 (by decide)
        obtain ⟨cz12, hz12⟩ : ∃ z, v2.cell? ⟨gi, kk * 14 + 12, none⟩ = some z := HTH.out 12 (by decide)
        obtain ⟨cz13, hz13⟩ : ∃ z, v2.cell? ⟨gi, kk * 14 + 13, none⟩ = some z := HTH.out 13 (by decide)
        have hkk0 : (0 : Int) ≤ (kk : Int) := by omega
        have hkkl : (kk : Int) < 12 := by omega
        go_upto_region 12 with fail
        go_region
        have hgt : (U a).own.getD ii 0 = v := by rw [List.getD_eq_getElem?_getD, hv]; rfl
        have hgu2 : (U a).used.getD qq 0 = yb := by rw [List.getD_eq_getElem?_getD, hyb]; rfl
        have hM : ({ { { U a with own := (U a).own.set ii ((v + 1) % 17) } with used := (U a).used.set qq yn } with ino := (U a).ino.set kk (ino ⟨xo, xb, xi, xs⟩) } : Meta.Met) = U (a + 1) := by
          rw [HUS1.out]
          unfold step ow us
          simp only
          rw [hii, hjj, hqq, hrr, hkk, hgt, hgu2, hyn]
        have HCH3 := (HCH2.out.inode (HUO.out a).1.ino rfl (a := kk) (by show kk < (U a).ino.length; rw [u3]; exact hkr) (ino_oki ⟨xo, xb, xi, xs⟩)).later ((Below.refl _ _).drew)
        rw [hM] at HCH3
        have HCH4 := Lib.hid HCH3
        subst hss
        clear HCH3 hM hgt hgu2 HCH2 HV2 HTH hfz hmod hmod2 hmod3 hmod4 hal hal2 hal3 hal4 g0 g1 g2 g3 x0 x1 x2 x3 y0 y1 y2 y3 hyn hyb hv
        change Exit.inBlock _ _ _ _ (v2.setCells gi (kk * 14) (Inode.cellsI (ino ⟨xo, xb, xi, xs⟩))).drew
        generalize (v2.setCells gi (kk * 14) (Inode.cellsI (ino ⟨xo, xb, xi, xs⟩))).drew = v3 at *
        go_wp2_with fail
        go_roundw
        case rel => exact ⟨a + 1, by first | rfl | (congr 1), hlt, h20, HCH4⟩
        case measure => simp [intOf]; omega
      · obtain rfl : 20 = a := by omega
        have h20i : ¬ ((20 : Nat) : Int) < 20 := by omega
        have hxr := HXW.out.below HCH.out.below (by have := HSZ.out; omega)
        obtain ⟨g0, g1, g2, g3⟩ := four_cells hxr
        have fz := fun j => hxr.frozen j
        obtain ⟨x0, x1, x2, x3⟩ := four_cells (box_of HCH.out u0 u1 u2 u3)
        go_wp2_with fail
        obtain ⟨u4, hu4, hb4, ho4, hw4⟩ := end_of (r0 := r0) HCH.out hxr HB.out (by omega)
        rw [hu4]
        obtain ⟨c0, c1, c2, c3⟩ := four_cells hb4
        rw [HU20.out] at ho4
        refine bodyPost_ret (v := .tuple #[.agg #[.slice A0 r0 k0, .slice A1 6 k1, .slice A2 64 k2, .slice A3 12 k3], .bool true]) (by simp [results, Tryz.results9, go_sem, c0, c1, c2, c3]) rfl ⟨A0, k0, A1, k1, A2, k2, A3, k3, rfl, ho4, hw4⟩
    · obtain rfl : n = a := by omega
      have hxr := HXW.out.below HCH.out.below (by have := HSZ.out; omega)
      obtain ⟨g0, g1, g2, g3⟩ := four_cells hxr
      have fz := fun j => hxr.frozen j
      obtain ⟨x0, x1, x2, x3⟩ := four_cells (box_of HCH.out u0 u1 u2 u3)
      go_wp2_with fail
      obtain ⟨u4, hu4, hb4, ho4, hw4⟩ := end_of (r0 := r0) HCH.out hxr HB.out (by omega)
      rw [hu4]
      obtain ⟨c0, c1, c2, c3⟩ := four_cells hb4
      rw [HUE.out n (Nat.le_refl _) ha20] at ho4
      refine bodyPost_ret (v := .tuple #[.agg #[.slice A0 r0 k0, .slice A1 6 k1, .slice A2 64 k2, .slice A3 12 k3], .bool true]) (by simp [results, Tryz.results9, go_sem, c0, c1, c2, c3]) rfl ⟨A0, k0, A1, k1, A2, k2, A3, k3, rfl, ho4, hw4⟩
end Go.Proofs.YtaflpigpeckhoaaGreat.Top
