/-
  Whether a byte 0 or a slash stands in a text: strings.ContainsAny at those two bytes, over any text of at most thirteen bytes.
-/
import Derived.Test.YthpppkkagepomaaEntryX0
import Derived.Test.YthpppkkagepomaaShelf
import Derived.Laws.RangeAny
import Derived.Lib.QuoteLoop
import Derived.Scope
import Derived.Lib.RuneCount
import Derived.WalkMore
import Derived.Deep.QuietTactic
namespace Go.Proofs.Ythpppkkagepomaa.Entry
open Go.RowKit

def bad2 : ByteArray := ⟨#[0, 47]⟩

/-- A decoded letter's bytes behind the first one are all 128 and more. -/
theorem decode_bytes (s : ByteArray) (pos : Nat) (h : pos < s.size) (ha : 128 ≤ (s[pos]'h).toNat) (k : Nat) (hk : k < (Utf8.decode s pos).2) (hp : pos + k < s.size) : 128 ≤ (s[pos + k]'hp).toNat := by
  have hn : ¬ (s[pos]'h).toNat < 128 := by omega
  have hg : ∀ j (hj : pos + j < s.size), s.get! (pos + j) = s[pos + j]'hj := by
    intro j hj
    show s.get! (pos + j) = _
    simp [ByteArray.get!, getElem!_pos, hj]
    rfl
  rcases Nat.eq_zero_or_pos k with rfl | hk0
  · exact ha
  have hkk := hg k hp
  simp only [Utf8.decode, get_at s pos h, hn, if_false] at hk
  rw [← hkk]
  have h256 : (s.get! (pos + k)).toNat < 256 := (s.get! (pos + k)).toNat_lt
  split at hk
  · rename_i h1
    simp only [Bool.and_eq_true, decide_eq_true_eq, beq_iff_eq] at h1
    split at hk
    · obtain rfl : k = 1 := by simp at hk; omega
      omega
    · simp at hk; omega
  · split at hk
    · rename_i _ h1
      simp only [Bool.and_eq_true, decide_eq_true_eq, beq_iff_eq] at h1
      split at hk
      · obtain rfl | rfl : k = 1 ∨ k = 2 := by simp at hk; omega
        · omega
        · omega
      · simp at hk; omega
    · split at hk
      · rename_i _ _ h1
        simp only [Bool.and_eq_true, decide_eq_true_eq, beq_iff_eq] at h1
        split at hk
        · obtain rfl | rfl | rfl : k = 1 ∨ k = 2 ∨ k = 3 := by simp at hk; omega
          · omega
          · omega
          · omega
        · simp at hk; omega
      · simp at hk; omega
theorem decode_width (s : ByteArray) (pos : Nat) (h : pos < s.size) : pos + (Utf8.decode s pos).2 ≤ s.size := by
  have := Lib.decodeN_width_le (s.size - pos) (s.get! pos).toNat (s.get! (pos + 1)).toNat (s.get! (pos + 2)).toNat (s.get! (pos + 3)).toNat (by omega)
  rw [← Lib.decode_at] at this
  omega
theorem decode_valid (s : ByteArray) (pos : Nat) : (Utf8.decode s pos).1 < 55296 ∨ (57343 < (Utf8.decode s pos).1 ∧ (Utf8.decode s pos).1 ≤ 1114111) := by
  rw [Lib.decode_at]
  exact Lib.decodeN_valid _ _ _ _ _ (s.get! pos).toNat_lt

theorem conv_rune (r : Int) (w : World) : (convert 21 9 (.int .i32 r)).run Try.prog w = .ok (.string (Utf8.encode r)) w :=
  run_convert_int_string (P := Try.prog) w 21 9 .i32 r (by rw [Try.underlying21]; rfl) Try.underlying9

set_option maxRecDepth 100000 in
set_option maxHeartbeats 1600000 in
/-- The letter that stands for what is none: it is not among the two. -/
theorem idx_none (w : World) : Calls Try.prog 37 #[.string bad2, .int .i32 65533] w fun e w' => e = .returned (.int .i64 (-1)) ∧ Below w.heap.size w w' := by
  have n0 : ∀ ty, (Instr.next (.pointer (some ⟨w.heap.size, 0, none⟩)) true ty).run Try.prog (w.iter bad2 0) = .ok (.tuple #[.bool true, .int .i64 0, .int .i32 0]) (w.iter bad2 1) := fun ty => run_next_ascii (P := Try.prog) w bad2 0 ty (by decide) (by decide)
  have n1 : ∀ ty, (Instr.next (.pointer (some ⟨w.heap.size, 0, none⟩)) true ty).run Try.prog (w.iter bad2 1) = .ok (.tuple #[.bool true, .int .i64 1, .int .i32 47]) (w.iter bad2 2) := fun ty => run_next_ascii (P := Try.prog) w bad2 1 ty (by decide) (by decide)
  have n2 : ∀ ty, (Instr.next (.pointer (some ⟨w.heap.size, 0, none⟩)) true ty).run Try.prog (w.iter bad2 2) = .ok (.tuple #[.bool false]) (w.iter bad2 2) := fun ty => run_next_end (P := Try.prog) w bad2 2 ty (by decide)
  have hb : ∀ p, Below w.heap.size w (w.iter bad2 p) := fun p => (Below.refl _ _).alloc (Nat.le_refl _) _
  generalize bad2 = z at *
  go_enter Try.func37, Try.ntmps37
  go_wp2
  go_loopw [5, 6] (fun _ _ wr => ∃ i : Nat, i ≤ 2 ∧ wr = w.iter z i) (fun _ _ wr => 2 - wr.iterPos w.heap.size)
  case atStart => exact ⟨0, by omega, rfl⟩
  case round =>
    obtain ⟨i, hi, rfl⟩ := hrel
    obtain rfl | rfl | rfl : i = 0 ∨ i = 1 ∨ i = 2 := by omega
    · go_wp2
      go_roundw
      case rel => exact ⟨1, by omega, rfl⟩
      case measure => simp
    · go_wp2
      go_roundw
      case rel => exact ⟨2, by omega, rfl⟩
      case measure => simp
    · go_wp2
      go_ret
      exact ⟨rfl, hb 2⟩

theorem vrune (r : Int) (w : World) : Calls Try.prog 44 #[.int .i32 r] w fun e w' => e = .returned (.bool (Lib.validRune r)) ∧ w' = w := Any.utf8_ValidRune Try.lays119 r w
theorem ibyte (s : ByteArray) (c : Int) (w : World) : Calls Try.prog 43 #[.string s, .int .u8 c] w fun e w' => e = .returned (.int .i64 (Lib.indexByte s.data.toList c.toNat.toUInt8)) ∧ w' = w := Any.strings_IndexByte Try.lays137 s c w
theorem irune (s : ByteArray) (r : Int) (w : World) (h0 : 0 ≤ r) (h1 : r < 128) : Calls Try.prog 37 #[.string s, .int .i32 r] w fun e w' => e = .returned (.int .i64 (Lib.indexByte s.data.toList r.toNat.toUInt8)) ∧ w' = w := Any.strings_IndexRune_ascii Try.lays152 s r w h0 h1
set_option maxRecDepth 100000 in
set_option maxHeartbeats 1600000 in
/-- A letter of more than one byte is not among the two. -/
theorem idx_high (r : Int) (w : World) (h : 128 ≤ r) (hne : r ≠ 65533) (hv : r < 55296 ∨ (57343 < r ∧ r ≤ 1114111)) :
    Calls Try.prog 37 #[.string bad2, .int .i32 r] w fun e w' => e = .returned (.int .i64 (-1)) ∧ Below w.heap.size w w' := by
  have hval : Utf8.valid r = true := by
    unfold Utf8.valid
    simp
    omega
  have hvr : Lib.validRune r = true := by
    unfold Lib.validRune
    rw [decide_eq_true_eq]
    omega
  obtain ⟨f1, f2, f3⟩ := encode_facts r hval h
  obtain ⟨t, ht⟩ : ∃ t, Utf8.encode r = t := ⟨_, rfl⟩
  rw [ht] at f1 f2
  have f3 : ∀ (h : t.size - 1 < t.size), 128 ≤ t[t.size - 1].toNat := by subst ht; exact f3
  have hne2 : (r == 65533) = false := by simpa using hne
  have hlt : ¬ r < 128 := by omega
  have h0 : 0 ≤ r := by omega
  clear hv hval
  have hbs : ((bad2.size : Nat) : Int) = 2 := rfl
  by_cases h2 : t.size = 2
  · have h1 : t.size - 1 < t.size := by omega
    have hx := f3 h1
    have hi : t.size - 1 = 1 := by omega
    have hb1 : bad2[1]'(by decide) = 47 := rfl
    go_enter Try.func37, Try.ntmps37
    go_wp2_with (go_at_call 44; (with_reducible refine (vrune r _).mono ?_); rintro e w1 ⟨he, hw⟩; obtain rfl := he; rw [hvr]; subst hw)
    have h11 : (1 : Nat) < t.size := by omega
    have hy : 128 ≤ (t[1]'h11).toNat := by
      have e : ∀ k, k = 1 → ∀ hk : k < t.size, (t[k]'hk).toNat = (t[1]'h11).toNat := by rintro k rfl _; rfl
      rw [e _ hi h1] at hx
      exact hx
    have hb2 : (1 : Nat) < bad2.size := by decide
    have hne3 : ((47 : Int) != ((t[1]'h11).toNat : Int)) = true := by simp; omega
    clear f3 hx h1 hi
    refine wp_scope_straight ?_
    go_wp2
    go_loopw [9] (fun i wr => i = .int .i64 1 ∧ wr = w1) (fun _ _ => 0)
    case atStart => exact ⟨rfl, rfl⟩
    case round =>
      obtain ⟨rfl, rfl⟩ := hrel
      go_wp2
      try refine wp_scope_straight ?_
      go_wp2
      go_region
      go_wp2
      have hib : ∀ (y : Int) q, Calls Try.prog 43 #[.string ByteArray.empty, .int .u8 y] q fun e w' => e = .returned (.int .i64 (-1)) ∧ w' = q := fun y q => (ibyte _ y q).mono fun e w' ⟨h1, h2⟩ => ⟨h1, h2⟩
      have hB0 : Below wr.heap.size wr wr.drew := below_drew (Below.refl _ _)
      generalize wr.drew = wd at *
      have hw2 : IntKind.i64.wrap 2 = 2 := by decide
      have hbsn : bad2.size = 2 := rfl
      go_quiet ((go_at_call 43; exact Calls.quiet_of_same (hib _ _)))
      go_wp2
      rw [Exit.noGoto_ret]
      go_wp2
      rw [Exit.noGoto_ret]
      go_wp2
      go_ret
      exact ⟨rfl, below_drewN hB0 nq⟩
  · have h3 : 2 < t.size := by omega
    go_enter Try.func37, Try.ntmps37
    go_wp2_with (go_at_call 44; (with_reducible refine (vrune r _).mono ?_); rintro e w1 ⟨he, hw⟩; obtain rfl := he; rw [hvr]; subst hw)
    refine wp_scope_straight ?_
    go_wp2
    go_loopw [9] (fun i wr => i = .int .i64 (t.size - 1 : Nat) ∧ wr = w1) (fun _ _ => 0)
    case atStart => exact ⟨by congr 1; omega, rfl⟩
    case round =>
      obtain ⟨rfl, rfl⟩ := hrel
      have hle : ¬ ((t.size - 1 : Nat) : Int) < 2 := by omega
      go_wp2
      go_ret
      exact ⟨rfl, Below.refl _ _⟩

def badL : List UInt8 := [0, 47]
theorem bad_list : bad2.data.toList = badL := rfl
theorem noany_more {s : ByteArray} {pos q : Nat} (h : Lib.NoAny s.data.toList badL pos) (hx : ∀ k, pos + k < q → ∀ hp : pos + k < s.size, badL.contains (s[pos + k]'hp) = false) (hq : q ≤ s.size) : Lib.NoAny s.data.toList badL q := by
  intro j b hj hb
  by_cases h1 : j < pos
  · exact h j b h1 hb
  · obtain ⟨k, rfl⟩ : ∃ k, j = pos + k := ⟨j - pos, by omega⟩
    have e := Lib.data_getElem? s (pos + k) (by omega)
    rw [hb] at e
    injection e with e
    rw [e]
    exact hx k hj _
theorem bad_high (b : UInt8) (h : 128 ≤ b.toNat) : badL.contains b = false := by
  rw [List.contains_eq_any_beq]
  simp only [badL, List.any_cons, List.any_nil, Bool.or_false, Bool.or_eq_false_iff, beq_eq_false_iff_ne]
  constructor
  · rintro rfl; revert h; decide
  · rintro rfl; revert h; decide
theorem sset (n : Int) (w : World) : Calls Try.prog 38 #[.int .i64 n] w fun e w' => e = .returned (.bool (decide (8 < n))) ∧ w' = w := Any.strings_shouldUseASCIISet Try.lays226 n w
theorem World_lt {W : World} {g : Nat} {o : Obj} (hg : W.heap[g]? = some o) : g < W.heap.size := by
  rcases Nat.lt_or_ge g W.heap.size with hlt | hge
  · exact hlt
  · rw [Array.getElem?_eq_none hge] at hg; cases hg
theorem next_at (W : World) (g : Nat) (s : ByteArray) (pos : Nat) (hg : W.heap[g]? = some (.stringIter s pos)) (h : pos < s.size) :
    ∃ W', (∀ ty, (Instr.next (.pointer (some ⟨g, 0, none⟩)) true ty).run Try.prog W = .ok (.tuple #[.bool true, .int .i64 pos, .int .i32 (Utf8.decode s pos).1]) W') ∧ W'.heap[g]? = some (.stringIter s (pos + (Utf8.decode s pos).2)) ∧ Below g W W' := by
  have hlt : g < W.heap.size := by
    rcases Nat.lt_or_ge g W.heap.size with hlt | hge
    · exact hlt
    · rw [Array.getElem?_eq_none hge] at hg; cases hg
  refine ⟨{ W with heap := W.heap.setIfInBounds g (.stringIter s (pos + (Utf8.decode s pos).2)) }, fun ty => ?_, ?_, ?_⟩
  · simp [Instr.next, getObj, setObj, Sem.run, hg, h, goInt]
  · simp [hlt]
  · exact ⟨rfl, rfl, rfl, by simp, fun k hk => by simp [Nat.ne_of_gt hk]⟩
theorem next_end (W : World) (g : Nat) (s : ByteArray) (pos : Nat) (hg : W.heap[g]? = some (.stringIter s pos)) (h : ¬ pos < s.size) (ty : TypeId) :
    (Instr.next (.pointer (some ⟨g, 0, none⟩)) true ty).run Try.prog W = .ok (.tuple #[.bool false]) W := by
  simp [Instr.next, getObj, Sem.run, hg, h]
/-- What is found of one letter. -/
theorem rune_any (s : ByteArray) (pos : Nat) (h : pos < s.size) (w : World) : Calls Try.prog 37 #[.string bad2, .int .i32 ((Utf8.decode s pos).1 : Int)] w fun e w' =>
    (∃ z : Int, e = .returned (.int .i64 z) ∧ (0 ≤ z ↔ badL.contains (s[pos]'h) = true)) ∧ Below w.heap.size w w' := by
  by_cases ha : (s[pos]'h).toNat < 128
  · rw [decode_ascii s pos h ha]
    refine (irune bad2 ((s[pos]'h).toNat : Int) w (by omega) (by omega)).mono fun e w' ⟨h1, h2⟩ => ⟨⟨_, h1, ?_⟩, h2 ▸ Below.refl _ _⟩
    have e2 : (((s[pos]'h).toNat : Int)).toNat.toUInt8 = s[pos]'h := by simp
    rw [e2, bad_list, Lib.contains_iff_indexByte, decide_eq_true_eq]
  · have hx := (decode_high s pos h (by omega)).1
    have hv := decode_valid s pos
    have hno := bad_high (s[pos]'h) (by omega)
    rw [hno]
    by_cases hn : (Utf8.decode s pos).1 = 65533
    · rw [hn]
      exact (idx_none w).mono fun e w' ⟨h1, h2⟩ => ⟨⟨_, h1, by decide⟩, h2⟩
    · exact (idx_high _ w (by omega) (by omega) (by omega)).mono fun e w' ⟨h1, h2⟩ => ⟨⟨_, h1, by decide⟩, h2⟩
theorem noany_step {s : ByteArray} {pos : Nat} (h : Lib.NoAny s.data.toList badL pos) (hp : pos < s.size) (hx : badL.contains (s[pos]'hp) = false) : Lib.NoAny s.data.toList badL (pos + (Utf8.decode s pos).2) := by
  refine noany_more h (fun k hk hpk => ?_) (decode_width s pos hp)
  by_cases ha : (s[pos]'hp).toNat < 128
  · rw [decode_ascii s pos hp ha] at hk
    obtain rfl : k = 0 := by simp at hk; omega
    exact hx
  · exact bad_high _ (decode_bytes s pos hp (by omega) k (by omega) hpk)

set_option maxRecDepth 100000 in
set_option maxHeartbeats 1600000 in
theorem idx_short (s : ByteArray) (w : World) (h8 : s.size ≤ 8) :
    Calls Try.prog 34 #[.string s, .string bad2] w fun e w' => e = .returned (.int .i64 (Lib.indexAny s.data.toList badL)) ∧ Below w.heap.size w w' := by
  have h8z : decide ((8 : Int) < (s.size : Int)) = false := decide_eq_false (by omega)
  have hemp : bad2.toList.isEmpty = false := by rw [ByteArray.toList_eq]; rfl
  have hbn : bad2.size = 2 := rfl
  have hb0 : Below w.heap.size w (w.iter s 0) := (Below.refl _ _).alloc (Nat.le_refl _) _
  have hi0 := World.iter_heap w s 0
  go_enter Try.func34, Try.ntmps34
  go_wp2_with (go_at_call 38; (with_reducible refine (sset _ _).mono ?_); rintro e w1 ⟨he, hw⟩; obtain rfl := he; rw [h8z]; subst hw)
  go_loopw [9, 10] (fun _ _ wr => ∃ i : Nat, i ≤ s.size ∧ wr.heap[w1.heap.size]? = some (.stringIter s i) ∧ Below w1.heap.size w1 wr ∧ Lib.NoAny s.data.toList badL i) (fun _ _ wr => s.size - wr.iterPos w1.heap.size)
  case atStart => exact ⟨0, Nat.zero_le _, hi0, hb0, Lib.NoAny.zero _ _⟩
  case round =>
    obtain ⟨i, hi, hit, hbel, hno⟩ := hrel
    have HN := Lib.hid hno
    have HB := Lib.hid hbel
    clear hno hbel hi0 hb0
    by_cases hlt : i < s.size
    · obtain ⟨W2, hnx, hit2, hb2⟩ := next_at wr w1.heap.size s i hit hlt
      have hru := rune_any s i hlt
      have hpos := (decode_width s i hlt)
      have HS := Lib.hid (noany_step HN.out hlt)
      have hdp := Lib.decode_width_pos s i hlt
      have hxl := Lib.data_getElem? s i hlt
      have HX := Lib.hid hxl
      have HM := Lib.hid (show s.size - wr.iterPos w1.heap.size = s.size - i by simp [World.iterPos, hit])
      clear hit hxl
      generalize (Utf8.decode s i).1 = r at *
      generalize (Utf8.decode s i).2 = d at *
      generalize s[i]'hlt = x at *
      have HB2 := Lib.hid (HB.out.trans hb2)
      have HI2 := Lib.hid hit2
      clear hb2 hit2
      cases hin : badL.contains x
      · have HS2 := Lib.hid (HS.out hin)
        have hru2 : ∀ w : World, Calls Try.prog 37 #[.string bad2, .int .i32 (r : Int)] w fun e w' => (∃ z : Int, e = .returned (.int .i64 z) ∧ ¬ 0 ≤ z) ∧ Below w.heap.size w w' := fun w => (hru w).mono fun e w' ⟨⟨z, h1, h2⟩, h3⟩ => ⟨⟨z, h1, fun h => by rw [hin] at h2; cases h2.1 h⟩, h3⟩
        clear hru HS HX hin
        go_wp2_with (go_at_call 37; (with_reducible refine (hru2 _).mono ?_); rintro e w3 ⟨⟨z, he, hz⟩, hb3⟩; obtain rfl := he)
        have hsz := World_lt HI2.out
        have HI3 := Lib.hid ((hb3.block _ hsz).trans HI2.out)
        have HB3 := Lib.hid (HB2.out.trans (hb3.mono HB2.out.size))
        have HM3 := Lib.hid (show s.size - w3.iterPos w1.heap.size = s.size - (i + d) by simp [World.iterPos, HI3.out])
        clear hb3
        go_roundw
        case rel => exact ⟨i + d, hpos, HI3.out, HB3.out.mono (Nat.le_refl _), HS2.out⟩
        case measure => rw [HM.out, HM3.out]; omega
      · have hru2 : ∀ w : World, Calls Try.prog 37 #[.string bad2, .int .i32 (r : Int)] w fun e w' => (∃ z : Int, e = .returned (.int .i64 z) ∧ 0 ≤ z) ∧ Below w.heap.size w w' := fun w => (hru w).mono fun e w' ⟨⟨z, h1, h2⟩, h3⟩ => ⟨⟨z, h1, h2.2 hin⟩, h3⟩
        have HH := Lib.hid (Lib.indexAny_hit HN.out HX.out hin)
        clear hru HS HX hin
        go_wp2_with (go_at_call 37; (with_reducible refine (hru2 _).mono ?_); rintro e w3 ⟨⟨z, he, hz⟩, hb3⟩; obtain rfl := he)
        go_ret
        exact ⟨by rw [HH.out]; rfl, HB2.out.trans (hb3.mono HB2.out.size)⟩
    · obtain rfl : i = s.size := by omega
      have hnx := next_end wr w1.heap.size s s.size hit hlt
      have HH := Lib.hid (Lib.indexAny_none (s := s.data.toList) (chars := badL) (by rw [← Lib.size_eq]; exact HN.out))
      go_wp2
      go_ret
      exact ⟨by rw [HH.out]; rfl, HB.out⟩
/-- Where the first byte 0, or slash, stands. -/
theorem idx_any (s : ByteArray) (w : World) (hs : s.size ≤ 13) :
    Calls Try.prog 34 #[.string s, .string bad2] w fun e w' => e = .returned (.int .i64 (Lib.indexAny s.data.toList badL)) ∧ Below w.heap.size w w' := by
  by_cases h8 : s.size ≤ 8
  · exact idx_short s w h8
  · have h116 : (Try.prog.info? (Try.lays153_ren.t 116)).map (fun i => (i.zero, i.size)) = some (some (.agg (Array.replicate 256 (.bool false))), 256) := by kernel_rfl
    refine (Any.strings_IndexAny_long Try.lays153 (Go.zero_of_info h116).1 (Go.zero_of_info h116).2 s bad2 w (by decide) (by omega) (by omega) (by decide) ?_).mono ?_
    · intro j b hj
      rw [bad_list] at hj
      match j, hj with
      | 0, hj => cases hj; decide
      | 1, hj => cases hj; decide
    · rintro e w' ⟨h1, rfl⟩
      exact ⟨h1, ((Below.refl _ _).alloc (Nat.le_refl _) _).alloc (by simp) _⟩
set_option maxRecDepth 100000 in
theorem contains_any (s : ByteArray) (w : World) (hs : s.size ≤ 13) :
    Calls Try.prog 28 #[.string s, .string bad2] w fun e w' => e = .returned (.bool (s.data.toList.any fun c => c == 0 || c == 47)) ∧ Below w.heap.size w w' := by
  have e : (s.data.toList.any fun c => c == 0 || c == 47) = decide (0 ≤ Lib.indexAny s.data.toList badL) := by
    generalize s.data.toList = l
    induction l with
    | nil => rfl
    | cons b l ih =>
      have hg := Lib.indexAny_ge badL l
      rw [List.any_cons, ih, Lib.indexAny, List.contains_eq_any_beq]
      by_cases h : (b == 0 || b == 47) = true
      · have h' : (badL.any fun x => b == x) = true := by simpa [badL] using h
        rw [if_pos h', h]
        rfl
      · have h' : ¬ (badL.any fun x => b == x) = true := by simpa [badL] using h
        rw [if_neg h', Bool.eq_false_iff.2 h, Bool.false_or]
        split
        · rename_i hm
          have := beq_iff_eq.1 hm
          rw [this]
        · rename_i hm
          have : Lib.indexAny l badL ≠ -1 := by simpa using hm
          rw [decide_eq_decide]
          omega
  go_enter Try.func28, Try.ntmps28
  go_wp2_with (go_at_call 34; (with_reducible refine (idx_any s _ hs).mono ?_); rintro e w1 ⟨he, hb⟩; obtain rfl := he)
  go_ret
  exact ⟨by rw [e]; rfl, hb⟩
end Go.Proofs.Ythpppkkagepomaa.Entry
