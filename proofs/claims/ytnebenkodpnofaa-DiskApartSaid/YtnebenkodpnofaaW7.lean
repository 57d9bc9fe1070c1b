/-
  One act on a disk; what can be seen of a disk.
-/
import Derived.Test.YtnebenkodpnofaaW5
import Derived.Test.YtnebenkodpnofaaW6
namespace Go.Proofs.Ytnebenkodpnofaa
open Go.RowKit
attribute [local go_sem ↓] Go.wp_at_zero Go.wp_at_succ

theorem Turned.trans {α : Type} {f : α → List Value} {S S1 : Nat → Prop} {w w1 w2 : World} {b : Nat} {k : Dk α} (hK : Kept S w w1) (hS : ∀ i, S1 i → S i ∨ w.heap.size ≤ i) (h : Turned f S1 w1 w2 b k) : Turned f S w w2 b k := by
  obtain ⟨h1, S2, h2, h3⟩ := h
  refine ⟨hK.trans h1 hS, S2, h2, fun i hi => ?_⟩
  rcases h3 i hi with h | h
  · exact hS i h
  · exact .inr (Nat.le_trans hK.size h)

/-- One act. -/
def Dk.run (k : Dk Nat) (a : Act) : Dk Nat :=
  if a.kind % 5 = 0 ∨ a.kind % 5 = 1 then (k.write a.at_ a.c).2 else if a.kind % 5 = 2 then k.flush else if a.kind % 5 = 3 then k.cutAt a.at_ else k.crash a.there

set_option maxHeartbeats 1600000 in
theorem run_any (w : World) (S : Nat → Prop) (b : Nat) (k : Dk Nat) (h : IsDisk sec w S b k) (hun : k.un.length ≤ 1073741824) (a : Act) (hg : a.Good) :
    Calls Try.prog 23 #[.pointer (some ⟨b, 0, none⟩), .agg #[.int .u8 (a.kind : Int), .int .i64 a.at_, .int .u8 (a.c : Int), .slice a.bA a.bn a.bc, .int .u16 a.tag, .int .u64 (a.there : Int)]] w fun e w' => e = .returned (.tuple #[]) ∧ Turned sec S w w' b (k.run a) := by
  have Hg := Lib.hid hg
  have D := Lib.hid (h.below ((Below.refl _ w).alloc (Nat.le_refl _) (.cells #[.int .u8 (a.kind : Int), .int .i64 a.at_, .int .u8 (a.c : Int), .slice a.bA a.bn a.bc, .int .u16 a.tag, .int .u64 (a.there : Int)] 34)))
  have K := Lib.hid (Kept.of_below (S := S) ((Below.refl _ w).alloc (Nat.le_refl _) (.cells #[.int .u8 (a.kind : Int), .int .i64 a.at_, .int .u8 (a.c : Int), .slice a.bA a.bn a.bc, .int .u16 a.tag, .int .u64 (a.there : Int)] 34)))
  have hlt := Lib.hid fun i (hi : S i) => h.lt hi
  clear h hg
  have hk5 : (a.kind : Int) % 5 = 0 ∨ (a.kind : Int) % 5 = 1 ∨ (a.kind : Int) % 5 = 2 ∨ (a.kind : Int) % 5 = 3 ∨ (a.kind : Int) % 5 = 4 := by omega
  rcases hk5 with hk | hk | hk | hk | hk
  · have hr : k.run a = (k.write a.at_ a.c).2 := by unfold Dk.run; rw [if_pos (by omega)]
    rw [hr]
    clear hr
    go_enter Try.func23, Try.ntmps23
    go_wp2_with fail
    refine (patch_any _ a.c Hg.out.c _).mono ?_
    rintro e u ⟨g, rfl, hgl, hB, hb⟩
    have D1 := Lib.hid (D.out.below hb)
    have N := Lib.hid (show ¬ S g from fun hs => by have := hlt.out g hs; have h2 := hgl; simp at h2; omega)
    have HB := Lib.hid hB
    have K1 := Lib.hid (K.out.trans (Kept.of_below (S := S) hb) fun i hi => .inl hi)
    clear hgl hB hb
    go_wp2_with fail
    refine (write_same _ _ _ k D1.out a.at_ a.c g HB.out N.out hun).mono ?_
    rintro e v ⟨rfl, ht⟩
    have T := Lib.hid (Turned.trans K1.out (fun i hi => .inl hi) ht)
    clear ht
    go_wp2
    go_end0
    exact ⟨rfl, T.out⟩
  · have hr : k.run a = (k.write a.at_ a.c).2 := by unfold Dk.run; rw [if_pos (by omega)]
    rw [hr]
    clear hr
    go_enter Try.func23, Try.ntmps23
    go_wp2_with fail
    refine (patch_any _ a.c Hg.out.c _).mono ?_
    rintro e u ⟨g, rfl, hgl, hB, hb⟩
    have D1 := Lib.hid (D.out.below hb)
    have N := Lib.hid (show ¬ S g from fun hs => by have := hlt.out g hs; have h2 := hgl; simp at h2; omega)
    have HB := Lib.hid hB
    have K1 := Lib.hid (K.out.trans (Kept.of_below (S := S) hb) fun i hi => .inl hi)
    clear hgl hB hb
    go_wp2_with fail
    refine (write_same _ _ _ k D1.out a.at_ a.c g HB.out N.out hun).mono ?_
    rintro e v ⟨rfl, ht⟩
    have T := Lib.hid (Turned.trans K1.out (fun i hi => .inl hi) ht)
    clear ht
    go_wp2
    go_end0
    exact ⟨rfl, T.out⟩
  · have hr : k.run a = k.flush := by unfold Dk.run; rw [if_neg (by omega), if_pos (by omega)]
    rw [hr]
    clear hr
    go_enter Try.func23, Try.ntmps23
    go_wp2_with fail
    refine (flush_any sec_enc _ _ _ k D.out hun).mono ?_
    rintro e v ⟨rfl, ht⟩
    have T := Lib.hid (Turned.trans K.out (fun i hi => .inl hi) ht)
    clear ht
    go_wp2
    all_goals (go_end0; exact ⟨rfl, T.out⟩)
  · have hr : k.run a = k.cutAt a.at_ := by unfold Dk.run; rw [if_neg (by omega), if_neg (by omega), if_pos (by omega)]
    rw [hr]
    clear hr
    go_enter Try.func23, Try.ntmps23
    go_wp2_with fail
    refine (cut_any _ _ _ k D.out a.at_).mono ?_
    rintro e v ⟨rfl, ht⟩
    have T := Lib.hid (Turned.trans K.out (fun i hi => .inl hi) ht)
    clear ht
    go_wp2
    all_goals (go_end0; exact ⟨rfl, T.out⟩)
  · have hr : k.run a = k.crash a.there := by unfold Dk.run; rw [if_neg (by omega), if_neg (by omega), if_neg (by omega)]
    rw [hr]
    clear hr
    go_enter Try.func23, Try.ntmps23
    go_wp2_with fail
    refine (crash_any sec_enc _ _ _ k D.out hun a.there Hg.out.there).mono ?_
    rintro e v ⟨rfl, ht⟩
    have T := Lib.hid (Turned.trans K.out (fun i hi => .inl hi) ht)
    clear ht
    go_wp2
    all_goals (go_end0; exact ⟨rfl, T.out⟩)

/-- A disk of ten sectors, all of bytes. -/
structure Ten (j : Nat) (k : Dk Nat) : Prop where
  len : k.safe.length = 10
  un : k.un.length ≤ j
  safe : ∀ c ∈ k.safe, c < 256
  uns : ∀ p ∈ k.un, p.2 < 256
theorem puts_small {L : List Nat} {l : List (Nat × Nat)} (h1 : ∀ c ∈ L, c < 256) (h2 : ∀ p ∈ l, p.2 < 256) : ∀ c ∈ puts L l, c < 256 := by
  induction l generalizing L with
  | nil => exact h1
  | cons p l ih =>
    rw [puts_cons]
    refine ih (fun c hc => ?_) fun q hq => h2 q (by simp [hq])
    rcases List.mem_or_eq_of_mem_set hc with h | rfl
    · exact h1 c h
    · exact h2 p (by simp)
theorem Ten.now {j : Nat} {k : Dk Nat} (h : Ten j k) : ∀ c ∈ k.now, c < 256 := puts_small h.safe h.uns
theorem Ten.nowLen {j : Nat} {k : Dk Nat} (h : Ten j k) : k.now.length = 10 := (length_puts _ _).trans h.len
theorem Ten.more {j i : Nat} {k : Dk Nat} (h : Ten j k) (hi : j ≤ i) : Ten i k := ⟨h.len, Nat.le_trans h.un hi, h.safe, h.uns⟩
theorem Ten.start : Ten 0 (Dk.fresh 10 0) := ⟨List.length_replicate, Nat.le_refl _, fun c hc => by
  simp only [Dk.fresh, List.mem_replicate] at hc
  omega, fun p hp => by cases hp⟩
theorem Ten.op {j : Nat} {k : Dk Nat} (h : Ten j k) : Ten j k.op :=
  ⟨by rw [Dk.op_safe]; exact h.len, by rw [Dk.op_un]; exact h.un, by rw [Dk.op_safe]; exact h.safe, by rw [Dk.op_un]; exact h.uns⟩
theorem Ten.crash {j : Nat} {k : Dk Nat} (h : Ten j k) (t : Nat) : Ten j (k.crash t) := by
  refine ⟨?_, Nat.zero_le _, ?_, fun p hp => by cases hp⟩
  · show (puts k.safe _).length = 10
    rw [length_puts, h.len]
  · exact puts_small h.safe fun p hp => h.uns p (kept_mem p hp)
theorem Ten.run {j : Nat} {k : Dk Nat} (h : Ten j k) (a : Act) (hg : a.Good) : Ten (j + 1) (k.run a) := by
  unfold Dk.run
  split
  · unfold Dk.write
    split
    · split
      · exact h.op.more (Nat.le_succ _)
      · refine ⟨h.op.len, by have := h.un; simp [Dk.wrote]; omega, h.op.safe, fun p hp => ?_⟩
        simp only [Dk.wrote, List.mem_append, List.mem_singleton] at hp
        rcases hp with hp | rfl
        · exact h.uns p hp
        · exact hg.c
    · exact h.more (Nat.le_succ _)
  · split
    · unfold Dk.flush
      split
      · exact h.op.more (Nat.le_succ _)
      · exact ⟨h.nowLen, Nat.zero_le _, h.now, fun p hp => by cases hp⟩
    · split
      · unfold Dk.cutAt
        split
        · exact h.more (Nat.le_succ _)
        · exact ⟨h.len, Nat.le_trans h.un (Nat.le_succ _), h.safe, h.uns⟩
      · exact (h.crash a.there).more (Nat.le_succ _)


/-- The number of operations, as a byte. -/
def dbyte (k : Dk Nat) : UInt8 := UInt8.ofNat (k.done % 256).toNat
/-- What is seen of so many sectors. -/
def pref (k : Dk Nat) : Nat → ByteArray
  | 0 => ⟨#[dbyte k, 10]⟩
  | j + 1 => pref k j ++ (strS (k.now.getD j 0) ++ ⟨#[UInt8.ofNat (k.now.getD j 0)]⟩)
theorem strS_size (c : Nat) : (strS c).size = 64 := by
  show (List.replicate 64 (UInt8.ofNat c)).toArray.size = 64
  simp
theorem pref_size (k : Dk Nat) (j : Nat) : (pref k j).size = 2 + 65 * j := by
  induction j with
  | zero => rfl
  | succ j ih =>
    have h1 : (⟨#[UInt8.ofNat (k.now.getD j 0)]⟩ : ByteArray).size = 1 := rfl
    rw [pref, ByteArray.size_append, ByteArray.size_append, ih, strS_size, h1]
    omega
/-- What is seen of a disk. -/
def seenS (k : Dk Nat) : ByteArray := if k.dead then ⟨#[dbyte k, 10]⟩ ++ ⟨#[100, 101, 97, 100]⟩ else pref k 10

set_option maxHeartbeats 1600000 in
theorem seen_any (w : World) (S : Nat → Prop) (b j : Nat) (k : Dk Nat) (h : IsDisk sec w S b k) (hT : Ten j k) :
    Calls Try.prog 24 #[.pointer (some ⟨b, 0, none⟩)] w fun e w' => e = .returned (.string (seenS k)) ∧ Below w.heap.size w w' := by
  have hlen : Hid (((k.safe.length : Nat) : Int) = 10) := by unfold Hid; rw [hT.len]; rfl
  have D := Lib.hid h
  have T := Lib.hid hT
  clear h hT
  obtain ⟨x, hx, hxd⟩ : ∃ x : UInt8, k.done % 256 = (x.toNat : Int) ∧ x = dbyte k := ⟨dbyte k, by
    have h1 : (UInt8.ofNat (k.done % 256).toNat).toNat = (k.done % 256).toNat := by simp; omega
    unfold dbyte
    rw [h1]
    omega, rfl⟩
  have Hxd := Lib.hid hxd
  clear hxd
  have hconv : (convert 29 9 (.slice (some ⟨w.heap.size, 0, none⟩) 2 2)).run Try.prog (w.alloc (.cells #[.int .u8 (x.toNat : Int), .int .u8 10] 5)) = .ok (.string ⟨#[x, 10]⟩) (w.alloc (.cells #[.int .u8 (x.toNat : Int), .int .u8 10] 5)) :=
    run_str _ 29 9 5 Try.underlying29 Try.underlying5 Try.underlying9 _ _ 2 2 [x, 10] rfl ((Bk.new w 5 [.int .u8 (x.toNat : Int), .int .u8 10]).rd 2 0)
  have D1 := Lib.hid (D.out.below ((Below.refl _ w).alloc (Nat.le_refl _) (.cells #[.int .u8 (x.toNat : Int), .int .u8 10] 5)))
  have L1 := Lib.hid ((Below.refl _ w).alloc (Nat.le_refl _) (.cells #[.int .u8 (x.toNat : Int), .int .u8 10] 5))
  unfold seenS
  cases hd : k.dead
  · have Hd := Lib.hid hd
    clear hd
    go_enter Try.func24, Try.ntmps24
    go_wp2_with (first
      | (go_at_call 20; refine (done_any _ _ _ k D.out).mono ?_; rintro e w' ⟨rfl, rfl⟩)
      | (go_at_call 21; refine (len_any _ _ _ k D.out).mono ?_; rintro e w' ⟨rfl, rfl⟩; rw [hlen.out])
      | (go_at_call 19; refine (dead_any _ _ _ k D1.out).mono ?_; rintro e w' ⟨rfl, rfl⟩; rw [Hd.out]))
    go_loopw [3, 21] (fun st i wr => ∃ (i' : Nat) (p : ByteArray), i' ≤ 10 ∧ i = .int .i64 (i' : Int) ∧ st = .string p ∧ Hid (p = pref k i') ∧ IsDisk sec wr S b k ∧ Below w.heap.size w wr) (fun _ i _ => 10 - (intOf i).toNat)
    case atStart => exact ⟨0, _, by omega, rfl, rfl, (by rw [Hxd.out]; exact rfl : Hid ((⟨#[x, 10]⟩ : ByteArray) = pref k 0)), D1.out, L1.out⟩
    case round =>
      clear hconv D1 L1 D
      obtain ⟨i, p, hi, rfl, rfl, hp, hD, hL⟩ := hrel
      have D := Lib.hid hD
      have L := Lib.hid hL
      clear hD hL
      by_cases hlt : i < 10
      · obtain ⟨c, hc⟩ : ∃ c, k.now[i]? = some c := ⟨_, List.getElem?_eq_getElem (by rw [T.out.nowLen]; exact hlt)⟩
        have hc256 := T.out.now c (List.mem_iff_getElem?.2 ⟨i, hc⟩)
        have hcd : k.now.getD i 0 = c := by rw [List.getD_eq_getElem?_getD, hc]; rfl
        have Hc := Lib.hid hc
        have Hcd := Lib.hid hcd
        clear hc hcd
        have hps : p.size = 2 + 65 * i := by rw [hp.out]; exact pref_size k i
        have hss := strS_size c
        have hcv : (c : Int) % 256 = (c : Int) := by omega
        go_wp2_with fail
        refine (read_any _ _ _ k D.out i c (same c) (.int .u16 (c : Int)) Hc.out rfl (same_length c) (same_one c) Hd.out).mono ?_
        rintro e v ⟨rfl, hB, hb⟩
        have D2 := Lib.hid (D.out.below hb)
        obtain ⟨g, hg⟩ : ∃ g, g = wr.heap.size := ⟨_, rfl⟩
        have L2 := Lib.hid (L.out.trans (hb.mono L.out.size))
        rw [← hg] at hB ⊢
        have hc1 := conv_any hB hc256
        have hu : (UInt8.ofNat c).toNat = c := by simp; omega
        have hc2 : (convert 29 9 (.slice (some ⟨v.heap.size, 0, none⟩) 1 1)).run Try.prog (v.alloc (.cells #[.int .u8 (c : Int)] 5)) = .ok (.string ⟨#[UInt8.ofNat c]⟩) (v.alloc (.cells #[.int .u8 (c : Int)] 5)) := by
          have := run_str (P := Try.prog) (v.alloc (.cells #[.int .u8 (c : Int)] 5)) 29 9 5 Try.underlying29 Try.underlying5 Try.underlying9 _ _ 1 1 [UInt8.ofNat c] rfl (by
            have h := (Bk.new v 5 [.int .u8 (c : Int)]).rd 1 0
            have e : bytesV [UInt8.ofNat c] = [.int .u8 (c : Int)] := by simp only [bytesV, List.map_cons, List.map_nil, byteV, hu]
            rw [e]
            exact h)
          exact this
        clear hB hb hg hu
        go_wp2_with fail
        refine (tag_any _ _ _ k D2.out i c (same c) (.int .u16 (c : Int)) Hc.out rfl (same_length c) Hd.out).mono ?_
        rintro e v2 ⟨rfl, rfl⟩
        have D3 := Lib.hid (D2.out.below ((Below.refl _ v).alloc (Nat.le_refl _) (.cells #[.int .u8 (c : Int)] 5)))
        have L3 := Lib.hid (L2.out.alloc L2.out.size (.cells #[.int .u8 (c : Int)] 5))
        go_wp2

        go_roundw
        case rel => exact ⟨i + 1, _, by omega, by go_num, rfl, (by unfold Hid; rw [pref, ← hp.out, Hcd.out]), D3.out, L3.out⟩
        case measure => simp [intOf]; omega
      · obtain rfl : i = 10 := by omega
        go_wp2
        go_ret
        exact ⟨by rw [hp.out]; rfl, L.out⟩
  · have Hd := Lib.hid hd
    clear hd
    go_enter Try.func24, Try.ntmps24
    go_wp2_with (first
      | (go_at_call 20; refine (done_any _ _ _ k D.out).mono ?_; rintro e w' ⟨rfl, rfl⟩)
      | (go_at_call 21; refine (len_any _ _ _ k D.out).mono ?_; rintro e w' ⟨rfl, rfl⟩; rw [hlen.out])
      | (go_at_call 19; refine (dead_any _ _ _ k D1.out).mono ?_; rintro e w' ⟨rfl, rfl⟩; rw [Hd.out]))
    go_ret
    exact ⟨by rw [Hxd.out]; rfl, L1.out⟩

end Go.Proofs.Ytnebenkodpnofaa
