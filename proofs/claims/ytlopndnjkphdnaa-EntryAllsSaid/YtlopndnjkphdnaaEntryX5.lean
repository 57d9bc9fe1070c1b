/-
  The entry of bytes: package entry's Take.
-/
import Derived.Test.YtlopndnjkphdnaaEntryX4
namespace Go.Proofs.Ytlopndnjkphdnaa.Entry
open Go.RowKit

/-- What Take hands back. -/
def entV (n : List UInt8) (i : Nat) : Value := .agg #[.string ⟨n.toArray⟩, .int .i64 (i : Int)]
def slotV : Option Slot → Value
  | some (some x) => .tuple #[entV x.n x.i, .bool true, .int .i64 0]
  | some none => .tuple #[entV [] 0, .bool false, .int .i64 0]
  | none => .tuple #[entV [] 0, .bool false, .int .i64 121]
theorem name_entB {x : Ent} (h : Ok x) : nameL (entB hsh x) = x.n := by
  have hl := name_len h.name
  have e : (entB hsh x).getD 0 0 = UInt8.ofNat x.n.length := by rw [entB_eq]; rfl
  have e2 : (UInt8.ofNat x.n.length).toNat = x.n.length := by simp; omega
  have e3 : (entB hsh x).drop 3 = x.n ++ List.replicate (16 - (x.n.length + 3)) 0 := by rw [entB_eq]; rfl
  unfold nameL
  rw [e, e2, e3, show min x.n.length 13 = x.n.length by omega, List.take_left]
theorem ino_entB {x : Ent} (h : Ok x) : ((entB hsh x).getD 2 0).toNat = x.i := by
  have hi := h.ino
  have e : (entB hsh x).getD 2 0 = UInt8.ofNat x.i := by rw [entB_eq]; rfl
  rw [e]
  simp
  omega
theorem takS_free {b : List UInt8} (h : (b == zeros16) = true) : takS hsh b = some none := by
  have e : b = zeros16 := by simpa using h
  subst e
  exact tak_slot (s := none) .none
theorem takS_len {b : List UInt8} (h : b.length ≠ 16) : takS hsh b = none := by
  cases ht : takS hsh b with
  | none => rfl
  | some s =>
    obtain ⟨h1, h2⟩ := slot_tak ht
    have := length_slotB (H := hsh) h1
    rw [h2] at this
    exact absurd this h
theorem takS_yes {b : List UInt8} (hn : nameB (nameL b) = true) (hi : (b.getD 2 0).toNat < 64) (he : (b == entB hsh ⟨nameL b, (b.getD 2 0).toNat⟩) = true) : takS hsh b = some (some ⟨nameL b, (b.getD 2 0).toNat⟩) := by
  have e : b = entB hsh ⟨nameL b, (b.getD 2 0).toNat⟩ := by simpa using he
  have := tak_slot (H := hsh) (s := some ⟨nameL b, (b.getD 2 0).toNat⟩) (.some ⟨hn, hi⟩)
  rwa [show slotB hsh (some ⟨nameL b, (b.getD 2 0).toNat⟩) = b from e.symm] at this
theorem takS_some {b : List UInt8} (hf : (b == zeros16) = false) {s : Slot} (h : takS hsh b = some s) : nameB (nameL b) = true ∧ (b.getD 2 0).toNat < 64 ∧ (b == entB hsh ⟨nameL b, (b.getD 2 0).toNat⟩) = true := by
  obtain ⟨h1, h2⟩ := slot_tak h
  cases s with
  | none =>
    have : b = zeros16 := h2.symm
    rw [this] at hf
    simp at hf
  | some x =>
    have hx := h1 x rfl
    have h3 : entB hsh x = b := h2
    rw [← h3, name_entB hx, ino_entB hx]
    exact ⟨hx.name, hx.ino, by simp⟩
theorem takS_no {b : List UInt8} (hf : (b == zeros16) = false) (h : ¬ (nameB (nameL b) = true ∧ (b.getD 2 0).toNat < 64 ∧ (b == entB hsh ⟨nameL b, (b.getD 2 0).toNat⟩) = true)) : takS hsh b = none := by
  cases ht : takS hsh b with
  | none => rfl
  | some s => exact absurd (takS_some hf ht) h

theorem part_goal {P Q : Prop} (h : Hid P → Q) (p : P) : Q := h (Lib.hid p)
theorem ent_all {w : World} {g : Nat} {a b : Value} (h : Bk w g 23 [a, b]) : w.cell? ⟨g, 0, none⟩ = some a ∧ w.cell? ⟨g, 1, none⟩ = some b ∧ w.frozen? ⟨g, 0, none⟩ = false ∧ w.frozen? ⟨g, 1, none⟩ = false := ⟨h.cell 0, h.cell 1, h.frozen 0, h.frozen 1⟩
/-- A zero result, behind sixteen bytes more. -/
theorem zero_res (w : World) : ((w.alloc (.cells #[.string ⟨#[]⟩, .int .i64 0] 23)).alloc (.cells (bytesV zeros16).toArray 5)).cell? ⟨w.heap.size, 0, none⟩ = some (.string ⟨#[]⟩) ∧
    ((w.alloc (.cells #[.string ⟨#[]⟩, .int .i64 0] 23)).alloc (.cells (bytesV zeros16).toArray 5)).cell? ⟨w.heap.size, 1, none⟩ = some (.int .i64 0) ∧
    Below w.heap.size w ((w.alloc (.cells #[.string ⟨#[]⟩, .int .i64 0] 23)).alloc (.cells (bytesV zeros16).toArray 5)) := by
  have h := (Bk.new w 23 [.string ⟨#[]⟩, .int .i64 0]).below (alloc_below _ (.cells (bytesV zeros16).toArray 5)) (by simp)
  obtain ⟨h0, h1⟩ := ent_cells h
  exact ⟨h0, h1, (alloc_below w _).trans ((alloc_below _ _).mono (by simp))⟩
/-- What Take leaves. -/
def HandsT (w : World) (r : Option Slot) (e : Ending) (w' : World) : Prop := e = .returned (slotV r) ∧ Below w.heap.size w w'
set_option maxHeartbeats 1600000 in
theorem take_any (l : List UInt8) (A : Option Addr) (n c : Nat) (w : World) (hn : l.length = n) (hr : Rd w w.heap.size A (bytesV l)) (hc : n ≤ c) :
    Calls Try.prog 13 #[.slice A n c] w fun e w' => HandsT w (takS hsh l) e w' := by
  have Hn := Lib.hid hn
  have Hr := Lib.hid hr
  cases hf : (l == zeros16)
  · by_cases h16 : n = 16
    · subst h16
      obtain ⟨b, o, rfl, hbB⟩ := rd_at hr (bytesV_ne hn (by omega))
      have hc2 := rd_get hr 2 (by omega)
      have HN := Lib.hid (fun w' (hr' : Rd w' w.heap.size (some ⟨b, o, none⟩) (bytesV l)) => name_at l b o c w.heap.size w' hn hr' hc)
      have HF := Lib.hid hf
      have hx256 := (l.getD 2 0).toNat_lt
      obtain ⟨k, hk⟩ : ∃ k : Nat, (l.getD 2 0).toNat = k := ⟨_, rfl⟩
      rw [hk] at hc2 hx256
      have HT := Lib.hid (takS_yes (b := l))
      have HTN := Lib.hid (takS_no (b := l) hf)
      rw [hk] at HT HTN
      have HLA := Lib.hid (fun w => lay_any ⟨(nameL l).toArray⟩ (k : Int) w)
      have hdl : (⟨(nameL l).toArray⟩ : ByteArray).data.toList = nameL l := rfl
      rw [hdl] at HLA
      generalize nameL l = nm at *
      clear hn hr hk hdl hf
      go_enter Try.func13, Try.ntmps13
      go_wp2_with (go_at_call 33; (with_reducible refine (free_any l _ 16 c w.heap.size _ Hn.out (Hr.out.below (alloc_below _ _)) (Nat.le_of_lt (World_lt (heap_alloc_new _ _)))).mono ?_); rintro e w1 ⟨he, hw⟩; obtain rfl := he; rw [HF.out]; have HW1 := Lib.hid hw; clear hw)
      have hb1 : Below w.heap.size w w1 := by rw [HW1.out]; exact (alloc_below w _).trans ((alloc_below _ _).mono (by simp))
      have hr0 : Bk w1 w.heap.size 23 [.string ⟨#[]⟩, .int .i64 0] := by rw [HW1.out]; exact (Bk.new w 23 [.string ⟨#[]⟩, .int .i64 0]).below (alloc_below _ _) (by simp)
      have HC := Lib.hid ((hb1.cell (p := ⟨b, o + 2, none⟩) hbB).trans hc2)
      have hkk : IntKind.i64.wrap (k : Int) = (k : Int) := by rw [IntKind.wrap_i64]; omega
      have hszW : w.heap.size < w1.heap.size := hr0.lt
      have hbs : b < w1.heap.size := by omega
      have HCD := Lib.hid (show w1.drew.cell? ⟨b, o + 2, none⟩ = some (.int .u8 (k : Int)) from HC.out)
      have HCA := Lib.hid (fun o' => show (w1.alloc o').drew.cell? ⟨b, o + 2, none⟩ = some (.int .u8 (k : Int)) from ((alloc_below w1 o').cell (p := ⟨b, o + 2, none⟩) hbs).trans HC.out)
      have HRD := Lib.hid (show Rd w1.drew w.heap.size (some ⟨b, o, none⟩) (bytesV l) from Hr.out.below (below_drew hb1))
      have HRA := Lib.hid (fun o' => show Rd (w1.alloc o').drew w.heap.size (some ⟨b, o, none⟩) (bytesV l) from Hr.out.below (below_drew (hb1.trans ((alloc_below w1 o').mono (Nat.le_of_lt hszW)))))
      have HB1 := Lib.hid hb1
      have HR0 := Lib.hid hr0
      clear HC hb1 hr0 hc2 HW1 hbs
      apply part_goal
      · intro key
        go_region_held3 (fun u => u.cell? ⟨b, o + 2, none⟩ = some (.int .u8 (k : Int)))
          (first | with_reducible exact HCD.out | with_reducible exact HCA.out _)
          (first
            | (go_at_call 34; (with_reducible refine (HN.out _ HRD.out).mono ?_); rintro e w2 ⟨he, hw2⟩; obtain rfl := he; obtain rfl := hw2)
            | (go_at_call 34; (with_reducible refine (HN.out _ (HRA.out _)).mono ?_); rintro e w2 ⟨he, hw2⟩; obtain rfl := he; obtain rfl := hw2))
        all_goals exact key.out
      have hbA := alloc_below w1 (.cells #[.string ⟨nm.toArray⟩, .int .i64 (k : Int)] 23)
      have hk := Bk.new w1 23 [.string ⟨nm.toArray⟩, .int .i64 (k : Int)]
      have HK := Lib.hid (show Bk (w1.alloc (.cells #[.string ⟨nm.toArray⟩, .int .i64 (k : Int)] 23)).drew w1.heap.size 23 [.string ⟨nm.toArray⟩, .int .i64 (k : Int)] from hk)
      have HR2 := Lib.hid (show Bk (w1.alloc (.cells #[.string ⟨nm.toArray⟩, .int .i64 (k : Int)] 23)).drew w.heap.size 23 [.string ⟨#[]⟩, .int .i64 0] from HR0.out.below (below_drew hbA) hszW)
      have HB2 := Lib.hid (below_drew (HB1.out.trans (hbA.mono (Nat.le_of_lt hszW))))
      have hsz2 : w1.heap.size < (w1.alloc (.cells #[.string ⟨nm.toArray⟩, .int .i64 (k : Int)] 23)).drew.heap.size := HK.out.lt
      clear hbA hk HCD HCA HRD HRA HB1 HR0 HN
      generalize (w1.alloc (.cells #[.string ⟨nm.toArray⟩, .int .i64 (k : Int)] 23)).drew = W at *
      generalize w1.heap.size = g at *
      obtain ⟨c0, c1⟩ := ent_cells HK.out
      by_cases hA : nameB nm = true ∧ k < 64
      · have hle := layE_yes (H := hsh) hA.1 (i := (k : Int)) (by omega)
        rw [Int.toNat_natCast] at hle
        rw [hle] at HLA
        have HLen := Lib.hid (length_entB (H := hsh) (x := ⟨nm, k⟩) ⟨hA.1, hA.2⟩)
        cases hbe : (l == entB hsh ⟨nm, k⟩)
        · have HP := Lib.hid (HTN.out (fun h => by rw [hbe] at h; exact absurd h.2.2 (by decide)))
          have HBE := Lib.hid hbe
          generalize entB hsh ⟨nm, k⟩ = out at *
          clear hA hle hbe HT HTN
          go_wp2_with (first
            | (go_at_call 11; (with_reducible refine (HLA.out _).mono ?_); rintro e w3 ⟨v3, he, hown3, hb3⟩; obtain rfl := he; rw [HLen.out] at hown3; obtain ⟨-, A3, c3, hv3, -, -, hr3⟩ := own_rd hown3; subst hv3; obtain ⟨x0, x1, y0, y1⟩ := ent_all (HR2.out.below hb3 HR2.out.lt); obtain ⟨p0, p1, -, -⟩ := ent_all (HK.out.below hb3 hsz2); have HR3 := Lib.hid hr3; have HB3 := Lib.hid hb3; clear hown3 hr3 hb3)
            | (go_at_call 35; (with_reducible refine (equal_any l out _ 16 c A3 16 c3 w.heap.size w3.heap.size _ Hn.out (Hr.out.below (HB2.out.trans (HB3.out.mono HB2.out.size))) HLen.out HR3.out).mono ?_); rintro e w4 ⟨he, hw4⟩; obtain rfl := he; rw [HBE.out]; obtain rfl := hw4))
          rw [HP.out]
          have hfin := ((HB2.out.trans (HB3.out.mono HB2.out.size)).setCell (p := ⟨w.heap.size, 0, none⟩) (Nat.le_refl _) (.string ⟨#[]⟩)).setCell (p := ⟨w.heap.size, 1, none⟩) (Nat.le_refl _) (.int .i64 0)
          exact bodyPost_ret (v := slotV none) (by simp [results, Try.results13, go_sem, slotV, entV, x0, x1]) rfl ⟨rfl, hfin⟩
        · have HP := Lib.hid (HT.out hA.1 hA.2 hbe)
          have HBE := Lib.hid hbe
          generalize entB hsh ⟨nm, k⟩ = out at *
          clear hA hle hbe HT HTN
          go_wp2_with (first
            | (go_at_call 11; (with_reducible refine (HLA.out _).mono ?_); rintro e w3 ⟨v3, he, hown3, hb3⟩; obtain rfl := he; rw [HLen.out] at hown3; obtain ⟨-, A3, c3, hv3, -, -, hr3⟩ := own_rd hown3; subst hv3; obtain ⟨x0, x1, y0, y1⟩ := ent_all (HR2.out.below hb3 HR2.out.lt); obtain ⟨p0, p1, -, -⟩ := ent_all (HK.out.below hb3 hsz2); have HR3 := Lib.hid hr3; have HB3 := Lib.hid hb3; clear hown3 hr3 hb3)
            | (go_at_call 35; (with_reducible refine (equal_any l out _ 16 c A3 16 c3 w.heap.size w3.heap.size _ Hn.out (Hr.out.below (HB2.out.trans (HB3.out.mono HB2.out.size))) HLen.out HR3.out).mono ?_); rintro e w4 ⟨he, hw4⟩; obtain rfl := he; rw [HBE.out]; obtain rfl := hw4))
          rw [HP.out]
          have hfin := ((HB2.out.trans (HB3.out.mono HB2.out.size)).setCell (p := ⟨w.heap.size, 0, none⟩) (Nat.le_refl _) (.string ⟨nm.toArray⟩)).setCell (p := ⟨w.heap.size, 1, none⟩) (Nat.le_refl _) (.int .i64 (k : Int))
          exact bodyPost_ret (v := slotV (some (some ⟨nm, k⟩))) (by simp [results, Try.results13, go_sem, slotV, entV, x0, x1]) rfl ⟨rfl, hfin⟩
      · have HP := Lib.hid (HTN.out (fun h => hA ⟨h.1, h.2.1⟩))
        cases hNn : nameB nm
        · rw [layE_name hNn] at HLA
          clear HT HTN hA hNn
          go_wp2_with (first
            | (go_at_call 11; (with_reducible refine (HLA.out _).mono ?_); rintro e w3 ⟨v3, he, hown3, hb3⟩; obtain rfl := he; obtain ⟨x0, x1, y0, y1⟩ := ent_all (HR2.out.below hb3 HR2.out.lt); have HB3 := Lib.hid hb3; clear hown3 hb3))
          rw [HP.out]
          have hfin := ((HB2.out.trans (HB3.out.mono HB2.out.size)).setCell (p := ⟨w.heap.size, 0, none⟩) (Nat.le_refl _) (.string ⟨#[]⟩)).setCell (p := ⟨w.heap.size, 1, none⟩) (Nat.le_refl _) (.int .i64 0)
          exact bodyPost_ret (v := slotV none) (by simp [results, Try.results13, go_sem, slotV, entV, x0, x1]) rfl ⟨rfl, hfin⟩
        · have hk64 : ¬ ((0 : Int) ≤ (k : Int) ∧ (k : Int) < 64) := fun h => hA ⟨hNn, by omega⟩
          rw [layE_ino hNn hk64] at HLA
          clear HT HTN hA hNn hk64
          go_wp2_with (first
            | (go_at_call 11; (with_reducible refine (HLA.out _).mono ?_); rintro e w3 ⟨v3, he, hown3, hb3⟩; obtain rfl := he; obtain ⟨x0, x1, y0, y1⟩ := ent_all (HR2.out.below hb3 HR2.out.lt); have HB3 := Lib.hid hb3; clear hown3 hb3))
          rw [HP.out]
          have hfin := ((HB2.out.trans (HB3.out.mono HB2.out.size)).setCell (p := ⟨w.heap.size, 0, none⟩) (Nat.le_refl _) (.string ⟨#[]⟩)).setCell (p := ⟨w.heap.size, 1, none⟩) (Nat.le_refl _) (.int .i64 0)
          exact bodyPost_ret (v := slotV none) (by simp [results, Try.results13, go_sem, slotV, entV, x0, x1]) rfl ⟨rfl, hfin⟩
    · rw [takS_len (by omega)]
      have h16z : ((n : Int) != 16) = true := by simp; omega
      clear hn hr
      go_enter Try.func13, Try.ntmps13
      go_wp2_with (go_at_call 33; (with_reducible refine (free_any l A n c w.heap.size _ Hn.out (Hr.out.below (alloc_below _ _)) (Nat.le_of_lt (World_lt (heap_alloc_new _ _)))).mono ?_); rintro e w1 ⟨he, hw⟩; obtain rfl := he; rw [hf]; subst hw)
      obtain ⟨r0, r1, hb⟩ := zero_res w
      exact bodyPost_ret (v := slotV none) (by simp [results, Try.results13, go_sem, slotV, entV, r0, r1]) rfl ⟨rfl, hb⟩
  · rw [takS_free hf]
    clear hn hr
    go_enter Try.func13, Try.ntmps13
    go_wp2_with (go_at_call 33; (with_reducible refine (free_any l A n c w.heap.size _ Hn.out (Hr.out.below (alloc_below _ _)) (Nat.le_of_lt (World_lt (heap_alloc_new _ _)))).mono ?_); rintro e w1 ⟨he, hw⟩; obtain rfl := he; rw [hf]; subst hw)
    obtain ⟨r0, r1, hb⟩ := zero_res w
    exact bodyPost_ret (v := slotV (some none)) (by simp [results, Try.results13, go_sem, slotV, entV, r0, r1]) rfl ⟨rfl, hb⟩
end Go.Proofs.Ytlopndnjkphdnaa.Entry
