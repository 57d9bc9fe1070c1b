/-
  A copy of a disk.
-/
import Derived.Test.YtnebenkodpnofaaF
namespace Go.Proofs.Ytnebenkodpnofaa
open Go.RowKit
attribute [local go_sem ↓] Go.wp_at_zero Go.wp_at_succ

section
variable {α : Type} {f : α → List Value}

theorem empty_own (w : World) (e : TypeId) (size : Nat) : (w.alloc (.cells #[] e)).ownsRow w.heap.size e size (.slice (some ⟨w.heap.size, 0, none⟩) 0 0) 0 [] :=
  ⟨by simp, .inr ⟨w.heap.size, 0, #[], rfl, Nat.le_refl _, heap_alloc_new w _, Nat.le_refl _, Nat.zero_le _, by simp, by simp⟩⟩

set_option maxHeartbeats 400000 in
theorem clone_rows (w : World) (g n cap : Nat) (L : List (List Value)) (h : Row w g 63 65 cap L) (hn : L.length = n) (hm : n ≤ 1073741824) :
    Calls Try.prog 29 #[.slice (some ⟨g, 0, none⟩) n cap] w fun e w' => ∃ v', e = .returned v' ∧ w'.ownsRow w.heap.size 63 65 v' n L.flatten ∧ Below w.heap.size w w' := by
  have hne := fun (u : World) => Lib.run_eql_slice_nil (P := Try.prog) u 56 63 (some ⟨g, 0, none⟩) n cap 0 0 Try.underlying56
  have H := Lib.hid h
  have Hn := Lib.hid hn
  clear h hn
  go_enter Try.func29, Try.ntmps29
  go_wp2_with (at_builtin; refine wpList_append_own _ rfl (.tmp 5) (.tmp 6) 56 rfl w.heap.size 63 Try.t63 _ 65 66 Try.underlying56 (by kernel_rfl) zero63 rfl rfl (by kernel_rfl) (by decide) (.slice (some ⟨w.heap.size, 0, none⟩) 0 0) 0 [] rfl (empty_own w 63 65) ⟨g, 0, none⟩ n cap L.flatten rfl (by rw [← Hn.out]; exact flat_length H.out.lens) (Row.cells (H.out.keep (Below.heap_alloc w _ g H.out.lt)) (by decide)) (mem_flat_one H.out.ones) (by simp [maxLen]; omega) (by omega) (by simp) ?_)
  intro v' w' hown hg _
  have hb := ((Below.refl _ w).alloc (Nat.le_refl _) (.cells #[] 63)).grown hg (by simp) (fun k hk => by simp [Value.ownBlock] at hk; omega)
  have HO := Lib.hid hown
  have HB := Lib.hid hb
  clear hown hg hb
  go_wp2
  go_ret
  exact ⟨v', rfl, HO.out, HB.out⟩

set_option maxHeartbeats 400000 in
theorem clone_uns (w : World) (g n cap : Nat) (L : List (List Value)) (h : Row w g 65 66 cap L) (hn : L.length = n) (hm : n ≤ 1073741824) :
    Calls Try.prog 30 #[.slice (some ⟨g, 0, none⟩) n cap] w fun e w' => ∃ v', e = .returned v' ∧ w'.ownsRow w.heap.size 65 66 v' n L.flatten ∧ Below w.heap.size w w' := by
  have hne := fun (u : World) => Lib.run_eql_slice_nil (P := Try.prog) u 57 65 (some ⟨g, 0, none⟩) n cap 0 0 Try.underlying57
  have H := Lib.hid h
  have Hn := Lib.hid hn
  clear h hn
  go_enter Try.func30, Try.ntmps30
  go_wp2_with (at_builtin; refine wpList_append_own _ rfl (.tmp 5) (.tmp 6) 57 rfl w.heap.size 65 Try.t65 _ 66 80 Try.underlying57 (by kernel_rfl) zero65 rfl rfl (by kernel_rfl) (by decide) (.slice (some ⟨w.heap.size, 0, none⟩) 0 0) 0 [] rfl (empty_own w 65 66) ⟨g, 0, none⟩ n cap L.flatten rfl (by rw [← Hn.out]; exact flat_length H.out.lens) (Row.cells (H.out.keep (Below.heap_alloc w _ g H.out.lt)) (by decide)) (mem_flat_one H.out.ones) (by simp [maxLen]; omega) (by omega) (by simp) ?_)
  intro v' w' hown hg _
  have hb := ((Below.refl _ w).alloc (Nat.le_refl _) (.cells #[] 65)).grown hg (by simp) (fun k hk => by simp [Value.ownBlock] at hk; omega)
  have HO := Lib.hid hown
  have HB := Lib.hid hb
  clear hown hg hb
  go_wp2
  go_ret
  exact ⟨v', rfl, HO.out, HB.out⟩

theorem clone_nil (w : World) : Calls Try.prog 30 #[.slice none 0 0] w fun e w' => e = .returned (.slice none 0 0) ∧ w = w' := by
  have hne := fun (u : World) => run_eql_nil_slice (P := Try.prog) u 57 65 none 0 0 0 0 Try.underlying57
  go_enter Try.func30, Try.ntmps30
  go_wp2
  go_ret
  exact ⟨rfl, rfl⟩
theorem owns_rows {w : World} {base n : Nat} {v : Value} {L : List (List Value)} (h : w.ownsRow base 63 65 v n L.flatten) (hn : n = L.length) (h0 : 0 < n) (hl : ∀ c ∈ L, c.length = 65) (h1 : ∀ c ∈ L, ∀ u ∈ c, u.oneCell' = true) : ∃ g cap, v = .slice (some ⟨g, 0, none⟩) n cap ∧ base ≤ g ∧ Row w g 63 65 cap L := by
  obtain ⟨g, cap, rfl, hb, _⟩ := h.form h0
  exact ⟨g, cap, rfl, hb, Row.of_owns h hn hl h1⟩
theorem owns_uns {w : World} {base n : Nat} {v : Value} {L : List (List Value)} (h : w.ownsRow base 65 66 v n L.flatten) (hn : n = L.length) (hl : ∀ c ∈ L, c.length = 66) (h1 : ∀ c ∈ L, ∀ u ∈ c, u.oneCell' = true) : URow w v L ∧ ∀ i, v.ownBlock = some i → base ≤ i := by
  have h2 := h
  rcases h.2 with ⟨rfl, h0⟩ | ⟨g, cap, cur, rfl, hb, _⟩
  · refine ⟨.inl ⟨rfl, ?_⟩, fun i hi => by cases hi⟩
    exact List.eq_nil_of_length_eq_zero (by omega)
  · subst hn
    exact ⟨.inr ⟨g, cap, rfl, Row.of_owns h2 rfl hl h1⟩, fun i hi => by cases hi; exact hb⟩

theorem clone_any (w : World) (vu : Value) (L : List (List Value)) (h : URow w vu L) (hm : L.length ≤ 1073741824) :
    Calls Try.prog 30 #[vu] w fun e w' => ∃ v', e = .returned v' ∧ URow w' v' L ∧ Below w.heap.size w w' ∧ ∀ i, v'.ownBlock = some i → w.heap.size ≤ i := by
  rcases h with ⟨rfl, rfl⟩ | ⟨bu, cu, rfl, h⟩
  · refine (clone_nil w).mono ?_
    rintro e w' ⟨rfl, rfl⟩
    exact ⟨_, rfl, .inl ⟨rfl, rfl⟩, Below.refl _ _, fun i hi => by cases hi⟩
  · refine (clone_uns w bu L.length cu L h rfl hm).mono ?_
    rintro e w' ⟨v', rfl, hown, hb⟩
    obtain ⟨h1, h2⟩ := owns_uns hown rfl h.lens h.ones
    exact ⟨v', rfl, h1, hb, h2⟩

set_option maxRecDepth 100000 in
set_option maxHeartbeats 1600000 in
theorem copy_any (hf : Enc f) (w : World) (S : Nat → Prop) (b : Nat) (k : Dk α) (h : IsDisk f w S b k) (h0 : 0 < k.safe.length) (hm : k.safe.length ≤ 1073741824) (hun : k.un.length ≤ 1073741824) :
    Calls Try.prog 22 #[.pointer (some ⟨b, 0, none⟩)] w fun e w' => ∃ b', e = .returned (.pointer (some ⟨b', 0, none⟩)) ∧ Below w.heap.size w w' ∧ ∃ S', IsDisk f w' S' b' k ∧ ∀ i, S' i → w.heap.size ≤ i := by
  obtain ⟨bn, bs, cn, cs, vu, rfl, hM⟩ := h
  obtain ⟨A, u1, u2, rfl⟩ : ∃ A u1 u2, vu = .slice A u1 u2 := by
    rcases hM.unR with ⟨rfl, _⟩ | ⟨bu, cu, rfl, _⟩
    · exact ⟨_, _, _, rfl⟩
    · exact ⟨_, _, _, rfl⟩
  have hc0 := hM.nowC
  have hc1 := hM.safeC
  have hc2 := hM.unC
  have hc3 := hM.deadC
  have hc4 := hM.cutC
  have hc5 := hM.leftC
  have hc6 := hM.doneC
  have hlen := hM.len
  have M := Lib.hid hM
  have hnl : k.now.length ≤ 1073741824 := by omega
  have hn0 : 0 < k.now.length := by omega
  have Hlen := Lib.hid hlen
  clear hM hlen
  obtain ⟨nn, hnn⟩ : ∃ nn, nn = k.now.length := ⟨_, rfl⟩
  obtain ⟨ns, hns⟩ : ∃ ns, ns = k.safe.length := ⟨_, rfl⟩
  rw [← hnn] at hc0
  rw [← hns] at hc1
  have Hnn := Lib.hid hnn
  have Hns := Lib.hid hns
  have H0 := Lib.hid h0
  have HF := Lib.hid hf
  clear hnn hns h0 hf
  go_enter Try.func22, Try.ntmps22
  go_wp2
  have M1 : Hid (MemK f (w.alloc (.cells #[.slice (some ⟨bn, 0, none⟩) nn cn, .slice (some ⟨bs, 0, none⟩) ns cs, .slice A u1 u2, .bool k.dead, .bool k.cut, .int .i64 k.left, .int .i64 k.done] 59)).drew b bn bs cn cs (.slice A u1 u2) k) := (M.out.alloc _).keep fun _ _ => rfl
  have B1 : Hid (Bk (w.alloc (.cells #[.slice (some ⟨bn, 0, none⟩) nn cn, .slice (some ⟨bs, 0, none⟩) ns cs, .slice A u1 u2, .bool k.dead, .bool k.cut, .int .i64 k.left, .int .i64 k.done] 59)).drew w.heap.size 59 [.slice (some ⟨bn, 0, none⟩) nn cn, .slice (some ⟨bs, 0, none⟩) ns cs, .slice A u1 u2, .bool k.dead, .bool k.cut, .int .i64 k.left, .int .i64 k.done]) := Bk.new w 59 [.slice (some ⟨bn, 0, none⟩) nn cn, .slice (some ⟨bs, 0, none⟩) ns cs, .slice A u1 u2, .bool k.dead, .bool k.cut, .int .i64 k.left, .int .i64 k.done]
  have L1 := Lib.hid (((Below.refl _ w).alloc (Nat.le_refl _) (.cells #[.slice (some ⟨bn, 0, none⟩) nn cn, .slice (some ⟨bs, 0, none⟩) ns cs, .slice A u1 u2, .bool k.dead, .bool k.cut, .int .i64 k.left, .int .i64 k.done] 59)).drew)
  have HS : Hid ((fun w' : World => w'.cell? ⟨b, 0, none⟩ = some (.slice (some ⟨bn, 0, none⟩) nn cn) ∧ w'.cell? ⟨b, 1, none⟩ = some (.slice (some ⟨bs, 0, none⟩) ns cs) ∧ w'.cell? ⟨b, 2, none⟩ = some (.slice A u1 u2)) (w.alloc (.cells #[.slice (some ⟨bn, 0, none⟩) nn cn, .slice (some ⟨bs, 0, none⟩) ns cs, .slice A u1 u2, .bool k.dead, .bool k.cut, .int .i64 k.left, .int .i64 k.done] 59)).drew) := by
    have e0 := M1.out.nowC
    have e1 := M1.out.safeC
    rw [← Hnn.out] at e0
    rw [← Hns.out] at e1
    exact ⟨e0, e1, M1.out.unC⟩
  have hbl := M1.out.blk.lt
  clear hc0 hc1 hc2 hc3 hc4 hc5 hc6
  obtain ⟨gc, hgc⟩ : ∃ gc, gc = w.heap.size := ⟨_, rfl⟩
  rw [← hgc] at B1 ⊢
  have Hgc := Lib.hid hgc
  clear hgc
  refine wp_region_held_drew (S := fun w' => w'.cell? ⟨b, 0, none⟩ = some (.slice (some ⟨bn, 0, none⟩) nn cn) ∧ w'.cell? ⟨b, 1, none⟩ = some (.slice (some ⟨bs, 0, none⟩) ns cs) ∧ w'.cell? ⟨b, 2, none⟩ = some (.slice A u1 u2)) (by kernel_rfl) HS.out (fun hHeld => ?_)
  generalize (w.alloc (.cells #[.slice (some ⟨bn, 0, none⟩) nn cn, .slice (some ⟨bs, 0, none⟩) ns cs, .slice A u1 u2, .bool k.dead, .bool k.cut, .int .i64 k.left, .int .i64 k.done] 59)).drew = v1 at *
  refine wpAnyH_take (i := 0) (oi := _) (v := ?_) (by simp only [List.getElem?_toArray, List.getElem?_cons_zero]; rfl) (by kernel_rfl) (by kernel_rfl) (by kernel_rfl) (by exact fun _ _ _ h => h) (Or.inl ⟨by rfl, ?hya0⟩) (by assumption) ?rea0
  case hya0 => (rintro w ⟨hA1, hA2, hA3⟩; go_simp <;> with_reducible rfl)
  try simp only [Act.put, List.setIfInBounds_toArray, List.set_cons_zero, List.set_cons_succ]
  refine wpAnyH_take (i := 1) (oi := _) (v := ?_) (by simp only [List.getElem?_toArray, List.getElem?_cons_succ, List.getElem?_cons_zero]; rfl) (by kernel_rfl) (by kernel_rfl) (by kernel_rfl) (by exact fun _ _ _ h => h) (Or.inl ⟨by rfl, ?hya1⟩) (by assumption) ?rea1
  case hya1 => (rintro w ⟨hA1, hA2, hA3⟩; go_simp <;> with_reducible rfl)
  try simp only [Act.put, List.setIfInBounds_toArray, List.set_cons_zero, List.set_cons_succ]
  refine wpAnyH_take (i := 2) (oi := _) (v := ?_) (by simp only [List.getElem?_toArray, List.getElem?_cons_succ, List.getElem?_cons_zero]; rfl) (by kernel_rfl) (by kernel_rfl) (by kernel_rfl) (by exact fun _ _ _ h => h) (Or.inl ⟨by rfl, ?hya2⟩) (by assumption) ?rea2
  case hya2 => (rintro w ⟨hA1, hA2, hA3⟩; go_simp <;> with_reducible rfl)
  try simp only [Act.put, List.setIfInBounds_toArray, List.set_cons_zero, List.set_cons_succ]
  refine wpAnyH_take (i := 3) (oi := _) (v := ?_) (by simp only [List.getElem?_toArray, List.getElem?_cons_succ, List.getElem?_cons_zero]; rfl) (by kernel_rfl) (by kernel_rfl) (by kernel_rfl) (by exact fun _ _ _ h => h) (Or.inl ⟨by rfl, ?hya3⟩) (by assumption) ?rea3
  case hya3 => (rintro w ⟨hA1, hA2, hA3⟩; go_simp <;> with_reducible rfl)
  try simp only [Act.put, List.setIfInBounds_toArray, List.set_cons_zero, List.set_cons_succ]
  refine wpAnyH_take (i := 5) (oi := _) (v := ?_) (by simp only [List.getElem?_toArray, List.getElem?_cons_succ, List.getElem?_cons_zero]; rfl) (by kernel_rfl) (by kernel_rfl) (by kernel_rfl) (by exact fun _ _ _ h => h) (Or.inl ⟨by rfl, ?hya5⟩) (by assumption) ?rea5
  case hya5 => (rintro w ⟨hA1, hA2, hA3⟩; go_simp <;> with_reducible rfl)
  try simp only [Act.put, List.setIfInBounds_toArray, List.set_cons_zero, List.set_cons_succ]
  refine wpAnyH_take (i := 6) (oi := _) (v := ?_) (by simp only [List.getElem?_toArray, List.getElem?_cons_succ, List.getElem?_cons_zero]; rfl) (by kernel_rfl) (by kernel_rfl) (by kernel_rfl) (by exact fun _ _ _ h => h) (Or.inl ⟨by rfl, ?hya6⟩) (by assumption) ?rea6
  case hya6 => (rintro w ⟨hA1, hA2, hA3⟩; go_simp <;> with_reducible rfl)
  try simp only [Act.put, List.setIfInBounds_toArray, List.set_cons_zero, List.set_cons_succ]
  refine wpAnyH_take (i := 7) (oi := _) (v := ?_) (by simp only [List.getElem?_toArray, List.getElem?_cons_succ, List.getElem?_cons_zero]; rfl) (by kernel_rfl) (by kernel_rfl) (by kernel_rfl) (by exact fun _ _ _ h => h) (Or.inl ⟨by rfl, ?hya7⟩) (by assumption) ?rea7
  case hya7 => (rintro w ⟨hA1, hA2, hA3⟩; go_simp <;> with_reducible rfl)
  try simp only [Act.put, List.setIfInBounds_toArray, List.set_cons_zero, List.set_cons_succ]
  refine wpAnyH_take (i := 8) (oi := _) (v := ?_) (by simp only [List.getElem?_toArray, List.getElem?_cons_succ, List.getElem?_cons_zero]; rfl) (by kernel_rfl) (by kernel_rfl) (by kernel_rfl) (by exact fun _ _ _ h => h) (Or.inl ⟨by rfl, ?hya8⟩) (by assumption) ?rea8
  case hya8 => (rintro w ⟨hA1, hA2, hA3⟩; go_simp <;> with_reducible rfl)
  try simp only [Act.put, List.setIfInBounds_toArray, List.set_cons_zero, List.set_cons_succ]
  refine wpAnyH_take (i := 10) (oi := _) (v := ?_) (by simp only [List.getElem?_toArray, List.getElem?_cons_succ, List.getElem?_cons_zero]; rfl) (by kernel_rfl) (by kernel_rfl) (by kernel_rfl) (by exact fun _ _ _ h => h) (Or.inl ⟨by rfl, ?hya10⟩) (by assumption) ?rea10
  case hya10 => (rintro w ⟨hA1, hA2, hA3⟩; go_simp <;> with_reducible rfl)
  try simp only [Act.put, List.setIfInBounds_toArray, List.set_cons_zero, List.set_cons_succ]
  refine wpAnyH_take (i := 11) (oi := _) (v := ?_) (by simp only [List.getElem?_toArray, List.getElem?_cons_succ, List.getElem?_cons_zero]; rfl) (by kernel_rfl) (by kernel_rfl) (by kernel_rfl) (by exact fun _ _ _ h => h) (Or.inl ⟨by rfl, ?hya11⟩) (by assumption) ?rea11
  case hya11 => (rintro w ⟨hA1, hA2, hA3⟩; go_simp <;> with_reducible rfl)
  try simp only [Act.put, List.setIfInBounds_toArray, List.set_cons_zero, List.set_cons_succ]
  refine wpAnyH_take (i := 12) (oi := _) (v := ?_) (by simp only [List.getElem?_toArray, List.getElem?_cons_succ, List.getElem?_cons_zero]; rfl) (by kernel_rfl) (by kernel_rfl) (by kernel_rfl) (by exact fun _ _ _ h => h) (Or.inl ⟨by rfl, ?hya12⟩) (by assumption) ?rea12
  case hya12 => (rintro w ⟨hA1, hA2, hA3⟩; go_simp <;> with_reducible rfl)
  try simp only [Act.put, List.setIfInBounds_toArray, List.set_cons_zero, List.set_cons_succ]
  refine wpAnyH_take (i := 13) (oi := _) (v := ?_) (by simp only [List.getElem?_toArray, List.getElem?_cons_succ, List.getElem?_cons_zero]; rfl) (by kernel_rfl) (by kernel_rfl) (by kernel_rfl) (by exact fun _ _ _ h => h) (Or.inl ⟨by rfl, ?hya13⟩) (by assumption) ?rea13
  case hya13 => (rintro w ⟨hA1, hA2, hA3⟩; go_simp <;> with_reducible rfl)
  try simp only [Act.put, List.setIfInBounds_toArray, List.set_cons_zero, List.set_cons_succ]
  refine wpAnyH_ready (rs := [4]) (by kernel_rfl) (by simp) ?_
  refine AllReadyH.cons (o := _) (by simp only [List.getElem?_toArray, List.getElem?_cons_succ, List.getElem?_cons_zero]; rfl) (fun K hK => ?_) AllReadyH.nil
  go_simp
  refine (clone_rows _ bn nn cn _ M1.out.nowR (by rw [List.length_map]; exact Hnn.out.symm) (by rw [Hnn.out]; exact hnl)).mono ?_
  rintro e v2 ⟨y1, rfl, hown, hb⟩
  obtain ⟨g1, q1, rfl, hg1, hR1⟩ := owns_rows hown (by rw [List.length_map]; exact Hnn.out) (by rw [Hnn.out]; exact hn0) M1.out.nowR.lens M1.out.nowR.ones
  have R1 := Lib.hid hR1
  have G1 := Lib.hid hg1
  have M2 : Hid (MemK f v2 b bn bs cn cs (.slice A u1 u2) k) := M1.out.keep fun i hi => hb.block i (M1.out.lt hi)
  have B2 := Lib.hid (B1.out.below hb B1.out.lt)
  have L2 := Lib.hid (L1.out.trans (hb.mono L1.out.size))
  have HS2 : Hid ((fun w' : World => w'.cell? ⟨b, 0, none⟩ = some (.slice (some ⟨bn, 0, none⟩) nn cn) ∧ w'.cell? ⟨b, 1, none⟩ = some (.slice (some ⟨bs, 0, none⟩) ns cs) ∧ w'.cell? ⟨b, 2, none⟩ = some (.slice A u1 u2)) v2) := ⟨(hb.cell hbl).trans HS.out.1, (hb.cell hbl).trans HS.out.2.1, (hb.cell hbl).trans HS.out.2.2⟩
  have hs2 := Lib.hid hb.size
  clear hown hb hg1 hR1
  go_simp
  refine hK.out _ _ HS2.out (fun hHeld2 => ?_)
  clear hK K hHeld
  refine wpAnyH_ready (rs := [9]) (by kernel_rfl) (by simp) ?_
  refine AllReadyH.cons (o := _) (by simp only [List.getElem?_toArray, List.getElem?_cons_succ, List.getElem?_cons_zero]; rfl) (fun K hK => ?_) AllReadyH.nil
  go_simp
  refine (clone_rows _ bs ns cs _ M2.out.safeR (by rw [List.length_map]; exact Hns.out.symm) (by rw [Hns.out]; exact hm)).mono ?_
  rintro e v3 ⟨y2, rfl, hown, hb⟩
  obtain ⟨g2, q2, rfl, hg2, hR2⟩ := owns_rows hown (by rw [List.length_map]; exact Hns.out) (by rw [Hns.out]; exact H0.out) M2.out.safeR.lens M2.out.safeR.ones
  have R2 := Lib.hid hR2
  have G2 := Lib.hid hg2
  have R1b := Lib.hid (R1.out.keep (hb.block g1 R1.out.lt))
  have G12 := Lib.hid (Nat.ne_of_lt (Nat.lt_of_lt_of_le R1.out.lt hg2))
  have M3 : Hid (MemK f v3 b bn bs cn cs (.slice A u1 u2) k) := M2.out.keep fun i hi => hb.block i (M2.out.lt hi)
  have B3 := Lib.hid (B2.out.below hb B2.out.lt)
  have L3 := Lib.hid (L2.out.trans (hb.mono L2.out.size))
  have hbl2 : b < v2.heap.size := M2.out.blk.lt
  have HS3 : Hid ((fun w' : World => w'.cell? ⟨b, 0, none⟩ = some (.slice (some ⟨bn, 0, none⟩) nn cn) ∧ w'.cell? ⟨b, 1, none⟩ = some (.slice (some ⟨bs, 0, none⟩) ns cs) ∧ w'.cell? ⟨b, 2, none⟩ = some (.slice A u1 u2)) v3) := ⟨(hb.cell hbl2).trans HS2.out.1, (hb.cell hbl2).trans HS2.out.2.1, (hb.cell hbl2).trans HS2.out.2.2⟩
  clear hown hb hg2 hR2 hbl2
  go_simp
  refine hK.out _ _ HS3.out (fun hHeld => ?_)
  clear hK K hHeld2
  refine wpAnyH_ready (rs := [14]) (by kernel_rfl) (by simp) ?_
  refine AllReadyH.cons (o := _) (by simp only [List.getElem?_toArray, List.getElem?_cons_succ, List.getElem?_cons_zero]; rfl) (fun K hK => ?_) AllReadyH.nil
  go_simp
  refine (clone_any _ _ _ M3.out.unR (by rw [List.length_map]; exact hun)).mono ?_
  rintro e v4 ⟨y3, rfl, hU, hb, hg3⟩
  obtain ⟨A3, u3, u4, rfl⟩ : ∃ A3 u3 u4, y3 = .slice A3 u3 u4 := by
    rcases hU with ⟨rfl, _⟩ | ⟨bu, cu, rfl, _⟩
    · exact ⟨_, _, _, rfl⟩
    · exact ⟨_, _, _, rfl⟩
  have U4 := Lib.hid hU
  have G3 := Lib.hid hg3
  have R1c := Lib.hid (R1b.out.keep (hb.block g1 R1b.out.lt))
  have R2c := Lib.hid (R2.out.keep (hb.block g2 R2.out.lt))
  have B4 := Lib.hid (B3.out.below hb B3.out.lt)
  have L4 := Lib.hid (L3.out.trans (hb.mono L3.out.size))
  have hbl3 : b < v3.heap.size := M3.out.blk.lt
  have HS4 : Hid ((fun w' : World => w'.cell? ⟨b, 0, none⟩ = some (.slice (some ⟨bn, 0, none⟩) nn cn) ∧ w'.cell? ⟨b, 1, none⟩ = some (.slice (some ⟨bs, 0, none⟩) ns cs) ∧ w'.cell? ⟨b, 2, none⟩ = some (.slice A u1 u2)) v4) := ⟨(hb.cell hbl3).trans HS3.out.1, (hb.cell hbl3).trans HS3.out.2.1, (hb.cell hbl3).trans HS3.out.2.2⟩
  have Hz3 := Lib.hid L3.out.size
  have Hgl : Hid (gc < v3.heap.size) := B3.out.lt
  clear hU hg3 hb hbl3
  go_simp
  refine hK.out _ _ HS4.out (fun hHeld2 => ?_)
  clear hK K hHeld
  have d0 := B4.out.cell 0
  have d1 := B4.out.cell 1
  have d2 := B4.out.cell 2
  simp only [List.getElem?_cons_zero, List.getElem?_cons_succ] at d0 d1 d2
  have f0 := B4.out.frozen 0
  have f1 := B4.out.frozen 1
  have f2 := B4.out.frozen 2
  have hbg : b ≠ gc := by
    have h1 := M.out.blk.lt
    have h2 := Hgc.out
    omega
  have KS : Hid (∀ (u : World), u.heap[b]? = v4.heap[b]? → (fun w' : World => w'.cell? ⟨b, 0, none⟩ = some (.slice (some ⟨bn, 0, none⟩) nn cn) ∧ w'.cell? ⟨b, 1, none⟩ = some (.slice (some ⟨bs, 0, none⟩) ns cs) ∧ w'.cell? ⟨b, 2, none⟩ = some (.slice A u1 u2)) u) := fun u hu => ⟨(World.cell?_of_block (a := ⟨b, 0, none⟩) hu).trans HS4.out.1, (World.cell?_of_block (a := ⟨b, 1, none⟩) hu).trans HS4.out.2.1, (World.cell?_of_block (a := ⟨b, 2, none⟩) hu).trans HS4.out.2.2⟩
  have HO : Hid (∀ (u : World) (j : Nat) (x : Value) (i : Nat), i ≠ gc → (u.setCell ⟨gc, j, none⟩ x).heap[i]? = u.heap[i]?) := fun u j x i hi => Below.heap_setCell u _ x i hi
  refine wpAnyH_take (i := 15) (oi := _) (v := ?_) (by simp only [List.getElem?_toArray, List.getElem?_cons_succ, List.getElem?_cons_zero]; rfl) (by kernel_rfl) (by kernel_rfl) (by kernel_rfl) (by exact fun _ _ _ h => h) (Or.inl ⟨by rfl, ?hyb15⟩) (by assumption) ?reb15
  case hyb15 => (rintro w ⟨hA1, hA2, hA3⟩; go_simp <;> with_reducible rfl)
  try simp only [Act.put, List.setIfInBounds_toArray, List.set_cons_zero, List.set_cons_succ]
  refine wpAnyH_ready (rs := [16]) (by kernel_rfl) (by simp) ?_
  refine AllReadyH.cons (o := _) (by simp only [List.getElem?_toArray, List.getElem?_cons_succ, List.getElem?_cons_zero]; rfl) (fun K hK => ?_) AllReadyH.nil
  go_simp
  refine hK.out _ _ (KS.out _ (HO.out _ _ _ _ hbg)) (fun hHeld => ?_)
  clear hK K hHeld2
  refine wpAnyH_take (i := 17) (oi := _) (v := ?_) (by simp only [List.getElem?_toArray, List.getElem?_cons_succ, List.getElem?_cons_zero]; rfl) (by kernel_rfl) (by kernel_rfl) (by kernel_rfl) (by exact fun _ _ _ h => h) (Or.inl ⟨by rfl, ?hyb17⟩) (by assumption) ?reb17
  case hyb17 => (rintro w ⟨hA1, hA2, hA3⟩; go_simp <;> with_reducible rfl)
  try simp only [Act.put, List.setIfInBounds_toArray, List.set_cons_zero, List.set_cons_succ]
  refine wpAnyH_ready (rs := [18]) (by kernel_rfl) (by simp) ?_
  refine AllReadyH.cons (o := _) (by simp only [List.getElem?_toArray, List.getElem?_cons_succ, List.getElem?_cons_zero]; rfl) (fun K hK => ?_) AllReadyH.nil
  go_simp
  refine hK.out _ _ (KS.out _ ((HO.out _ _ _ _ hbg).trans (HO.out _ _ _ _ hbg))) (fun hHeld2 => ?_)
  clear hK K hHeld
  refine wpAnyH_take (i := 19) (oi := _) (v := ?_) (by simp only [List.getElem?_toArray, List.getElem?_cons_succ, List.getElem?_cons_zero]; rfl) (by kernel_rfl) (by kernel_rfl) (by kernel_rfl) (by exact fun _ _ _ h => h) (Or.inl ⟨by rfl, ?hyb19⟩) (by assumption) ?reb19
  case hyb19 => (rintro w ⟨hA1, hA2, hA3⟩; go_simp <;> with_reducible rfl)
  try simp only [Act.put, List.setIfInBounds_toArray, List.set_cons_zero, List.set_cons_succ]
  refine wpAnyH_ready (rs := [20]) (by kernel_rfl) (by simp) ?_
  refine AllReadyH.cons (o := _) (by simp only [List.getElem?_toArray, List.getElem?_cons_succ, List.getElem?_cons_zero]; rfl) (fun K hK => ?_) AllReadyH.nil
  go_simp
  refine hK.out _ _ (KS.out _ (((HO.out _ _ _ _ hbg).trans (HO.out _ _ _ _ hbg)).trans (HO.out _ _ _ _ hbg))) (fun hHeld => ?_)
  clear hK K hHeld2 hHeld
  refine wpAnyH_done (by kernel_rfl) ?_ _
  go_wp2
  go_ret
  have hgw := Hgc.out
  have z1 := L1.out.size
  have z2 := L2.out.size
  have z3 := L3.out.size
  have t1 := G1.out
  have t2 := G2.out
  have e1 : g1 ≠ gc := by obtain ⟨x, hx⟩ := R1c.out.elemType; exact type_ne hx B4.out (by decide)
  have e2 : g2 ≠ gc := by obtain ⟨x, hx⟩ := R2c.out.elemType; exact type_ne hx B4.out (by decide)
  refine ⟨gc, rfl, ?_, foot gc g1 g2 (.slice A3 u3 u4), ⟨g1, g2, q1, q2, .slice A3 u3 u4, rfl, ?_⟩, ?_⟩
  · exact ((L4.out.setCell (p := ⟨gc, 0, none⟩) (Nat.le_of_eq hgw.symm) _).setCell (p := ⟨gc, 1, none⟩) (Nat.le_of_eq hgw.symm) _).setCell (p := ⟨gc, 2, none⟩) (Nat.le_of_eq hgw.symm) _
  · have hx : ∀ i, i ≠ gc → (((v4.setCell ⟨gc, 0, none⟩ (.slice (some ⟨g1, 0, none⟩) nn q1)).setCell ⟨gc, 1, none⟩ (.slice (some ⟨g2, 0, none⟩) ns q2)).setCell ⟨gc, 2, none⟩ (.slice A3 u3 u4)).heap[i]? = v4.heap[i]? := fun i hi => ((HO.out _ _ _ _ hi).trans (HO.out _ _ _ _ hi)).trans (HO.out _ _ _ _ hi)
    refine ⟨?_, R1c.out.keep (hx g1 e1), R2c.out.keep (hx g2 e2), U4.out.keep fun i hi => hx i (by have := G3.out i hi; have := Hgl.out; omega), G12.out, Hlen.out, M.out.idx⟩
    rw [← Hnn.out, ← Hns.out]
    exact ((B4.out.set 0 _).set 1 _).set 2 _
  · rintro i (rfl | rfl | rfl | hi)
    · omega
    · omega
    · omega
    · have := G3.out i hi
      omega
end

end Go.Proofs.Ytnebenkodpnofaa
