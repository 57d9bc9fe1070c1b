/-
  An entry's bytes: the document's Lay.
-/
import Derived.Test.YtlopndnjkphdnaaEntryX3
namespace Go.Proofs.Ytlopndnjkphdnaa.Entry
open Go.RowKit

/-- '[]byte(s)'. -/
theorem conv_bytes (W : World) (s : ByteArray) (hs : s.size ≤ 1000000) : ∃ c W', (convert 9 24 (.string s)).run Try.prog W = .ok (.slice (some ⟨W.heap.size, 0, none⟩) s.size c) W' ∧ Rd W' W'.heap.size (some ⟨W.heap.size, 0, none⟩) (bytesV s.data.toList) ∧ Below W.heap.size W W' ∧ s.size ≤ c ∧ c ≤ maxLen := by
  refine ⟨_, _, run_bytes_of_string (P := Try.prog) W 9 24 5 s Try.underlying9 Try.underlying24 Try.underlying5, .inr ⟨W.heap.size, 0, rfl, ?_, fun j u hu => ?_⟩, ((Below.refl _ _).drew).alloc (Nat.le_refl _) _, grownCap_ge _ _ _ _, grownCap_le_maxLen _ _ _ _ (by unfold maxLen; omega)⟩
  · exact World_lt (heap_alloc_new W.drew _)
  · have hj : j < s.data.toList.length := by
      have := (List.getElem?_eq_some_iff.1 hu).1
      rw [length_bytesV] at this
      exact this
    have h := World.cell?_alloc_mark W.drew (bytesRow s (grownCap W s.size 0 5)) 5 ((bytesRow s (grownCap W s.size 0 5)).size, (bytesRow s (grownCap W s.size 0 5)).size + 1) j
    rw [bytesRow_at s _ j (by rw [← Array.length_toList]; exact hj)] at h
    rw [Nat.zero_add]
    refine h.trans ?_
    rw [← hu]
    unfold bytesV
    rw [List.getElem?_map, List.getElem?_eq_getElem hj]
    rfl
/-- A fill to sixteen bytes. -/
theorem fill16 (l : List UInt8) (n : Nat) (A : Option Addr) (c : Nat) (w : World) (hn : l.length = n) (hr : Rd w w.heap.size A (bytesV l)) (h16 : n ≤ 16) :
    Calls Try.prog 32 #[.slice A n c, .int .i64 16] w fun e w' => ∃ v, e = .returned (.tuple #[v, .int .i64 0]) ∧ Made w (padl l 16) v w' := by
  have := rfill_ok l A n c 16 w hn hr h16 (by omega)
  simpa using this

theorem keep3 {w w1 w2 : World} {g : Nat} {a0 a1 : Value} (hb : Below w1.heap.size w1 w2) (h : w1.cell? ⟨g, 0, none⟩ = some a0 ∧ w1.cell? ⟨g, 1, none⟩ = some a1 ∧ Below w.heap.size w w1) : w2.cell? ⟨g, 0, none⟩ = some a0 ∧ w2.cell? ⟨g, 1, none⟩ = some a1 ∧ Below w.heap.size w w2 := by
  obtain ⟨d0, d1, d2⟩ := h
  exact ⟨(hb.cell (p := ⟨g, 0, none⟩) (lt_of d0)).trans d0, (hb.cell (p := ⟨g, 1, none⟩) (lt_of d0)).trans d1, d2.trans (hb.mono d2.size)⟩
set_option maxHeartbeats 1600000 in
set_option maxRecDepth 100000 in
theorem rlay_any (s : ByteArray) (i : Int) (w : World) : Calls Try.prog 12 #[.agg #[.string s, .int .i64 i]] w fun e w' => Hands w (layE hsh s.data.toList i) e w' := by
  have hsz := Lib.size_eq s
  have HR := Lib.hid (rright_any s)
  cases hN : nameB s.data.toList
  · rw [layE_name hN]
    rw [hN] at HR
    go_enter Try.func12, Try.ntmps12
    go_wp2_with (go_at_call 17; (with_reducible refine (HR.out _).mono ?_); rintro e w1 ⟨he, hb1⟩; obtain rfl := he; subst hb1)
    go_ret2
    exact hands_nil rfl (alloc_below w _)
  · rw [hN] at HR
    by_cases hi : 0 ≤ i ∧ i < 64
    · rw [layE_yes hN hi]
      obtain ⟨hi0, hi1⟩ := hi
      have hl := name_len hN
      rw [← hsz] at hl
      obtain ⟨hl0, hl1⟩ := hl
      obtain ⟨k, rfl⟩ : ∃ k : Nat, i = (k : Int) := ⟨i.toNat, by omega⟩
      have HB1 := Lib.hid (fun w => Spin.rof_any s w (by omega))
      have HB2 := Lib.hid (fun w => Spin.rbits_any (Spin.ofX s.data.toList) (Spin.ofY s.data.toList) w)
      rw [hsh_int] at HB2
      have HL := Lib.hid (length_entB (H := hsh) (x := ⟨s.data.toList, k⟩) ⟨hN, show k < 64 by omega⟩)
      rw [Int.toNat_natCast]
      generalize Spin.ofX s.data.toList = sx at *
      generalize Spin.ofY s.data.toList = sy at *
      have HSZ := Lib.hid hsz
      clear hN hsz
      obtain ⟨hh, hhe⟩ : ∃ hh : Int, ((hsh s.data.toList).toNat : Int) = hh := ⟨_, rfl⟩
      rw [hhe] at HB2
      have HH := Lib.hid hhe
      clear hhe
      go_enter Try.func12, Try.ntmps12
      go_wp2_with (go_at_call 17; (with_reducible refine (HR.out _).mono ?_); rintro e w1 ⟨he, hb1⟩; obtain rfl := he; subst hb1)
      obtain ⟨W, hW⟩ : ∃ W, W = (w.alloc (.cells #[.string s, .int .i64 (k : Int)] 23)).drew := ⟨_, rfl⟩
      have hK : Bk W w.heap.size 23 [.string s, .int .i64 (k : Int)] := by rw [hW]; exact Bk.new w 23 _
      have hB : Below w.heap.size w W := by rw [hW]; exact below_drew (alloc_below w _)
      obtain ⟨c0, c1⟩ := ent_cells hK
      have HS := Lib.hid (show W.cell? ⟨w.heap.size, 0, none⟩ = some (.string s) ∧ W.cell? ⟨w.heap.size, 1, none⟩ = some (.int .i64 (k : Int)) ∧ Below w.heap.size w W from ⟨c0, c1, hB⟩)
      have HW := Lib.hid hW
      have hsW := hK.lt
      have e1 : IntKind.u8.wrap (s.size : Int) = (s.size : Int) := by rw [IntKind.wrap_u8]; omega
      have e2 : IntKind.u8.wrap (k : Int) = (k : Int) := by rw [IntKind.wrap_u8]; omega
      clear hK hB c0 c1 hW
      go_region_held3 (fun u => u.cell? ⟨w.heap.size, 0, none⟩ = some (.string s) ∧ u.cell? ⟨w.heap.size, 1, none⟩ = some (.int .i64 (k : Int)) ∧ Below w.heap.size w u)
        (first | (rw [← HW.out]; with_reducible exact HS.out) | with_reducible exact HS3.out | with_reducible exact HS2.out | with_reducible exact HS4.out _)
        (first
          | (go_at_call 31; rw [← HW.out]; (with_reducible refine (HB1.out _).mono ?_); rintro e w2 ⟨he, hb2⟩; obtain rfl := he; have HS2 := Lib.hid (keep3 hb2 HS.out); clear hb2)
          | (go_at_call 30; (with_reducible refine (HB2.out _).mono ?_); rintro e w3 ⟨he, hb3⟩; obtain rfl := he; have HS3 := Lib.hid (keep3 hb3 HS2.out); have HS4 := Lib.hid (fun o => keep3 (alloc_below w3 o) HS3.out); clear hb3))
      obtain ⟨d0, d1, d2⟩ := HS4.out (.cells #[.int .u8 (s.size : Int), .int .u8 hh, .int .u8 (k : Int)] 5)
      have hk3 := Bk.new w3 5 [.int .u8 (s.size : Int), .int .u8 hh, .int .u8 (k : Int)]
      have hg3 := HS3.out.2.2.size
      have hhd : ([.int .u8 (s.size : Int), .int .u8 hh, .int .u8 (k : Int)] : List Value) = bytesV [UInt8.ofNat s.size, hsh s.data.toList, UInt8.ofNat k] := by
        have b0 : byteV (UInt8.ofNat s.size) = .int .u8 (s.size : Int) := by unfold byteV; simp; omega
        have b2 : byteV (UInt8.ofNat k) = .int .u8 (k : Int) := by unfold byteV; simp; omega
        show _ = [byteV _, byteV _, byteV _]
        rw [b0, b2, ← HH.out]
        rfl
      rw [hhd] at hk3
      have ho3 := hk3.own 3 (by rfl) hg3 (by unfold maxLen; omega)
      have HHD : (#[.int .u8 (s.size : Int), .int .u8 hh, .int .u8 (k : Int)] : Array Value) = (bytesV [UInt8.ofNat s.size, hsh s.data.toList, UInt8.ofNat k]).toArray := by rw [← hhd]
      rw [← HHD] at ho3
      have hsz3 : w.heap.size < (w3.alloc (.cells #[.int .u8 (s.size : Int), .int .u8 hh, .int .u8 (k : Int)] 5)).heap.size := by simp; omega
      obtain ⟨cc, V2, hcv, hrd, hbv, _, _⟩ := conv_bytes (w3.alloc (.cells #[.int .u8 (s.size : Int), .int .u8 hh, .int .u8 (k : Int)] 5)) s (by omega)
      have hs31 : (w3.alloc (.cells #[.int .u8 (s.size : Int), .int .u8 hh, .int .u8 (k : Int)] 5)).heap.size = w3.heap.size + 1 := by simp
      have c0 := (hbv.cell (p := ⟨w.heap.size, 0, none⟩) hsz3).trans d0
      have HO3 := Lib.hid (own_below ho3 hbv)
      have HRD := Lib.hid hrd
      have HBV := Lib.hid (d2.trans (hbv.mono d2.size))
      have hle : (bytesV s.data.toList).length = s.size := by rw [length_bytesV, ← HSZ.out]
      rw [hs31] at HRD
      have hLs : ([UInt8.ofNat s.size, hsh s.data.toList, UInt8.ofNat k] ++ s.data.toList).length = 3 + s.size := by rw [List.length_append, ← HSZ.out]; rfl
      have HLS := Lib.hid hLs
      have hE : padl ([UInt8.ofNat s.size, hsh s.data.toList, UInt8.ofNat k] ++ s.data.toList) 16 = entB hsh ⟨s.data.toList, k⟩ := by
        have e : (UInt8.ofNat s.size) = UInt8.ofNat s.data.toList.length := by rw [HSZ.out]
        rw [e]
        rfl
      have HE := Lib.hid hE
      clear HS HS2 HS3 HS4 hhd HHD hk3 ho3 hrd hbv d1 d2 HW hsW HB1 HB2 hle hs31 hLs hE
      go_wp2_with (first
        | (at_builtin; refine wpList_app5 _ rfl (.tmp 29) (.tmp 32) rfl w.heap.size _ 3 [UInt8.ofNat s.size, hsh s.data.toList, UInt8.ofNat k] rfl HO3.out V2.heap.size (some ⟨w3.heap.size + 1, 0, none⟩) s.size cc s.data.toList rfl HSZ.out.symm HRD.out (by omega) HBV.out.size ?_; intro v4 w4 hown4 hg4; have HB4 := Lib.hid (HBV.out.grown hg4 HBV.out.size (fun q hq => (HO3.out.lt q hq).1)); obtain ⟨-, A4, c4, hv4, -, -, hr4⟩ := own_rd hown4; subst hv4; have HR4 := Lib.hid hr4; clear hown4 hg4 hr4)
        | (go_at_call 32; (with_reducible refine (fill16 ([UInt8.ofNat s.size, hsh s.data.toList, UInt8.ofNat k] ++ s.data.toList) (3 + s.size) A4 c4 _ HLS.out HR4.out (by omega)).mono ?_); rintro e w5 ⟨v5, he, hm5⟩; obtain rfl := he; rw [HE.out] at hm5; have HM5 := Lib.hid hm5; clear hm5))
      go_ret2
      exact ⟨_, rfl, own_mono HM5.out.1 HB4.out.size, HB4.out.trans (HM5.out.2.mono HB4.out.size)⟩
    · rw [layE_ino hN hi]
      have hi2 : i < 0 ∨ 64 ≤ i := by omega
      clear hi hN hsz
      rcases hi2 with hi0 | hi1
      · go_enter Try.func12, Try.ntmps12
        go_wp2_with (go_at_call 17; (with_reducible refine (HR.out _).mono ?_); rintro e w1 ⟨he, hb1⟩; obtain rfl := he; subst hb1)
        go_ret2
        exact hands_nil rfl (alloc_below w _)
      · have hi0 : 0 ≤ i := by omega
        go_enter Try.func12, Try.ntmps12
        go_wp2_with (go_at_call 17; (with_reducible refine (HR.out _).mono ?_); rintro e w1 ⟨he, hb1⟩; obtain rfl := he; subst hb1)
        go_ret2
        exact hands_nil rfl (alloc_below w _)
end Go.Proofs.Ytlopndnjkphdnaa.Entry
