/-
  The inode that bytes stand for: the document's Take.
-/
import Derived.Test.YtaflpigpeckhoaaQInodeB
namespace Go.Proofs.Ytaflpigpeckhoaa.Inode
open Go.RowKit

set_option maxHeartbeats 800000 in
set_option maxRecDepth 100000 in
theorem rtake_len (A : Option Addr) (n c : Nat) (w : World) (h : n ≠ 32) : Calls Try.prog 48 #[.slice A n c] w fun e w' => HandsN w .z 110 e w' := by
  have h' : ¬ (n : Int) = 32 := by omega
  have h2 : ((n : Int) != 32) = true := by simpa using h'
  clear h h'
  go_enter Try.func48, Try.ntmps48
  go_wp2
  refine bodyPost_ret (v := .tuple #[.agg #[.int .u8 0, .int .u8 0, .int .i64 0, .int .i64 0, .int .i64 0, .int .i64 0, .int .i64 0, .int .i64 0, .int .i64 0, .int .i64 0, .int .i64 0, .int .i64 0, .int .i64 0, .int .i64 0], .int .i64 110]) (by simp [results, Try.results48, go_sem]) rfl ⟨rfl, ?_⟩
  repeat (first | with_reducible exact Below.refl _ _ | with_reducible refine below_drewN ?_ _ | with_reducible refine Below.setCell ?_ ?_ _ | with_reducible refine Below.alloc ?_ ?_ _)
  all_goals (simp <;> omega)

theorem at_lit (b : List UInt8) (A : Option Addr) (c : Nat) (B : Nat) (w0 : World) (hl : b.length = 32) (hr : Rd w0 B A (bytesV b)) (k : Nat) (hk : k + 2 ≤ 32) : ∀ w, Below B w0 w →
    Calls Try.prog 75 #[.slice A 32 c, .int .i64 (k : Int), .int .i64 2] w fun e w' => e = .returned (.int .u64 (numL b k : Nat)) ∧ w = w' := fun w h => at2 b A 32 c B k w hl (hr.below h) hk (by omega)
/-- The direct pointers, the first j of them filled in. -/
def partD (T : List Int) (j : Nat) : List Int := T.take j ++ List.replicate (8 - j) 0
theorem partD_step {T : List Int} (hT : T.length = 8) {j : Nat} {x : Int} (h : T[j]? = some x) : (partD T j).set j x = partD T (j + 1) := by
  obtain ⟨hj, rfl⟩ := List.getElem?_eq_some_iff.1 h
  unfold partD
  have hl : (T.take j).length = j := by simp; omega
  rw [List.set_append_right _ _ (by omega), hl, Nat.sub_self, show 8 - j = (8 - (j + 1)) + 1 by omega, List.replicate_succ, List.set_cons_zero, List.take_succ_eq_append_getElem hj, List.append_assoc]
  rfl
theorem length_partD {T : List Int} (hT : T.length = 8) {j : Nat} (hj : j ≤ 8) : (partD T j).length = 8 := by simp [partD, hT]; omega
theorem partD_all {T : List Int} (hT : T.length = 8) : partD T 8 = T := by
  unfold partD
  rw [List.take_of_length_le (by omega)]
  simp
def cellsD (k r n0 n1 : Nat) (D : List Int) (i d : Nat) : List Value := .int .u8 (k : Int) :: .int .u8 (r : Int) :: .int .i64 (n0 : Int) :: .int .i64 (n1 : Int) :: (intsV D ++ [.int .i64 (i : Int), .int .i64 (d : Int)])
theorem cellsD_set (k r n0 n1 : Nat) (D : List Int) (i d : Nat) (j : Nat) (x : Int) (hj : j < D.length) : (cellsD k r n0 n1 D i d).set (4 + j) (.int .i64 x) = cellsD k r n0 n1 (D.set j x) i d := by
  unfold cellsD
  rw [show 4 + j = j + 1 + 1 + 1 + 1 by omega, List.set_cons_succ, List.set_cons_succ, List.set_cons_succ, List.set_cons_succ, List.set_append_left _ _ (by rw [length_intsV]; exact hj), intsV_set]
theorem length_cellsD (k r n0 n1 : Nat) (D : List Int) (i d : Nat) (hD : D.length = 8) : (cellsD k r n0 n1 D i d).length = 14 := by simp [cellsD, length_intsV, hD]

theorem part_goal {P Q : Prop} (h : Hid P → Q) (p : P) : Q := h (Lib.hid p)

set_option maxHeartbeats 1600000 in
set_option maxRecDepth 100000 in
theorem rtake_in (b : List UInt8) (A : Option Addr) (c : Nat) (w : World) (hl : b.length = 32) (hr : Rd w w.heap.size A (bytesV b)) (_ : 32 ≤ c) :
    Calls Try.prog 48 #[.slice A 32 c] w fun e w' => HandsN w (takI b).1 (takI b).2 e w' := by
  obtain ⟨R, hR⟩ : ∃ R, R = takI b := ⟨_, rfl⟩
  have HU : Hid (unI b = ⟨(b.getD 0 0).toNat, (b.getD 1 0).toNat, ((numL b 2 : Nat) : Int), ((numL b 4 : Nat) : Int), [((numL b 6 : Nat) : Int), ((numL b 8 : Nat) : Int), ((numL b 10 : Nat) : Int), ((numL b 12 : Nat) : Int), ((numL b 14 : Nat) : Int), ((numL b 16 : Nat) : Int), ((numL b 18 : Nat) : Int), ((numL b 20 : Nat) : Int), ((numL b 22 : Nat) : Int), ((numL b 24 : Nat) : Int)]⟩) := rfl
  obtain ⟨bb, o, rfl, hbb, hcc⟩ : ∃ bb o, A = some ⟨bb, o, none⟩ ∧ bb < w.heap.size ∧ ∀ j u, (bytesV b)[j]? = some u → w.cell? ⟨bb, o + j, none⟩ = some u := by
    rcases hr with h | h
    · have := length_bytesV b; rw [h, hl] at this; simp at this
    · exact h
  have hb0 : w.cell? ⟨bb, o + 0, none⟩ = some (.int .u8 ((b.getD 0 0).toNat : Int)) := hcc 0 _ (byte_at b 0 (by omega))
  have hb1 : w.cell? ⟨bb, o + 1, none⟩ = some (.int .u8 ((b.getD 1 0).toNat : Int)) := hcc 1 _ (byte_at b 1 (by omega))
  have AT := at_lit b (some ⟨bb, o, none⟩) c w.heap.size w hl hr
  have A2 : Hid (∀ W, Below w.heap.size w W → Calls Try.prog 75 #[.slice (some ⟨bb, o, none⟩) 32 c, .int .i64 2, .int .i64 2] W fun e w' => e = .returned (.int .u64 (numL b 2 : Nat)) ∧ W = w') := AT 2 (by omega)
  have A4 : Hid (∀ W, Below w.heap.size w W → Calls Try.prog 75 #[.slice (some ⟨bb, o, none⟩) 32 c, .int .i64 4, .int .i64 2] W fun e w' => e = .returned (.int .u64 (numL b 4 : Nat)) ∧ W = w') := AT 4 (by omega)
  have A22 : Hid (∀ W, Below w.heap.size w W → Calls Try.prog 75 #[.slice (some ⟨bb, o, none⟩) 32 c, .int .i64 22, .int .i64 2] W fun e w' => e = .returned (.int .u64 (numL b 22 : Nat)) ∧ W = w') := AT 22 (by omega)
  have A24 : Hid (∀ W, Below w.heap.size w W → Calls Try.prog 75 #[.slice (some ⟨bb, o, none⟩) 32 c, .int .i64 24, .int .i64 2] W fun e w' => e = .returned (.int .u64 (numL b 24 : Nat)) ∧ W = w') := AT 24 (by omega)
  have AJ : Hid (∀ (j : Nat), j < 8 → ∃ x : Nat, x < 65536 ∧ [((numL b 6 : Nat) : Int), ((numL b 8 : Nat) : Int), ((numL b 10 : Nat) : Int), ((numL b 12 : Nat) : Int), ((numL b 14 : Nat) : Int), ((numL b 16 : Nat) : Int), ((numL b 18 : Nat) : Int), ((numL b 20 : Nat) : Int)][j]? = some (x : Int) ∧ ∀ W, Below w.heap.size w W → Calls Try.prog 75 #[.slice (some ⟨bb, o, none⟩) 32 c, .int .i64 (6 + 2 * (j : Int)), .int .i64 2] W fun e w' => e = .returned (.int .u64 (x : Nat)) ∧ W = w') := by
    intro j hj
    refine ⟨numL b (6 + 2 * j), numL_lt _ _, ?_, fun W hW => ?_⟩
    · have : j = 0 ∨ j = 1 ∨ j = 2 ∨ j = 3 ∨ j = 4 ∨ j = 5 ∨ j = 6 ∨ j = 7 := by omega
      rcases this with rfl | rfl | rfl | rfl | rfl | rfl | rfl | rfl <;> rfl
    · have := AT (6 + 2 * j) (by omega) W hW
      rwa [show ((6 + 2 * j : Nat) : Int) = 6 + 2 * (j : Int) by omega] at this
  have bk : (b.getD 0 0).toNat < 256 := UInt8.toNat_lt _
  have br : (b.getD 1 0).toNat < 256 := UInt8.toNat_lt _
  have HRb := Lib.hid hr
  have Hbb := Lib.hid hbb
  rw [← hR]
  clear AT
  generalize (b.getD 0 0).toNat = k at *
  generalize (b.getD 1 0).toNat = r at *
  have bn0 := numL_lt b 2
  generalize numL b 2 = n0 at *
  have bn1 := numL_lt b 4
  generalize numL b 4 = n1 at *
  have bn2 := numL_lt b 6
  generalize numL b 6 = n2 at *
  have bn3 := numL_lt b 8
  generalize numL b 8 = n3 at *
  have bn4 := numL_lt b 10
  generalize numL b 10 = n4 at *
  have bn5 := numL_lt b 12
  generalize numL b 12 = n5 at *
  have bn6 := numL_lt b 14
  generalize numL b 14 = n6 at *
  have bn7 := numL_lt b 16
  generalize numL b 16 = n7 at *
  have bn8 := numL_lt b 18
  generalize numL b 18 = n8 at *
  have bn9 := numL_lt b 20
  generalize numL b 20 = n9 at *
  have bn10 := numL_lt b 22
  generalize numL b 22 = n10 at *
  have bn11 := numL_lt b 24
  generalize numL b 24 = n11 at *
  have H0 : Hid (w.cell? ⟨bb, o, none⟩ = some (.int .u8 (k : Int))) := hb0
  have H1 := Lib.hid hb1
  have HR := Lib.hid hR
  have HL := Lib.hid hl
  have HLA : Hid (∀ W : World, Calls Try.prog 31 #[.agg #[.int .u8 (k : Int), .int .u8 (r : Int), .int .i64 (n0 : Int), .int .i64 (n1 : Int), .int .i64 (n2 : Int), .int .i64 (n3 : Int), .int .i64 (n4 : Int), .int .i64 (n5 : Int), .int .i64 (n6 : Int), .int .i64 (n7 : Int), .int .i64 (n8 : Int), .int .i64 (n9 : Int), .int .i64 (n10 : Int), .int .i64 (n11 : Int)]] W fun e w' => HandsB W (layI (⟨k, r, (n0 : Int), (n1 : Int), [(n2 : Int), (n3 : Int), (n4 : Int), (n5 : Int), (n6 : Int), (n7 : Int), (n8 : Int), (n9 : Int), (n10 : Int), (n11 : Int)]⟩ : Ino)).1 (layI (⟨k, r, (n0 : Int), (n1 : Int), [(n2 : Int), (n3 : Int), (n4 : Int), (n5 : Int), (n6 : Int), (n7 : Int), (n8 : Int), (n9 : Int), (n10 : Int), (n11 : Int)]⟩ : Ino)).2 e w') := fun W => rlay_ino (⟨k, r, (n0 : Int), (n1 : Int), [(n2 : Int), (n3 : Int), (n4 : Int), (n5 : Int), (n6 : Int), (n7 : Int), (n8 : Int), (n9 : Int), (n10 : Int), (n11 : Int)]⟩ : Ino) ⟨rfl, bk, br⟩ W
  have HLn := Lib.hid (length_bytesI (n := (⟨k, r, (n0 : Int), (n1 : Int), [(n2 : Int), (n3 : Int), (n4 : Int), (n5 : Int), (n6 : Int), (n7 : Int), (n8 : Int), (n9 : Int), (n10 : Int), (n11 : Int)]⟩ : Ino)) ⟨rfl, bk, br⟩)
  have z0 : IntKind.i64.wrap (n0 : Int) = n0 := IntWalk.i64_in _ (by omega)
  have z1 : IntKind.i64.wrap (n1 : Int) = n1 := IntWalk.i64_in _ (by omega)
  have z2 : IntKind.i64.wrap (n10 : Int) = n10 := IntWalk.i64_in _ (by omega)
  have z3 : IntKind.i64.wrap (n11 : Int) = n11 := IntWalk.i64_in _ (by omega)
  clear hl hr hcc hb0 hb1 hR hbb
  have hcR : Below w.heap.size w (w.alloc (.cells #[.int .u8 0, .int .u8 0, .int .i64 0, .int .i64 0, .int .i64 0, .int .i64 0, .int .i64 0, .int .i64 0, .int .i64 0, .int .i64 0, .int .i64 0, .int .i64 0, .int .i64 0, .int .i64 0] 52)) := alloc_below w _
  have hKR : Bk (w.alloc (.cells #[.int .u8 0, .int .u8 0, .int .i64 0, .int .i64 0, .int .i64 0, .int .i64 0, .int .i64 0, .int .i64 0, .int .i64 0, .int .i64 0, .int .i64 0, .int .i64 0, .int .i64 0, .int .i64 0] 52)) w.heap.size 52 [.int .u8 0, .int .u8 0, .int .i64 0, .int .i64 0, .int .i64 0, .int .i64 0, .int .i64 0, .int .i64 0, .int .i64 0, .int .i64 0, .int .i64 0, .int .i64 0, .int .i64 0, .int .i64 0] := Bk.new w 52 _
  have hsW : (w.alloc (.cells #[.int .u8 0, .int .u8 0, .int .i64 0, .int .i64 0, .int .i64 0, .int .i64 0, .int .i64 0, .int .i64 0, .int .i64 0, .int .i64 0, .int .i64 0, .int .i64 0, .int .i64 0, .int .i64 0] 52)).heap.size = w.heap.size + 1 := by simp
  go_enter Try.func48, Try.ntmps48
  go_wp2_with fail
  generalize w.alloc (.cells #[.int .u8 0, .int .u8 0, .int .i64 0, .int .i64 0, .int .i64 0, .int .i64 0, .int .i64 0, .int .i64 0, .int .i64 0, .int .i64 0, .int .i64 0, .int .i64 0, .int .i64 0, .int .i64 0] 52) = W at *
  have e0 := (hcR.cell (p := ⟨bb, o, none⟩) Hbb.out).trans H0.out
  have e1 := (hcR.cell (p := ⟨bb, o + 1, none⟩) Hbb.out).trans H1.out
  have hbW : bb < W.heap.size := Nat.lt_of_lt_of_le Hbb.out hcR.size
  have HBW := Lib.hid (below_drew hcR)
  have E0 := Lib.hid e0
  have E1 := Lib.hid e1
  clear e0 e1
  have hbA := below_drew (hcR.alloc hcR.size (.cells #[.int .u8 0, .int .u8 0, .int .i64 0, .int .i64 0, .int .i64 0, .int .i64 0, .int .i64 0, .int .i64 0, .int .i64 0, .int .i64 0, .int .i64 0, .int .i64 0, .int .i64 0, .int .i64 0] 52))
  have f0 := Lib.hid ((hbA.cell (p := ⟨bb, o, none⟩) Hbb.out).trans H0.out)
  have f1 := Lib.hid ((hbA.cell (p := ⟨bb, o + 1, none⟩) Hbb.out).trans H1.out)
  have HBA := Lib.hid hbA
  have hbG := below_drew (hcR.alloc hcR.size (.cells #[.int .u8 (k : Int), .int .u8 (r : Int), .int .i64 (n0 : Int), .int .i64 (n1 : Int), .int .i64 0, .int .i64 0, .int .i64 0, .int .i64 0, .int .i64 0, .int .i64 0, .int .i64 0, .int .i64 0, .int .i64 (n10 : Int), .int .i64 (n11 : Int)] 52))
  have g0 := Lib.hid ((hbG.cell (p := ⟨bb, o, none⟩) Hbb.out).trans H0.out)
  have g1 := Lib.hid ((hbG.cell (p := ⟨bb, o + 1, none⟩) Hbb.out).trans H1.out)
  have HBG := Lib.hid hbG
  clear hbA hbG
  apply part_goal
  · intro key
    go_region_held3 (fun u => u.cell? ⟨bb, o, none⟩ = some (.int .u8 (k : Int)) ∧ u.cell? ⟨bb, o + 1, none⟩ = some (.int .u8 (r : Int)) ∧ Below w.heap.size w u)
      (first | exact ⟨E0.out, E1.out, HBW.out⟩ | exact ⟨f0.out, f1.out, HBA.out⟩ | exact ⟨g0.out, g1.out, HBG.out⟩)
      (first
        | (go_at_call 75; (with_reducible refine (A2.out _ HBW.out).mono ?_); rintro e w3 ⟨he, hw3⟩; obtain rfl := he; obtain rfl := hw3)
        | (go_at_call 75; (with_reducible refine (A4.out _ HBW.out).mono ?_); rintro e w3 ⟨he, hw3⟩; obtain rfl := he; obtain rfl := hw3)
        | (go_at_call 75; (with_reducible refine (A22.out _ HBW.out).mono ?_); rintro e w3 ⟨he, hw3⟩; obtain rfl := he; obtain rfl := hw3)
        | (go_at_call 75; (with_reducible refine (A24.out _ HBW.out).mono ?_); rintro e w3 ⟨he, hw3⟩; obtain rfl := he; obtain rfl := hw3)
        | (go_at_call 75; (with_reducible refine (A2.out _ HBA.out).mono ?_); rintro e w3 ⟨he, hw3⟩; obtain rfl := he; obtain rfl := hw3)
        | (go_at_call 75; (with_reducible refine (A4.out _ HBA.out).mono ?_); rintro e w3 ⟨he, hw3⟩; obtain rfl := he; obtain rfl := hw3)
        | (go_at_call 75; (with_reducible refine (A22.out _ HBA.out).mono ?_); rintro e w3 ⟨he, hw3⟩; obtain rfl := he; obtain rfl := hw3)
        | (go_at_call 75; (with_reducible refine (A24.out _ HBA.out).mono ?_); rintro e w3 ⟨he, hw3⟩; obtain rfl := he; obtain rfl := hw3))
    all_goals exact key.out
  have hM : Bk (W.alloc (.cells #[.int .u8 (k : Int), .int .u8 (r : Int), .int .i64 (n0 : Int), .int .i64 (n1 : Int), .int .i64 0, .int .i64 0, .int .i64 0, .int .i64 0, .int .i64 0, .int .i64 0, .int .i64 0, .int .i64 0, .int .i64 (n10 : Int), .int .i64 (n11 : Int)] 52)).drew (w.heap.size + 1) 52 (cellsD k r n0 n1 (partD [(n2 : Int), (n3 : Int), (n4 : Int), (n5 : Int), (n6 : Int), (n7 : Int), (n8 : Int), (n9 : Int)] 0) n10 n11) := by
    rw [← hsW]
    exact Bk.new W 52 _
  have hZ : Bk (W.alloc (.cells #[.int .u8 (k : Int), .int .u8 (r : Int), .int .i64 (n0 : Int), .int .i64 (n1 : Int), .int .i64 0, .int .i64 0, .int .i64 0, .int .i64 0, .int .i64 0, .int .i64 0, .int .i64 0, .int .i64 0, .int .i64 (n10 : Int), .int .i64 (n11 : Int)] 52)).drew w.heap.size 52 [.int .u8 0, .int .u8 0, .int .i64 0, .int .i64 0, .int .i64 0, .int .i64 0, .int .i64 0, .int .i64 0, .int .i64 0, .int .i64 0, .int .i64 0, .int .i64 0, .int .i64 0, .int .i64 0] := hKR.below (below_drew (alloc_below W _)) hKR.lt
  have hsV : w.heap.size + 1 < (W.alloc (.cells #[.int .u8 (k : Int), .int .u8 (r : Int), .int .i64 (n0 : Int), .int .i64 (n1 : Int), .int .i64 0, .int .i64 0, .int .i64 0, .int .i64 0, .int .i64 0, .int .i64 0, .int .i64 0, .int .i64 0, .int .i64 (n10 : Int), .int .i64 (n11 : Int)] 52)).drew.heap.size := hM.lt
  have HT8 : Hid ([(n2 : Int), (n3 : Int), (n4 : Int), (n5 : Int), (n6 : Int), (n7 : Int), (n8 : Int), (n9 : Int)].length = 8) := rfl
  clear z0 z1 z2 z3 E0 E1 f0 f1 HBA HBW g0 g1 hKR hsW hcR hbW
  have HGV := HBG
  clear HBG
  generalize (W.alloc (.cells #[.int .u8 (k : Int), .int .u8 (r : Int), .int .i64 (n0 : Int), .int .i64 (n1 : Int), .int .i64 0, .int .i64 0, .int .i64 0, .int .i64 0, .int .i64 0, .int .i64 0, .int .i64 0, .int .i64 0, .int .i64 (n10 : Int), .int .i64 (n11 : Int)] 52)).drew = V at *
  have HZ := Lib.hid hZ
  have HSV := Lib.hid hsV
  clear hZ hsV
  generalize HT : [(n2 : Int), (n3 : Int), (n4 : Int), (n5 : Int), (n6 : Int), (n7 : Int), (n8 : Int), (n9 : Int)] = T at *
  go_wp2
  go_loopw [5] (fun i wr => ∃ j : Nat, j ≤ 8 ∧ i = .int .i64 (j : Int) ∧ Bk wr (w.heap.size + 1) 52 (cellsD k r n0 n1 (partD T j) n10 n11) ∧ V.grownBy wr (some (w.heap.size + 1))) (fun i _ => 8 - (intOf i).toNat)
  case atStart => exact ⟨0, Nat.zero_le _, rfl, hM, World.grownBy.refl _ _⟩
  case round =>
    obtain ⟨j, hj, rfl, hk, hg⟩ := hrel
    have HBR := Lib.hid (HGV.out.grown hg HGV.out.size (by rintro q hq; injection hq with hq; omega))
    clear hM
    by_cases hlt : j < 8
    · obtain ⟨x, hx6, hTx, hat⟩ := AJ.out j hlt
      have HAT := Lib.hid hat
      have hset := hk.set (4 + j) (.int .i64 (x : Int))
      rw [cellsD_set _ _ _ _ _ _ _ _ _ (by rw [length_partD HT8.out (by omega)]; exact hlt), partD_step HT8.out hTx] at hset
      have HSET := Lib.hid hset
      have HG2 := Lib.hid (only_set hg (4 + j) (.int .i64 (x : Int)))
      obtain ⟨v, hv⟩ : ∃ v, wr.cell? ⟨w.heap.size + 1, 4 + j, none⟩ = some v := ⟨_, (hk.cell _).trans (List.getElem?_eq_getElem (by rw [length_cellsD _ _ _ _ _ _ _ (length_partD HT8.out (by omega))]; omega))⟩
      have hf := hk.frozen (4 + j)
      have e1 : IntKind.i64.wrap (2 * (j : Int)) = 2 * (j : Int) := IntWalk.i64_in _ (by omega)
      have e2 : IntKind.i64.wrap (6 + 2 * (j : Int)) = 6 + 2 * (j : Int) := IntWalk.i64_in _ (by omega)
      have e3 : IntKind.i64.wrap (x : Int) = x := IntWalk.i64_in _ (by omega)
      have hj0 : (0 : Int) ≤ (j : Int) := Int.natCast_nonneg _
      have hj8 : (j : Int) < 8 := by omega
      have hsr := hk.lt
      clear hk hg hset hTx hat
      go_wp2_with (go_at_call 75; (with_reducible refine (HAT.out _ HBR.out).mono ?_); rintro e w3 ⟨he, hw3⟩; obtain rfl := he; obtain rfl := hw3)
      go_roundw
      case rel => exact ⟨j + 1, by omega, by go_num, HSET.out, HG2.out⟩
      case measure => simp [intOf]; omega
    · obtain rfl : j = 8 := by omega
      rw [partD_all HT8.out] at hk
      have hA6 : Bk wr (w.heap.size + 1) 52 [.int .u8 (k : Int), .int .u8 (r : Int), .int .i64 (n0 : Int), .int .i64 (n1 : Int), .int .i64 (n2 : Int), .int .i64 (n3 : Int), .int .i64 (n4 : Int), .int .i64 (n5 : Int), .int .i64 (n6 : Int), .int .i64 (n7 : Int), .int .i64 (n8 : Int), .int .i64 (n9 : Int), .int .i64 (n10 : Int), .int .i64 (n11 : Int)] := by
        subst HT
        exact hk
      have HK6 := Lib.hid (HZ.out.grown hg (by simp))
      have HA6 := Lib.hid hA6
      have HB6 := HBR
      obtain ⟨a0, a1, a2, a3, a4, a5, a6, a7, a8, a9, a10, a11, a12, a13⟩ := ino_cells hA6
      have hl6 := hA6.lt
      clear hk hg hA6 HBR HZ HSV HGV AJ HT HT8
      go_wp2_with fail
      clear a0 a1 a2 a3 a4 a5 a6 a7 a8 a9 a10 a11 a12 a13
      refine (HLA.out _).mono ?_
      clear HLA A2 A4 A22 A24
      intro e w7 hh
      by_cases hRt : Right (⟨k, r, (n0 : Int), (n1 : Int), [(n2 : Int), (n3 : Int), (n4 : Int), (n5 : Int), (n6 : Int), (n7 : Int), (n8 : Int), (n9 : Int), (n10 : Int), (n11 : Int)]⟩ : Ino)
      rotate_left
      · rw [layI_no hRt] at hh
        obtain ⟨A7, c7, he, -, -, hb7⟩ := hh.got (n := 0) rfl
        obtain rfl := he
        have HV : Hid (R = (.z, 110)) := by
          show R = _
          rw [HR.out]
          exact takI_bad (by rw [HU.out]; exact hRt)
        have hK7 := HK6.out.below hb7 HK6.out.lt
        have hB7 := HB6.out.trans (hb7.mono HB6.out.size)
        have hw7 := hK7.lt
        obtain ⟨d0, d1, d2, d3, d4, d5, d6, d7, d8, d9, d10, d11, d12, d13⟩ := ino_cells hK7
        obtain ⟨x0, x1, x2, x3, x4, x5, x6, x7, x8, x9, x10, x11, x12, x13⟩ := ino_frozen hK7
        have HB7 := Lib.hid hB7
        clear hK7 hB7
        clear hRt hh hb7 HR HU HL HLn
        go_wp2
        refine bodyPost_ret (v := .tuple #[.agg #[.int .u8 0, .int .u8 0, .int .i64 0, .int .i64 0, .int .i64 0, .int .i64 0, .int .i64 0, .int .i64 0, .int .i64 0, .int .i64 0, .int .i64 0, .int .i64 0, .int .i64 0, .int .i64 0], .int .i64 110]) (by simp [results, Try.results48, go_sem, *]) rfl ⟨by rw [HV.out]; rfl, ?_⟩
        have hb := HB7.out
        repeat (first | with_reducible exact hb | with_reducible refine below_drewN ?_ _ | with_reducible refine Below.setCell ?_ ?_ _ | with_reducible refine Below.alloc ?_ ?_ _)
        all_goals (first | omega | (simp <;> omega))
      by_cases hbe : bytesI (⟨k, r, (n0 : Int), (n1 : Int), [(n2 : Int), (n3 : Int), (n4 : Int), (n5 : Int), (n6 : Int), (n7 : Int), (n8 : Int), (n9 : Int), (n10 : Int), (n11 : Int)]⟩ : Ino) = b
      rotate_left
      · rw [layI_yes hRt] at hh
        obtain ⟨A7, c7, he, -, hr7, hb7⟩ := hh.got (n := 32) HLn.out
        obtain rfl := he
        have HV : Hid (R = (.z, 110)) := by
          show R = _
          rw [HR.out]
          exact takI_not (by rw [HU.out]; exact hbe)
        have HE : (!(bytesI (⟨k, r, (n0 : Int), (n1 : Int), [(n2 : Int), (n3 : Int), (n4 : Int), (n5 : Int), (n6 : Int), (n7 : Int), (n8 : Int), (n9 : Int), (n10 : Int), (n11 : Int)]⟩ : Ino) == b)) = true := by simp [hbe]
        have s1 := str_of (c := c7) HLn.out hr7
        have hK7 := HK6.out.below hb7 HK6.out.lt
        have hB7 := HB6.out.trans (hb7.mono HB6.out.size)
        have hw7 := hK7.lt
        obtain ⟨d0, d1, d2, d3, d4, d5, d6, d7, d8, d9, d10, d11, d12, d13⟩ := ino_cells hK7
        obtain ⟨x0, x1, x2, x3, x4, x5, x6, x7, x8, x9, x10, x11, x12, x13⟩ := ino_frozen hK7
        have HB7 := Lib.hid hB7
        clear hK7 hB7
        have s2 := str_of (c := c) HL.out (HRb.out.below HB7.out)
        clear hRt hh hb7 hbe HR HU hr7 HL HLn
        generalize bytesI (⟨k, r, (n0 : Int), (n1 : Int), [(n2 : Int), (n3 : Int), (n4 : Int), (n5 : Int), (n6 : Int), (n7 : Int), (n8 : Int), (n9 : Int), (n10 : Int), (n11 : Int)]⟩ : Ino) = bs at *
        go_wp2
        refine bodyPost_ret (v := .tuple #[.agg #[.int .u8 0, .int .u8 0, .int .i64 0, .int .i64 0, .int .i64 0, .int .i64 0, .int .i64 0, .int .i64 0, .int .i64 0, .int .i64 0, .int .i64 0, .int .i64 0, .int .i64 0, .int .i64 0], .int .i64 110]) (by simp [results, Try.results48, go_sem, *]) rfl ⟨by rw [HV.out]; rfl, ?_⟩
        have hb := HB7.out
        repeat (first | with_reducible exact hb | with_reducible refine below_drewN ?_ _ | with_reducible refine Below.setCell ?_ ?_ _ | with_reducible refine Below.alloc ?_ ?_ _)
        all_goals (first | omega | (simp <;> omega))
      · rw [layI_yes hRt] at hh
        obtain ⟨A7, c7, he, -, hr7, hb7⟩ := hh.got (n := 32) HLn.out
        obtain rfl := he
        have HV : Hid (R = ((⟨k, r, (n0 : Int), (n1 : Int), [(n2 : Int), (n3 : Int), (n4 : Int), (n5 : Int), (n6 : Int), (n7 : Int), (n8 : Int), (n9 : Int), (n10 : Int), (n11 : Int)]⟩ : Ino), 0)) := by
          show R = _
          rw [HR.out, takI_yes HL.out (by rw [HU.out]; exact hRt) (by rw [HU.out]; exact hbe), HU.out]
        rw [hbe] at hr7
        have s1 := str_of (c := c7) HL.out hr7
        have hA7 := HA6.out.below hb7 HA6.out.lt
        have hlt7 := hA7.lt
        obtain ⟨a0, a1, a2, a3, a4, a5, a6, a7, a8, a9, a10, a11, a12, a13⟩ := ino_cells hA7
        have hK7 := HK6.out.below hb7 HK6.out.lt
        have hB7 := HB6.out.trans (hb7.mono HB6.out.size)
        have hw7 := hK7.lt
        obtain ⟨d0, d1, d2, d3, d4, d5, d6, d7, d8, d9, d10, d11, d12, d13⟩ := ino_cells hK7
        obtain ⟨x0, x1, x2, x3, x4, x5, x6, x7, x8, x9, x10, x11, x12, x13⟩ := ino_frozen hK7
        have HB7 := Lib.hid hB7
        clear hK7 hB7
        have s2 := str_of (c := c) HL.out (HRb.out.below HB7.out)
        clear hRt hh hb7 hbe HR HU hr7 hA7 HL HLn
        go_wp2
        refine bodyPost_ret (v := .tuple #[.agg #[.int .u8 (k : Int), .int .u8 (r : Int), .int .i64 (n0 : Int), .int .i64 (n1 : Int), .int .i64 (n2 : Int), .int .i64 (n3 : Int), .int .i64 (n4 : Int), .int .i64 (n5 : Int), .int .i64 (n6 : Int), .int .i64 (n7 : Int), .int .i64 (n8 : Int), .int .i64 (n9 : Int), .int .i64 (n10 : Int), .int .i64 (n11 : Int)], .int .i64 0]) (by simp [results, Try.results48, go_sem, *]) rfl ⟨by rw [HV.out]; rfl, ?_⟩
        have hb := HB7.out
        repeat (first | with_reducible exact hb | with_reducible refine below_drewN ?_ _ | with_reducible refine Below.setCell ?_ ?_ _ | with_reducible refine Below.alloc ?_ ?_ _)
        all_goals (first | omega | (simp <;> omega))
/-- The document's Take. -/
theorem rtake_any (b : List UInt8) (A : Option Addr) (n c : Nat) (w : World) (hl : b.length = n) (hr : Rd w w.heap.size A (bytesV b)) (hc : n ≤ c) :
    Calls Try.prog 48 #[.slice A n c] w fun e w' => HandsN w (takI b).1 (takI b).2 e w' := by
  by_cases h : n = 32
  · subst h
    exact rtake_in b A c w hl hr hc
  · rw [takI_len (b := b) (by omega)]
    exact rtake_len A n c w h
end Go.Proofs.Ytaflpigpeckhoaa.Inode
