/-
  Package field's and the document's own Take and Fill, and the document's Same: what each call returns, and what it leaves.
-/
import Derived.Test.YtlopndnjkphdnaaW2
namespace Go.Proofs.Ytlopndnjkphdnaa
open Go.RowKit

/-- Of a list that is being filled. -/
def partly (T : List Nat) (j : Nat) : List Nat := T.take j ++ List.replicate (T.length - j) 0
theorem partly_all (T : List Nat) : partly T T.length = T := by simp [partly]
theorem partly_zero (T : List Nat) : partly T 0 = List.replicate T.length 0 := by simp [partly]
theorem length_partly (T : List Nat) (j : Nat) (h : j ≤ T.length) : (partly T j).length = T.length := by simp [partly]; omega
theorem partly_step (T : List Nat) (j : Nat) (x : Nat) (h : T[j]? = some x) : (partly T j).set j x = partly T (j + 1) := by
  obtain ⟨hj, rfl⟩ := List.getElem?_eq_some_iff.1 h
  unfold partly
  have hl : (T.take j).length = j := by simp; omega
  rw [List.set_append_right _ _ (by omega), hl, Nat.sub_self, show T.length - j = (T.length - (j + 1)) + 1 by omega, List.replicate_succ, List.set_cons_zero, List.take_succ_eq_append_getElem hj, List.append_assoc]
  rfl
theorem numsV_set (l : List Nat) (j x : Nat) : (numsV l).set j (numV x) = numsV (l.set j x) := by simp [numsV, List.map_set]

def lenIn : Value → Nat
  | .slice _ k _ => k
  | _ => 0
theorem rd_new (w : World) (u : Value) (e : TypeId) : Rd (w.alloc (.cells #[u] e)) (w.heap.size + 1) (some ⟨w.heap.size, 0, none⟩) [u] :=
  .inr ⟨w.heap.size, 0, rfl, Nat.lt_succ_self _, fun i v hv => by
    rw [Nat.zero_add, World.cell?_alloc_at _ _ _ _ rfl]
    simpa using hv⟩

theorem rfill_arg (A : Option Addr) (n c : Nat) (size : Int) (w : World) (h : size < 0) :
    Calls Try.prog 32 #[.slice A n c, .int .i64 size] w fun e w' => e = .returned (.tuple #[.slice none 0 0, .int .i64 1]) ∧ w = w' := by
  go_enter Try.func32, Try.ntmps32
  go_wp2
  go_ret2
  exact ⟨rfl, rfl⟩
theorem rfill_long (A : Option Addr) (n c size : Nat) (w : World) (h : size < n ∨ 4096 < size) :
    Calls Try.prog 32 #[.slice A n c, .int .i64 size] w fun e w' => e = .returned (.tuple #[.slice none 0 0, .int .i64 4]) ∧ w = w' := by
  by_cases h1 : size < n
  · clear h
    go_enter Try.func32, Try.ntmps32
    go_wp2
    go_ret2
    exact ⟨rfl, rfl⟩
  · have h2 : 4096 < size := by omega
    clear h
    go_enter Try.func32, Try.ntmps32
    go_wp2
    go_ret2
    exact ⟨rfl, rfl⟩

set_option maxHeartbeats 400000 in
theorem rfill_ok (l : List UInt8) (A : Option Addr) (n c size : Nat) (w : World) (hn : l.length = n) (hr : Rd w w.heap.size A (bytesV l)) (hs : n ≤ size) (hm : size ≤ 4096) :
    Calls Try.prog 32 #[.slice A n c, .int .i64 size] w fun e w' => ∃ v, e = .returned (.tuple #[v, .int .i64 0]) ∧ Made w (padl l size) v w' := by
  have H := Lib.hid hn
  have hlit := World.ownsRow_lit (base := w.heap.size) (e := 5) (size := 1) w #[] 0 (Nat.le_refl _) (Nat.zero_le _) rfl
  have hb0 : Below w.heap.size w (w.alloc (.cells #[] 5)) := (Below.refl _ _).alloc (Nat.le_refl _) _
  clear hn
  go_enter Try.func32, Try.ntmps32
  go_wp2_with (at_builtin; refine wpList_app5 _ rfl (.tmp 17) (.tmp 18) rfl w.heap.size _ 0 [] rfl hlit w.heap.size A n _ l rfl H.out (hr.below hb0) (by omega) hb0.size ?_)
  intro v1 w1 hown1 hg1
  have hb1 : Below w.heap.size w w1 := hb0.grown hg1 hb0.size (fun k hk => (hlit.lt k hk).1)
  obtain ⟨_, A1, c1, rfl, hc1, hm1, _⟩ := own_rd hown1
  clear hg1 hlit hb0
  go_wp2
  go_loopw [6] (fun v wr => ∃ (j : Nat) (A2 : Option Addr) (c2 : Nat), n ≤ j ∧ j ≤ size ∧ v = .slice A2 j c2 ∧ wr.ownsRow w.heap.size 5 1 v j (bytesV (l ++ List.replicate (j - n) 0)) ∧ Below w.heap.size w wr) (fun v _ => size - lenIn v)
  case atStart => exact ⟨n, A1, c1, Nat.le_refl _, hs, rfl, by simpa using hown1, hb1⟩
  case round =>
    obtain ⟨j, A2, c2, hnj, hj, rfl, hown, hbe⟩ := hrel
    have hsz := hbe.size
    by_cases hlt : j < size
    · have hown0 := hown.alloc (.cells #[.int .u8 0] 5)
      go_wp2_with (at_builtin; refine wpList_app5 _ rfl (.tmp 24) (.tmp 25) rfl w.heap.size _ j _ rfl hown0 (wr.heap.size + 1) _ 1 1 [0] rfl rfl (rd_new _ _ _) (by omega) (by simp; omega) ?_)
      intro v3 w3 hown3 hg3
      have hbe3 : Below w.heap.size w w3 := (hbe.alloc hsz _).grown hg3 (by simp; omega) (fun k hk => (hown0.lt k hk).1)
      obtain ⟨_, A3, c3, rfl, _, _, _⟩ := own_rd hown3
      clear hown hown0 hg3
      go_wp2
      go_roundw
      case rel =>
        refine ⟨j + 1, A3, c3, by omega, by omega, rfl, ?_, hbe3⟩
        have e : l ++ List.replicate (j + 1 - n) 0 = l ++ List.replicate (j - n) 0 ++ [(0 : UInt8)] := by
          rw [show j + 1 - n = (j - n) + 1 by omega, List.replicate_succ', List.append_assoc]
        rw [e]
        simpa [List.append_assoc] using hown3
      case measure => simp [lenIn]; omega
    · go_wp2
      go_ret2
      obtain rfl : j = size := by omega
      have hl : (padl l j).length = j := length_padl l j (by rw [H.out]; exact hs)
      refine ⟨_, rfl, ?_, hbe⟩
      rw [hl, padl, H.out]
      exact hown

end Go.Proofs.Ytlopndnjkphdnaa
