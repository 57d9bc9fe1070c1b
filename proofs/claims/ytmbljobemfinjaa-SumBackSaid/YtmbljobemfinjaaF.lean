/-
  Facts of this program that every statement's proof wants, and the document's examples, called.
-/
import Derived.Test.YtmbljobemfinjaaS3
import Derived.Test.YtmbljobemfinjaaC
import Derived.Lib.SlBytesConst
namespace Go.Proofs.Ytmbljobemfinjaa
open Go.ChangeShapes Go.WideShapes Go.ChangeAt Go.RowKit

theorem own : ownKnob Try.prog.godebug = none := by kernel_rfl
theorem laid : laidOutB Try.prog = true := by kernel_rfl
theorem cells5 : Try.prog.cellsOf 5 = 1 := by kernel_rfl
theorem few_len (l : List UInt8) (n : Nat) (hn : l.length = n) : (l.take 50000).length = min n 50000 := by rw [List.length_take, hn]; omega

theorem of_nil (w : World) : Calls Try.prog 12 #[.slice none 0 0] w fun e w' => e = .returned (.int .u32 1) ∧ w = w' :=
  of_any [] none 0 0 0 w rfl (.inl rfl) (by omega)
theorem seal_nil (w : World) : Calls Try.prog 18 #[.slice none 0 0] w fun e w' => ∃ A c, e = .returned (.slice A 4 c) ∧ (convert 23 9 (.slice A 4 c)).run Try.prog w' = .ok (.string ⟨#[1, 0, 0, 0]⟩) w' ∧ Below w.heap.size w w' :=
  (seal_any [] none 0 0 w rfl (.inl rfl) (by omega) (by omega)).mono fun e w' ⟨v, he, hown, hb⟩ => by
    obtain ⟨_, A, c, rfl, _, _, hr⟩ := own_rd hown
    exact ⟨A, c, he, str_of rfl hr, hb⟩

theorem of_abc (w : World) (k : Nat × Nat) : Calls Try.prog 12 #[.slice (some ⟨w.heap.size, 0, none⟩) 3 3] (w.alloc (.cells #[.int .u8 97, .int .u8 98, .int .u8 99] 5 k))
    fun e w' => e = .returned (.int .u32 38600999) ∧ w.alloc (.cells #[.int .u8 97, .int .u8 98, .int .u8 99] 5 k) = w' :=
  of_any [97, 98, 99] _ 3 3 (w.heap.size + 1) _ rfl (.inr ⟨w.heap.size, 0, rfl, by omega, fun j u hu => by
    rw [cell_of_row _ w.heap.size (0 + j) _ 5 k (heap_alloc_new w _), Nat.zero_add]
    match j, hu with
    | 0, hu => simpa [bytesV, byteV] using hu
    | 1, hu => simpa [bytesV, byteV] using hu
    | 2, hu => simpa [bytesV, byteV] using hu
    | j + 3, hu => simp [bytesV] at hu⟩) (by omega)
set_option maxHeartbeats 400000 in
theorem shown_any (w : World) : Calls Try.prog 11 #[] w fun e w' => e = .returned (.bool true) ∧ Below w.heap.size w w' := by
  have kc := fun (w : World) (C : Array Value) (n c : Nat) => Lib.run_convert_bytes_const (P := Try.prog) w 23 5 C n c Try.underlying23 Try.underlying5
  go_enter Try.func11, Try.ntmps11
  go_wp2_with (first
    | (go_at_call 12; refine (of_nil _).mono ?_; rintro e w' ⟨rfl, rfl⟩)
    | (go_at_call 12; refine (of_abc _ _).mono ?_; rintro e w' ⟨rfl, rfl⟩)
    | (go_at_call 18; refine (seal_nil _).mono ?_; rintro e w2 ⟨A2, c2, rfl, hs2, hb2⟩))
  go_ret
  exact ⟨rfl, ((Below.refl _ w).alloc (Nat.le_refl _) _).trans (hb2.mono (by simp))⟩

/-- append onto an own row of bytes, behind a guard that lets it. -/
theorem wpList_app5g (w : World) {ops : Array Oper} {rest : List Oper} {o : Oper} {a : Act} {Q : Exit → Act → World → Prop} (hgd : Region.wanted o (yielded ops a.tmps) = true) (s x : Operand)
    (ho : o.op = .call { callee := .builtin .append, args := #[s, x], argTypes := #[23, 23] })
    (base : Nat) (v : Value) (n : Nat) (l : List UInt8) (hs : a.eval s = v) (hown : w.ownsRow base 5 1 v n (bytesV l))
    (B : Nat) (A : Option Addr) (m c : Nat) (k : List UInt8) (hx : a.eval x = .slice A m c) (hm : k.length = m) (hr : Rd w B A (bytesV k))
    (hbytes : n + m ≤ 140737488355328) (hbase : base ≤ w.heap.size)
    (h : ∀ v' w', w'.ownsRow base 5 1 v' (n + m) (bytesV (l ++ k)) → w.grownBy w' v.ownBlock → wpList Try.prog ops Q rest (a.put o.dst v') w') : wpList Try.prog ops Q (o :: rest) a w := by
  obtain ⟨i0, hi, hz0, hz1, hz2⟩ := info_parts info5
  rw [bytesV_append] at h
  refine wpList_step fun K hK => ?_
  obtain ⟨v', w', hrun, h2, h3⟩ := run_app (P := Try.prog) w base 23 o.type 5 i0 _ 1 Try.underlying23 hi hz0 hz1 hz2 rfl v n _ hown B A m c _ (by rw [length_bytesV, hm]) hr (bytesV_one _) (by simp only [maxLen]; omega) (by omega) hbase
  rw [if_pos hgd]
  unfold Oper.wp execOp
  simp only [ho, resolve, invoke, builtin, Sem.run_bind, Sem.run_pure, Result.andThen_ok, List.map_toArray, List.map_cons, List.map_nil, hs, hx, hrun]
  exact hK _ _ (h v' w' h2 h3)
end Go.Proofs.Ytmbljobemfinjaa
