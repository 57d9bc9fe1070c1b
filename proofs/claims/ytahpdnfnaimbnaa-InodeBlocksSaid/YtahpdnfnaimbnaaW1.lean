/-
  Package field's and the document's own functions that make bytes (store, padded, Num, Get, Set, few): what each call returns, and what it leaves.
-/
import Derived.Test.YtahpdnfnaimbnaaW0
namespace Go.Proofs.Ytahpdnfnaimbnaa
open Go.RowKit

theorem info5 : (Try.prog.info? 5).map (fun i => (i.zero, i.size, i.bytes)) = some (some (.int .u8 0), 1, 1) := by kernel_rfl
theorem size5 : (Try.prog.info? 5).map (·.size) = some 1 := by kernel_rfl

theorem byte_wrap (n j : Nat) : IntKind.u8.wrap ((n : Int) / 2 ^ (8 * j)) = ((UInt8.ofNat (n / 256 ^ j % 256)).toNat : Int) := by
  have e : ((n : Int) / 2 ^ (8 * j)) = ((n / 256 ^ j : Nat) : Int) := by rw [← two_pow_eq]; simp
  rw [e, IntKind.wrap_u8]
  simp

/-- What stands in a block while a number is stored. -/
def Storing (w : World) (g : Nat) (l : List UInt8) (off n j : Nat) (wr : World) : Prop :=
  Bk wr g 5 (bytesV (put l off (digs n j))) ∧ w.grownBy wr (some g)

theorem storing_step {w wr : World} {g : Nat} {l : List UInt8} {off n j : Nat} (h : Storing w g l off n j wr) (hj : off + j < l.length) :
    Storing w g l off n (j + 1) (wr.setCell ⟨g, off + j, none⟩ (.int .u8 (IntKind.u8.wrap ((n : Int) / 2 ^ (8 * j))))) := by
  refine ⟨?_, only_set h.2 _ _⟩
  have h1 := h.1.set (off + j) (byteV (UInt8.ofNat (n / 256 ^ j % 256)))
  have e : (bytesV (put l off (digs n j))).set (off + j) (byteV (UInt8.ofNat (n / 256 ^ j % 256))) = bytesV (put l off (digs n (j + 1))) := by
    rw [bytesV_put, bytesV_put, put_snoc _ _ _ _ _ (by simp [length_bytesV, length_digs]) (by simpa [length_bytesV] using hj), digs_succ, bytesV_append]
    rfl
  rw [e] at h1
  rw [byte_wrap]
  exact h1
theorem storing_cell {w wr : World} {g : Nat} {l : List UInt8} {off n j : Nat} (h : Storing w g l off n j wr) (hj : off + j < l.length) :
    (∃ v, wr.cell? ⟨g, off + j, none⟩ = some v) ∧ wr.frozen? ⟨g, off + j, none⟩ = false := by
  refine ⟨?_, h.1.frozen _⟩
  rw [h.1.cell]
  have hl : off + j < (bytesV (put l off (digs n j))).length := by rw [length_bytesV, length_put _ _ _ (by rw [length_digs]; omega)]; exact hj
  exact ⟨_, List.getElem?_eq_getElem hl⟩

set_option maxHeartbeats 400000 in
theorem store_any (l : List UInt8) (g off len cap size n : Nat) (w : World) (hb : Bk w g 5 (bytesV l)) (hl : off + len ≤ l.length) (hs : size ≤ len) (hs8 : size ≤ 8) :
    Calls Try.prog 45 #[.slice (some ⟨g, off, none⟩) len cap, .int .i64 size, .int .u64 n] w fun e w' => e = .returned (.tuple #[]) ∧ Storing w g l off n size w' := by
  go_enter Try.func45, Try.ntmps45
  go_wp2
  go_loopw [8] (fun k wr => ∃ j : Nat, j ≤ size ∧ k = .int .i64 j ∧ Storing w g l off n j wr) (fun k _ => size - (intOf k).toNat)
  case atStart => exact ⟨0, Nat.zero_le _, rfl, by rw [show digs n 0 = [] from rfl, put_nil]; exact hb, World.grownBy.refl _ _⟩
  case round =>
    obtain ⟨j, hj, rfl, hst⟩ := hrel
    by_cases hlt : j < size
    · have hstep := storing_step hst (by omega)
      obtain ⟨⟨v, hcell⟩, hfr⟩ := storing_cell hst (by omega)
      clear hst
      go_wp2
      go_roundw
      case rel => exact ⟨j + 1, by omega, by go_num, hstep⟩
      case measure => simp [intOf]; omega
    · go_wp2
      go_end0
      obtain rfl : j = size := by omega
      exact ⟨rfl, hst⟩

theorem make_bytes (n : Nat) (h : n ≤ 65536) (u : World) : (Instr.makeSlice 25 (.int .i64 (n : Int)) (.int .i64 (n : Int))).run Try.prog u =
    .ok (.slice (some ⟨u.heap.size, 0, none⟩) n n) (u.alloc (.cells (bytesV (List.replicate n 0)).toArray 5)) := by
  obtain ⟨i0, hi, hz0, hz1, hz2⟩ := info_parts info5
  have hr := run_make (P := Try.prog) u 25 5 i0 (.int .u8 0) Try.underlying25 hi hz0 .i64 .i64 (n : Int) (n : Int) (by omega) (Int.le_refl _) (by rw [hz2]; omega) (by omega)
  have e : (madeCells (Value.int .u8 0).cells (n * i0.size)) = (bytesV (List.replicate n 0)).toArray := by
    apply Array.ext'
    rw [hz1, Nat.mul_one]
    have := toList_madeCells_one (.int .u8 0) n
    simp [bytesV, byteV] at this ⊢
    exact this
  simp only [Int.toNat_natCast, e] at hr
  exact hr

/-- What padded makes. -/
def padl (l : List UInt8) (size : Nat) : List UInt8 := l ++ List.replicate (size - l.length) 0
theorem padl_put (l : List UInt8) (size : Nat) : put (List.replicate size 0) 0 l = padl l size := by
  simp [put, padl]
theorem padl_self (l : List UInt8) : padl l l.length = l := by simp [padl]
theorem length_padl (l : List UInt8) (size : Nat) (h : l.length ≤ size) : (padl l size).length = size := by simp [padl]; omega

/-- What padded leaves: a new block that holds the bytes. -/
def Padded (w : World) (l : List UInt8) (size : Nat) (w' : World) : Prop := Bk w' w.heap.size 5 (bytesV (padl l size)) ∧ Below w.heap.size w w'

set_option maxHeartbeats 400000 in
theorem padded_any (l : List UInt8) (A : Option Addr) (n c size : Nat) (w : World) (hn : l.length = n) (hr : Rd w w.heap.size A (bytesV l)) (hs : n ≤ size) (hm : size ≤ 65536) :
    Calls Try.prog 39 #[.slice A n c, .int .i64 size] w fun e w' => e = .returned (.slice (some ⟨w.heap.size, 0, none⟩) size size) ∧ Padded w l size w' := by
  have hmk := make_bytes size hm
  have hbk := Bk.new w 5 (bytesV (List.replicate size 0))
  have hbel : Below w.heap.size w (w.alloc (.cells (bytesV (List.replicate size 0)).toArray 5)) := (Below.refl _ _).alloc (Nat.le_refl _) _
  have hsrc := hr.below hbel
  have H := Lib.hid hbk
  have Hn := Lib.hid hn
  clear hbk hr hn
  go_enter Try.func39, Try.ntmps39
  go_wp2_with (refine wpList_copy_splice rfl (.tmp 8) (.tmp 9) 25 25 rfl 5 Try.underlying25 size5 _ _ _ _ _ _ rfl rfl w.heap.size 0 (bytesV (List.replicate size 0)) 5 H.out (bytesV l) ?c1 ?c2 ?c3 (bytesV_one l) w.heap.size w hbel (Nat.le_refl _) ?_)
  case c1 => rw [length_bytesV, Hn.out]; exact (Nat.min_eq_left hs).symm
  case c2 =>
    intro hpos
    rcases hsrc with h | ⟨b, o, rfl, _, hc⟩
    · rw [h] at hpos; simp at hpos
    · exact ⟨_, rfl, fun j v hj => by rw [Addr.add_lit]; exact hc j v hj⟩
  case c3 => rw [length_bytesV, length_bytesV, List.length_replicate, Hn.out]; omega
  intro w' hb' hbel'
  go_wp2
  go_ret
  refine ⟨rfl, ?_, hbel'⟩
  have := hb'.out
  rw [put_splice, ← bytesV_put, padl_put l size] at this
  exact this

set_option maxHeartbeats 400000 in
theorem num_any (n size : Nat) (w : World) (hn : n < 18446744073709551616) (hs : size ≤ 8) :
    Calls Try.prog 41 #[.int .u64 n, .int .i64 size] w fun e w' => ∃ v, e = .returned v ∧ w'.ownsRow w.heap.size 5 1 v size (bytesV (digs n size)) ∧ Below w.heap.size w w' := by
  obtain ⟨i0, hi, hz0, hz1, hz2⟩ := info_parts info5
  go_enter Try.func41, Try.ntmps41
  go_wp2
  go_loopw [0, 5, 6] (fun x b k wr => ∃ j : Nat, j ≤ size ∧ k = .int .i64 j ∧ (∃ m : Nat, Hid (m = n / 256 ^ j) ∧ x = .int .u64 (m : Int)) ∧ wr.ownsRow w.heap.size 5 1 b j (bytesV (digs n j)) ∧ Below w.heap.size w wr) (fun _ _ k _ => size - (intOf k).toNat)
  case atStart => exact ⟨0, Nat.zero_le _, rfl, ⟨n, (by simp : n = n / 256 ^ 0), rfl⟩, World.ownsRow_nil _ _ _ _, Below.refl _ _⟩
  case round =>
    obtain ⟨j, hj, rfl, ⟨m, Hm, rfl⟩, hown, hbel⟩ := hrel
    by_cases hlt : j < size
    · have hsz := hbel.size
      go_wp2_with (at_builtin; refine wpList_app _ rfl (.tmp 12) (.tmp 16) 25 rfl w.heap.size 5 i0 _ 1 Try.underlying25 hi hz0 hz1 hz2 rfl _ j (bytesV (digs n j)) rfl (hown.alloc _) (wr.heap.size + 1) _ 1 1 [byteV (UInt8.ofNat (m % 256))] rfl rfl ?c1 ?c2 ?c3 ?c4 ?c5 ?_)
      case c1 =>
        refine .inr ⟨wr.heap.size, 0, rfl, by omega, fun i u hu => ?_⟩
        rw [World.cell?_alloc_at _ _ _ _ rfl]
        cases i with
        | zero => simpa [byteV] using hu
        | succ i => simp at hu
      case c2 => intro u hu; simp only [List.mem_singleton] at hu; subst hu; rfl
      case c3 => simp only [maxLen]; omega
      case c4 => omega
      case c5 => simp; omega
      intro b' w1 hown' hg'
      go_wp2
      have hw : IntKind.u64.wrap ((m : Int) / 256) = ((m / 256 : Nat) : Int) := by
        have := Nat.div_le_self n (256 ^ j)
        have := Hm.out
        rw [IntKind.wrap_u64]; omega
      go_roundw
      case rel =>
        refine ⟨j + 1, by omega, by go_num, ⟨m / 256, ?_, by rw [hw]⟩, ?_, ?_⟩
        · show m / 256 = n / 256 ^ (j + 1)
          rw [Hm.out, Nat.div_div_eq_div_mul, Nat.pow_succ]
        · rw [digs_succ, bytesV_append]
          rw [Hm.out] at hown'
          exact hown'
        · exact (hbel.alloc hsz _).grown hg' (by simp; omega) (fun k hk => (hown.lt k hk).1)
      case measure => simp [intOf]; omega
    · go_wp2
      go_ret
      obtain rfl : j = size := by omega
      exact ⟨_, rfl, hown, hbel⟩

/-- A new row of bytes is handed back, and nothing that was there is changed. -/
def Made (w : World) (l : List UInt8) (v : Value) (w' : World) : Prop := w'.ownsRow w.heap.size 5 1 v l.length (bytesV l) ∧ Below w.heap.size w w'

/-- append onto an own row of bytes. -/
theorem wpList_app5 (w : World) {ops : Array Oper} {rest : List Oper} {o : Oper} {a : Act} {Q : Exit → Act → World → Prop} (hgd : o.guard = none) (s x : Operand)
    (ho : o.op = .call { callee := .builtin .append, args := #[s, x], argTypes := #[25, 25] })
    (base : Nat) (v : Value) (n : Nat) (l : List UInt8) (hs : a.eval s = v) (hown : w.ownsRow base 5 1 v n (bytesV l))
    (B : Nat) (A : Option Addr) (m c : Nat) (k : List UInt8) (hx : a.eval x = .slice A m c) (hm : k.length = m) (hr : Rd w B A (bytesV k))
    (hbytes : n + m ≤ 140737488355328) (hbase : base ≤ w.heap.size)
    (h : ∀ v' w', w'.ownsRow base 5 1 v' (n + m) (bytesV (l ++ k)) → w.grownBy w' v.ownBlock → wpList Try.prog ops Q rest (a.put o.dst v') w') : wpList Try.prog ops Q (o :: rest) a w := by
  obtain ⟨i0, hi, hz0, hz1, hz2⟩ := info_parts info5
  rw [bytesV_append] at h
  exact wpList_app w hgd s x 25 ho base 5 i0 _ 1 Try.underlying25 hi hz0 hz1 hz2 rfl v n _ hs hown B A m c _ hx (by rw [length_bytesV, hm]) hr (bytesV_one _) (by simp only [maxLen]; omega) (by omega) hbase h

end Go.Proofs.Ytahpdnfnaimbnaa
