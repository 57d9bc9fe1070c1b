/-
  Statement ProcNil: a nil table has nothing. No condition.
-/
import Derived.Test.YtnahccdjeilboaaF
namespace Go.Proofs.Ytnahccdjeilboaa.Prc
open Go.RowKit Go.ChangeShapes Go.WideShapes Go.ChangeAt Apart
attribute [local go_sem ↓] Go.wp_at_zero Go.wp_at_succ

set_option maxHeartbeats 400000 in
theorem does_nil (w : World) (a : Act) (ha : a.Good) :
    Calls Try.prog 12 #[.pointer none, .agg a.cells.toArray] w fun e w' => e = .returned (.tuple #[.int .i64 0, .int .i64 2]) ∧ Below w.heap.size w w' := by
  obtain ⟨k, p, fd, n, l⟩ := a
  obtain ⟨hk, hl⟩ := ha
  have hk : k < 256 := hk
  have hl : l < 65536 := hl
  have h4 : k % 4 = 0 ∨ k % 4 = 1 ∨ k % 4 = 2 ∨ k % 4 = 3 := by omega
  clear hk
  show Calls Try.prog 12 #[.pointer none, .agg #[.int .u8 (k : Int), .int .i64 p, .int .i64 fd, .int .i64 n, .int .u16 (l : Int)]] w _
  rcases h4 with h | h | h | h
  · have h5 : (k : Int) % 4 = 0 := by omega
    clear h
    go_enter Try.func12, Try.ntmps12
    go_wp2_with (go_at_call 23; refine (raise_nil _ _ _).mono ?_; rintro e w' ⟨rfl, rfl⟩)
    go_ret2
    exact ⟨rfl, (Below.refl _ _).alloc (Nat.le_refl _) _⟩
  · have h5 : (k : Int) % 4 = 1 := by omega
    clear h
    go_enter Try.func12, Try.ntmps12
    go_wp2_with (go_at_call 21; refine (open_nil _ _ _).mono ?_; rintro e w' ⟨rfl, rfl⟩)
    go_ret2
    exact ⟨rfl, (Below.refl _ _).alloc (Nat.le_refl _) _⟩
  · have h5 : (k : Int) % 4 = 2 := by omega
    clear h
    go_enter Try.func12, Try.ntmps12
    go_wp2_with (go_at_call 22; refine (close_nil _ _ _).mono ?_; rintro e w' ⟨rfl, rfl⟩)
    go_ret2
    exact ⟨rfl, (Below.refl _ _).alloc (Nat.le_refl _) _⟩
  · have h5 : (k : Int) % 4 = 3 := by omega
    clear h
    go_enter Try.func12, Try.ntmps12
    go_wp2_with (go_at_call 24; refine (move_nil _ _ _ _).mono ?_; rintro e w' ⟨rfl, rfl⟩)
    go_ret2
    exact ⟨rfl, (Below.refl _ _).alloc (Nat.le_refl _) _⟩
set_option maxHeartbeats 1600000 in
theorem nil_walk (a : Act) (ha : a.Good) (w : World) :
    Calls Try.prog 6 #[.agg a.cells.toArray] w fun e w' => e = .returned (.bool true) ∧ Below w.heap.size w w' := by
  have HD := Lib.hid fun u => does_nil u a ha
  obtain ⟨k, p, fd, n, l⟩ := a
  have HD : Hid (∀ u, Calls Try.prog 12 #[.pointer none, .agg #[.int .u8 (k : Int), .int .i64 p, .int .i64 fd, .int .i64 n, .int .u16 (l : Int)]] u fun e w' => e = .returned (.tuple #[.int .i64 0, .int .i64 2]) ∧ Below u.heap.size u w') := HD
  show Calls Try.prog 6 #[.agg #[.int .u8 (k : Int), .int .i64 p, .int .i64 fd, .int .i64 n, .int .u16 (l : Int)]] w _
  clear ha
  go_enter Try.func6, Try.ntmps6
  go_wp2_with fail
  refine (shown_any _).mono ?_
  rintro e w1 ⟨rfl, hb⟩
  have hb1 : Below w.heap.size (w.alloc (.cells #[.int .u8 (k : Int), .int .i64 p, .int .i64 fd, .int .i64 n, .int .u16 (l : Int)] 35)) w1 := hb.mono (by simp)
  have hB := Lib.hid ((Bk.new w 35 [.int .u8 (k : Int), .int .i64 p, .int .i64 fd, .int .i64 n, .int .u16 (l : Int)]).below hb (by simp))
  have L := Lib.hid (((Below.refl _ w).alloc (Nat.le_refl _) _).trans hb1)
  clear hb hb1
  have c0 := hB.out.cell 0
  have c1 := hB.out.cell 1
  have c2 := hB.out.cell 2
  have c3 := hB.out.cell 3
  have c4 := hB.out.cell 4
  go_wp2_with fail
  refine (HD.out _).mono ?_
  rintro e w2 ⟨rfl, hb⟩
  have HB2 := Lib.hid (hB.out.below hb hB.out.lt)
  have L2 := Lib.hid (L.out.trans (hb.mono L.out.size))
  clear hb c0 c1 c2 c3 c4 hB L
  have c0 := HB2.out.cell 0
  have c1 := HB2.out.cell 1
  have c2 := HB2.out.cell 2
  have c3 := HB2.out.cell 3
  go_wp2_with fail
  refine (label_nil _ _).mono ?_
  rintro e w3 ⟨rfl, rfl⟩
  go_wp2_with fail
  refine (fd_nil _ _ _).mono ?_
  rintro e w3 ⟨rfl, hb⟩
  have HB3 := Lib.hid (HB2.out.below hb HB2.out.lt)
  have L3 := Lib.hid (L2.out.trans (hb.mono L2.out.size))
  clear hb c0 c1 c2 c3 HB2 L2
  have c3 := HB3.out.cell 3
  have hlt := HB3.out.lt
  go_wp2_with (go_at_call 17; refine (holds_nil _ _).mono ?_; rintro e w' ⟨rfl, rfl⟩)
  go_ret
  exact ⟨rfl, (L3.out.alloc L3.out.size _)⟩
end Go.Proofs.Ytnahccdjeilboaa.Prc
namespace Go.Proofs.Ytnahccdjeilboaa
open Go.RowKit Go.ChangeShapes Go.WideShapes Go.ChangeAt Prc

theorem nil_contract (H : Type) (enc : TypeId × Value → H) (W : World) (base : Nat) (args : Array Value) (ds gs : List (DataW H)) (before : List MemPlace)
    (hval : ∀ (j : Nat) t v, Try.f6.params[j]? = some t → args[j]? = some v → Value.okWide Try.prog W .any base t v)
    (hW : DataW.Whole enc Try.prog Try.f6.params.toList Rows.procNilSpec.vars false W args.toList ds gs before) :
    Calls Try.prog 6 args W fun e W' => ∃ v, e = .returned v ∧ Rows.procNilSpec.post enc Try.prog Try.f6 false true false false W args v W' := by
  have hW' := hW
  have hlt : ∀ x ∈ before, x.block < W.heap.size := fun x hx => hW.lt x hx
  obtain ⟨p, q, hA0, hV, rfl, _, _⟩ := hW
  have hA : DataW.TrodAll enc Try.prog W 0 (fun _ => true) true Try.f6.params.toList args.toList ds p := hA0
  rw [Try.params6] at hA hval
  obtain ⟨v0, vs0, d0, ds0, p0, q0, hargs, rfl, rfl, h0, r0⟩ := trodAll_cons hA
  obtain ⟨rfl, rfl, rfl⟩ := trodAll_nil r0
  obtain rfl : args = #[v0] := by cases args; simp_all
  obtain ⟨rfl, rfl⟩ := trodVars_none hV
  clear hA0
  obtain ⟨a0, rfl, g0⟩ := open_one (hval 0 35 v0 rfl rfl) h0
  refine (nil_walk a0 g0 W).mono fun e W' ⟨he, hb⟩ => ?_
  subst he
  exact ⟨_, rfl, law_post laid (by kernel_rfl) Try.underlying4 (by rw [Try.params6]; decide +kernel) rfl hW' ⟨rfl, rfl, rfl⟩ hb⟩

set_option maxRecDepth 100000 in
theorem nil_lifted (os : Os) (started : os.Started) (H : Type) (enc : TypeId × Value → H) :
    ReturnsInHanded {} Try.checked os 6 .any (Rows.procNilSpec.pre6 enc Try.prog Try.f6 Rows.procNilRow.domain false) (Rows.procNilSpec.post enc Try.prog Try.f6 false true false false) := by
  refine returnsInHanded_of_change (C := Try.checked) own started (by kernel_rfl) Try.func6
    (ChangeSpec.witness6 (enc := enc) (C := Try.checked) false ⟨#[], #[.agg #[.int .u8 0, .int .i64 0, .int .i64 0, .int .i64 0, .int .u16 0]], []⟩ 8 (by kernel_rfl) (by kernel_rfl) (by kernel_rfl) (by kernel_rfl)) ?_
  intro W base args ds gs before hval hW _ _
  exact nil_contract H enc W base args ds gs before hval hW

/-- ProcNil is true for every input. -/
theorem nil_holds : Rows.ProcNilSaid :=
  OpenClaim.holds_of_wide 6 Try.f6 rfl rfl rfl rfl rfl rfl rfl ⟨rfl, rfl, rfl, rfl, rfl⟩ rfl rfl rfl rfl rfl (by kernel_rfl) Try.func6 (by kernel_rfl)
    (of_decide_eq_true (by kernel_rfl)) (by unfold Func.isWrapper; first | (rw [if_pos (by decide +kernel)]; kernel_rfl) | (rw [if_neg (by decide +kernel)]; exact ⟨rfl, rfl⟩))
    (fun os started H enc _ => nil_lifted os started H enc)
end Go.Proofs.Ytnahccdjeilboaa
