/-
  FieldFills: whatever the bytes and the size, Fill's bytes and error are the document's.
-/
import Derived.Test.YtklhikekjfankaaF
namespace Go.Proofs.Ytklhikekjfankaa
open Go.ChangeShapes Go.WideShapes Go.ChangeAt Go.RowKit

theorem fills_arg (A : Option Addr) (n c : Nat) (size : Int) (w : World) (hc : n ≤ c) (hm : n ≤ 9223372036854775807) (h : size < 0) :
    Calls Try.prog 6 #[.slice A n c, .int .i64 size] w fun e w' => e = .returned (.bool true) ∧ Below w.heap.size w w' := by
  have hcv : ∀ W : World, (convert 22 9 (.slice none 0 0)).run Try.prog W = .ok (.string ⟨#[]⟩) W := fun W => run_str W 22 9 5 Try.underlying22 Try.underlying5 Try.underlying9 0 none 0 0 [] rfl (.inl rfl)
  go_enter Try.func6, Try.ntmps6
  go_wp2_with (first
    | (go_at_call 11; refine (few_any _ _ _ _ hc hm).mono ?_; rintro e w' ⟨rfl, rfl⟩)
    | (go_at_call 21; refine (fill_arg _ _ _ _ _ h).mono ?_; rintro e w' ⟨rfl, rfl⟩)
    | (go_at_call 22; refine (rfill_arg _ _ _ _ _ h).mono ?_; rintro e w' ⟨rfl, rfl⟩)
    | (go_at_call 10; refine (shown_any _).mono ?_; rintro e w1 ⟨rfl, hb⟩))
  go_ret
  exact ⟨rfl, hb⟩
theorem fills_long (A : Option Addr) (n c size : Nat) (w : World) (hc : n ≤ c) (hm : n ≤ 9223372036854775807) (h : size < min n 5000 ∨ 4096 < size) :
    Calls Try.prog 6 #[.slice A n c, .int .i64 size] w fun e w' => e = .returned (.bool true) ∧ Below w.heap.size w w' := by
  have hcv : ∀ W : World, (convert 22 9 (.slice none 0 0)).run Try.prog W = .ok (.string ⟨#[]⟩) W := fun W => run_str W 22 9 5 Try.underlying22 Try.underlying5 Try.underlying9 0 none 0 0 [] rfl (.inl rfl)
  have H := Lib.hid h
  clear h
  go_enter Try.func6, Try.ntmps6
  go_wp2_with (first
    | (go_at_call 11; refine (few_any _ _ _ _ hc hm).mono ?_; rintro e w' ⟨rfl, rfl⟩)
    | (go_at_call 21; refine (fill_long _ _ _ _ _ H.out).mono ?_; rintro e w' ⟨rfl, rfl⟩)
    | (go_at_call 22; refine (rfill_long _ _ _ _ _ H.out).mono ?_; rintro e w' ⟨rfl, rfl⟩)
    | (go_at_call 10; refine (shown_any _).mono ?_; rintro e w1 ⟨rfl, hb⟩))
  go_ret
  exact ⟨rfl, hb⟩
set_option maxHeartbeats 400000 in
theorem fills_ok (l : List UInt8) (A : Option Addr) (n c size : Nat) (w : World) (hn : l.length = n) (hr : Rd w w.heap.size A (bytesV l)) (hc : n ≤ c) (hm : n ≤ 9223372036854775807) (h : min n 5000 ≤ size) (h4 : size ≤ 4096) :
    Calls Try.prog 6 #[.slice A n c, .int .i64 size] w fun e w' => e = .returned (.bool true) ∧ Below w.heap.size w w' := by
  have H := Lib.hid (few_len l n hn)
  have hr5 := hr.take 5000
  rw [← bytesV_take] at hr5
  obtain ⟨k, hk⟩ : ∃ k, k = l.take 5000 := ⟨_, rfl⟩
  rw [← hk] at H hr5
  clear hn hr hk
  go_enter Try.func6, Try.ntmps6
  go_wp2_with (first
    | (go_at_call 11; refine (few_any _ _ _ _ hc hm).mono ?_; rintro e w' ⟨rfl, rfl⟩)
    | (go_at_call 21; refine (fill_ok k A _ c size _ H.out hr5 h h4).mono ?_; rintro e w1 ⟨v1, rfl, hown1, hb1⟩; obtain ⟨_, A1, c1, rfl, _, _, hrd1⟩ := own_rd hown1; have hr5' := (hr5.below hb1).more hb1.size; clear hown1)
    | (go_at_call 22; refine (rfill_ok k A _ c size _ H.out hr5' h h4).mono ?_; rintro e w2 ⟨v2, rfl, hown2, hb2⟩; obtain ⟨_, A2, c2, rfl, _, _, hrd2⟩ := own_rd hown2; clear hown2)
    | (go_at_call 10; refine (shown_any _).mono ?_; rintro e w3 ⟨rfl, hb3⟩; have hcv1 := str_fact (c := c1) hrd1 (hb2.trans (hb3.mono hb2.size)) rfl; have hcv2 := str_fact (c := c2) hrd2 hb3 rfl))
  go_ret
  exact ⟨rfl, hb1.trans ((hb2.trans (hb3.mono hb2.size)).mono hb1.size)⟩

theorem fills_walk (l : List UInt8) (A : Option Addr) (n c : Nat) (size : Int) (w : World) (hn : l.length = n) (hr : Rd w w.heap.size A (bytesV l)) (hc : n ≤ c) (hm : n ≤ 9223372036854775807) :
    Calls Try.prog 6 #[.slice A n c, .int .i64 size] w fun e w' => e = .returned (.bool true) ∧ Below w.heap.size w w' := by
  by_cases h0 : size < 0
  · exact fills_arg A n c size w hc hm h0
  · obtain ⟨k, rfl⟩ := Int.eq_ofNat_of_zero_le (show 0 ≤ size by omega)
    by_cases h : k < min n 5000 ∨ 4096 < k
    · exact fills_long A n c k w hc hm h
    · exact fills_ok l A n c k w hn hr hc hm (by omega) (by omega)

theorem fills_contract (H : Type) (enc : TypeId × Value → H) (W : World) (base : Nat) (args : Array Value) (ds gs : List (DataW H)) (before : List MemPlace)
    (hval : ∀ (j : Nat) t v, Try.f6.params[j]? = some t → args[j]? = some v → Value.okWide Try.prog W .any base t v)
    (hW : DataW.Whole enc Try.prog Try.f6.params.toList Rows.fieldFillsSpec.vars false W args.toList ds gs before) :
    Calls Try.prog 6 args W fun e W' => ∃ v, e = .returned v ∧ Rows.fieldFillsSpec.post enc Try.prog Try.f6 false true false false W args v W' := by
  have hW' := hW
  have hlt : ∀ x ∈ before, x.block < W.heap.size := fun x hx => hW.lt x hx
  obtain ⟨p, q, hA0, hV, rfl, _, _⟩ := hW
  have hA : DataW.TrodAll enc Try.prog W 0 (fun _ => true) true Try.f6.params.toList args.toList ds p := hA0
  rw [Try.params6] at hA hval
  obtain ⟨v0, v1, d0, d1, p0, p1, rfl, rfl, rfl, h0, h1⟩ := trodAll_two hA
  obtain ⟨rfl, rfl⟩ := trodVars_none hV
  obtain ⟨A, n, c, l, rfl, hn, hc, hm, hr⟩ := open_bytesL Try.underlying22 Try.underlying5 cells5 (hval 0 22 v0 rfl rfl) h0 (fun x hx => hlt x (by simp [hx]))
  obtain ⟨a, rfl, rfl, rfl, wa⟩ := open_int Try.underlying3 (hval 1 3 v1 rfl rfl) h1
  refine (fills_walk l A n c a W hn hr hc (by unfold maxLen at hm; omega)).mono fun e W' ⟨he, hb⟩ => ?_
  subst he
  exact ⟨_, rfl, law_post laid (by kernel_rfl) Try.underlying4 (by rw [Try.params6]; decide +kernel) rfl hW' ⟨rfl, rfl, rfl⟩ hb⟩

set_option maxRecDepth 100000 in
theorem fills_lifted (os : Os) (started : os.Started) (H : Type) (enc : TypeId × Value → H) :
    ReturnsInHanded {} Try.checked os 6 .any (Rows.fieldFillsSpec.pre6 enc Try.prog Try.f6 Rows.fieldFillsRow.domain false) (Rows.fieldFillsSpec.post enc Try.prog Try.f6 false true false false) := by
  refine returnsInHanded_of_change (C := Try.checked) own started (by kernel_rfl) Try.func6
    (ChangeSpec.witness6 (enc := enc) (C := Try.checked) false ⟨#[], #[.slice none 0 0, .int .i64 0], []⟩ 8 (by kernel_rfl) (by kernel_rfl) (by kernel_rfl) (by kernel_rfl)) ?_
  intro W base args ds gs before hval hW _ _
  exact fills_contract H enc W base args ds gs before hval hW

/-- FieldFills is true for every input. -/
theorem fills_holds : Rows.FieldFillsSaid :=
  OpenClaim.holds_of_wide 6 Try.f6 rfl rfl rfl rfl rfl rfl rfl ⟨rfl, rfl, rfl, rfl, rfl⟩ rfl rfl rfl rfl rfl (by kernel_rfl) Try.func6 (by kernel_rfl)
    (of_decide_eq_true (by kernel_rfl)) (by unfold Func.isWrapper; first | (rw [if_pos (by decide +kernel)]; kernel_rfl) | (rw [if_neg (by decide +kernel)]; exact ⟨rfl, rfl⟩))
    (fun os started H enc _ => fills_lifted os started H enc)
end Go.Proofs.Ytklhikekjfankaa
