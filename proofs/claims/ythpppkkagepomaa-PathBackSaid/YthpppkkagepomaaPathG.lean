/-
  A scope with two labels, to either of which the run jumps as often as it likes: what holds at each of them, and a measure that every pass from either lowers.
-/
import Derived.Scope
namespace Go.Proofs.Ythpppkkagepomaa.Path
open Go

/-- As Q; by a goto to the first label: J; by one to the second: K; by any other: no way out. -/
def jumps (l : Nat) (J : Act → World → Prop) (m : Nat) (K : Act → World → Prop) (Q : Exit → Act → World → Prop) : Exit → Act → World → Prop
  | .goto i, a, w => (i = l ∧ J a w) ∨ (i = m ∧ K a w)
  | e, a, w => Q e a w
section
variable {P : Program} {a : Act} {w : World} {Q : Exit → Act → World → Prop}
theorem jumps_ret (l : Nat) (J : Act → World → Prop) (m : Nat) (K : Act → World → Prop) (a : Act) (w : World) : jumps l J m K Q .ret a w = Q .ret a w := rfl
theorem jumps_normal (l : Nat) (J : Act → World → Prop) (m : Nat) (K : Act → World → Prop) (a : Act) (w : World) : jumps l J m K Q .normal a w = Q .normal a w := rfl
theorem jumps_fst (l : Nat) (J : Act → World → Prop) (m : Nat) (K : Act → World → Prop) (a : Act) (w : World) (h : J a w) : jumps l J m K Q (.goto l) a w := .inl ⟨rfl, h⟩
theorem jumps_snd (l : Nat) (J : Act → World → Prop) (m : Nat) (K : Act → World → Prop) (a : Act) (w : World) (h : K a w) : jumps l J m K Q (.goto m) a w := .inr ⟨rfl, h⟩
theorem wp_scope_two {c r1 r2 : Code} (l m : Nat) (J K : Act → World → Prop) (μ ν : Act → World → Nat) (hf1 : findLabel c l = some r1) (hf2 : findLabel c m = some r2)
    (start : c.wp P (jumps l J m K Q) a w)
    (pass : ∀ a w, J a w → r1.wp P (jumps l (fun a' w' => J a' w' ∧ μ a' w' < μ a w) m (fun a' w' => K a' w' ∧ ν a' w' < μ a w) Q) a w)
    (turn : ∀ a w, K a w → r2.wp P (jumps l (fun a' w' => J a' w' ∧ μ a' w' < ν a w) m (fun a' w' => K a' w' ∧ ν a' w' < ν a w) Q) a w) : (Code.scope c).wp P Q a w := by
  intro b k cs
  have hg1 : gotoIn l (.inScope c :: k) = some (.code r1 :: .inScope c :: k) := by simp [gotoIn, hf1]
  have hg2 : gotoIn m (.inScope c :: k) = some (.code r2 :: .inScope c :: k) := by simp [gotoIn, hf2]
  have key : ∀ n, (∀ a w, μ a w = n → J a w → ∃ e a' w', Q e a' w' ∧ Arrives P (lone (b.at a (.code r1 :: .inScope c :: k)) cs w) b k cs e a' w') ∧
      (∀ a w, ν a w = n → K a w → ∃ e a' w', Q e a' w' ∧ Arrives P (lone (b.at a (.code r2 :: .inScope c :: k)) cs w) b k cs e a' w') := by
    intro n
    induction n using Nat.strongRecOn with
    | _ n ih =>
      constructor
      · intro a w hn hJ
        obtain ⟨e, a1, w1, hq, harr⟩ := pass a w hJ b (.inScope c :: k) cs
        cases e with
        | normal => exact ⟨.normal, a1, w1, hq, Steps.trans harr (.one step_inScope)⟩
        | exit id => exact ⟨.exit id, a1, w1, hq, fun k' hk => harr k' (by simp [exitTo, hk])⟩
        | goto i =>
          rcases hq with ⟨rfl, hJ', hlt⟩ | ⟨rfl, hK, hlt⟩
          · obtain ⟨e2, a2, w2, hq2, harr2⟩ := (ih _ (by omega)).1 a1 w1 rfl hJ'
            exact ⟨e2, a2, w2, hq2, .of_steps (harr _ hg1) harr2⟩
          · obtain ⟨e2, a2, w2, hq2, harr2⟩ := (ih _ (by omega)).2 a1 w1 rfl hK
            exact ⟨e2, a2, w2, hq2, .of_steps (harr _ hg2) harr2⟩
        | ret => exact ⟨_, a1, w1, hq, harr⟩
        | panic ch => exact ⟨_, a1, w1, hq, harr⟩
        | outgrown => exact ⟨_, a1, w1, hq, harr⟩
      · intro a w hn hK
        obtain ⟨e, a1, w1, hq, harr⟩ := turn a w hK b (.inScope c :: k) cs
        cases e with
        | normal => exact ⟨.normal, a1, w1, hq, Steps.trans harr (.one step_inScope)⟩
        | exit id => exact ⟨.exit id, a1, w1, hq, fun k' hk => harr k' (by simp [exitTo, hk])⟩
        | goto i =>
          rcases hq with ⟨rfl, hJ', hlt⟩ | ⟨rfl, hK, hlt⟩
          · obtain ⟨e2, a2, w2, hq2, harr2⟩ := (ih _ (by omega)).1 a1 w1 rfl hJ'
            exact ⟨e2, a2, w2, hq2, .of_steps (harr _ hg1) harr2⟩
          · obtain ⟨e2, a2, w2, hq2, harr2⟩ := (ih _ (by omega)).2 a1 w1 rfl hK
            exact ⟨e2, a2, w2, hq2, .of_steps (harr _ hg2) harr2⟩
        | ret => exact ⟨_, a1, w1, hq, harr⟩
        | panic ch => exact ⟨_, a1, w1, hq, harr⟩
        | outgrown => exact ⟨_, a1, w1, hq, harr⟩
  obtain ⟨e, a1, w1, hq, harr⟩ := start b (.inScope c :: k) cs
  cases e with
  | normal => exact ⟨.normal, a1, w1, hq, .head step_scope (Steps.trans harr (.one step_inScope))⟩
  | exit id => exact ⟨.exit id, a1, w1, hq, fun k' hk => .head step_scope (harr k' (by simp [exitTo, hk]))⟩
  | goto i =>
    rcases hq with ⟨rfl, hJ'⟩ | ⟨rfl, hK⟩
    · obtain ⟨e2, a2, w2, hq2, harr2⟩ := (key _).1 a1 w1 rfl hJ'
      exact ⟨e2, a2, w2, hq2, .of_steps (.head step_scope (harr _ hg1)) harr2⟩
    · obtain ⟨e2, a2, w2, hq2, harr2⟩ := (key _).2 a1 w1 rfl hK
      exact ⟨e2, a2, w2, hq2, .of_steps (.head step_scope (harr _ hg2)) harr2⟩
  | ret => exact ⟨_, a1, w1, hq, .of_steps (.one step_scope) harr⟩
  | panic ch => exact ⟨_, a1, w1, hq, .of_steps (.one step_scope) harr⟩
  | outgrown => exact ⟨_, a1, w1, hq, .of_steps (.one step_scope) harr⟩
end
end Go.Proofs.Ythpppkkagepomaa.Path
