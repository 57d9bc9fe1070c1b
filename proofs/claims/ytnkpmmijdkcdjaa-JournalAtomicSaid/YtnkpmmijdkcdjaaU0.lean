/-
  The small calls of a disk: whether a sector is there, whether it can be reached, whether an operation can be done.
-/
import Derived.Test.YtnkpmmijdkcdjaaRows
import Derived.Test.YtnkpmmijdkcdjaaD
import Derived.WalkKit
import Derived.WalkSpells
import Derived.BigQuiet
import Derived.Deep.QuietTactic
import Derived.Lib.Hide
namespace Go.Proofs.Ytnkpmmijdkcdjaa
open Go.RowKit

section
variable {α : Type} {f : α → List Value}

theorem has_any (w : World) (S : Nat → Prop) (b : Nat) (k : Dk α) (s : Int) (h : IsDisk f w S b k) :
    Calls Try.prog 49 #[.pointer (some ⟨b, 0, none⟩), .int .i64 s] w fun e w' => e = .returned (.bool (k.has s)) ∧ w = w' := by
  obtain ⟨bn, bs, cn, cs, vu, rfl, hm⟩ := h
  have h0 := hm.nowC
  rw [hm.len] at h0
  unfold Dk.has
  generalize k.safe.length = n at *
  clear hm
  by_cases hs : 0 ≤ s
  · by_cases hn : s < n
    · go_enter Try.func49, Try.ntmps49
      go_wp2
      go_ret
      simp [hs, hn]
    · go_enter Try.func49, Try.ntmps49
      go_wp2
      go_ret
      simp [hn]
  · go_enter Try.func49, Try.ntmps49
    go_wp2
    go_ret
    simp
    omega

set_option maxHeartbeats 400000 in
theorem op_any (w : World) (b bn bs cn cs : Nat) (vu : Value) (now safe : List α) (un : List (Nat × α)) (dead cut : Bool) (left done : Int) (hm : Mem f w b bn bs cn cs vu now safe un dead cut left done) :
    Calls Try.prog 55 #[.pointer (some ⟨b, 0, none⟩)] w fun e w' => e = .returned (.bool (!(dead || (cut && decide (left = 0))))) ∧ w.grownBy w' (some b) ∧
      (if (dead || (cut && decide (left = 0))) = true then Mem f w' b bn bs cn cs vu now safe un true cut left done else Mem f w' b bn bs cn cs vu now safe un dead cut (if cut then wrap64 (left - 1) else left) (wrap64 (done + 1))) := by
  have hB := hm.blk
  have H := Lib.hid hm
  have h3 := hm.deadC
  have h4 := hm.cutC
  have h5 := hm.leftC
  have h6 := hm.doneC
  have f3 := hB.frozen 3
  have f5 := hB.frozen 5
  have f6 := hB.frozen 6
  clear hm
  have HB := Lib.hid hB
  clear hB
  have fin : ∀ (w' : World) (dead' cut' : Bool) (left' done' : Int), w.grownBy w' (some b) → Bk w' b 65 [.slice (some ⟨bn, 0, none⟩) now.length cn, .slice (some ⟨bs, 0, none⟩) safe.length cs, vu, .bool dead', .bool cut', .int .i64 left', .int .i64 done'] →
      w.grownBy w' (some b) ∧ Mem f w' b bn bs cn cs vu now safe un dead' cut' left' done' := fun w' _ _ _ _ hg hb => ⟨hg, H.out.own hg hb⟩
  have g0 := World.grownBy.refl w (some b)
  cases cut
  · cases dead
    · go_enter Try.func55, Try.ntmps55
      go_wp2
      go_ret
      exact ⟨rfl, fin _ _ _ _ _ (only_set g0 6 _) (HB.out.set 6 _)⟩
    · go_enter Try.func55, Try.ntmps55
      go_wp2
      go_ret
      exact ⟨rfl, fin _ _ _ _ _ g0 HB.out⟩
  · by_cases hl : left = 0
    · subst hl
      cases dead
      · go_enter Try.func55, Try.ntmps55
        go_wp2
        go_ret
        exact ⟨rfl, fin _ _ _ _ _ (only_set g0 3 _) (HB.out.set 3 _)⟩
      · go_enter Try.func55, Try.ntmps55
        go_wp2
        go_ret
        exact ⟨rfl, fin _ _ _ _ _ (only_set g0 3 _) (HB.out.set 3 _)⟩
    · cases dead
      · go_enter Try.func55, Try.ntmps55
        go_wp2
        case inl h => simp [hl] at h
        go_ret
        refine ⟨by simp, ?_⟩
        have := fin _ _ _ _ _ (only_set (only_set g0 5 (.int .i64 (wrap64 (left - 1)))) 6 (.int .i64 (wrap64 (done + 1)))) ((HB.out.set 5 (.int .i64 (wrap64 (left - 1)))).set 6 (.int .i64 (wrap64 (done + 1))))
        simpa [hl] using this
      · go_enter Try.func55, Try.ntmps55
        go_wp2
        go_ret
        exact ⟨rfl, fin _ _ _ _ _ g0 HB.out⟩

theorem has_mem (w : World) (b bn bs cn cs : Nat) (vu : Value) (now safe : List α) (un : List (Nat × α)) (dead cut : Bool) (left done : Int) (hm : Mem f w b bn bs cn cs vu now safe un dead cut left done) (s : Int) :
    Calls Try.prog 49 #[.pointer (some ⟨b, 0, none⟩), .int .i64 s] w fun e w' => e = .returned (.bool (decide (0 ≤ s) && decide (s < (safe.length : Int)))) ∧ w = w' := by
  have h0 := hm.nowC
  rw [hm.len] at h0
  generalize safe.length = n at *
  clear hm
  by_cases hs : 0 ≤ s
  · by_cases hn : s < n
    · go_enter Try.func49, Try.ntmps49
      go_wp2
      go_ret
      simp [hs, hn]
    · go_enter Try.func49, Try.ntmps49
      go_wp2
      go_ret
      simp [hn]
  · go_enter Try.func49, Try.ntmps49
    go_wp2
    go_ret
    simp
    omega

/-- The error of reading a sector. -/
def Dk.err (k : Dk α) (s : Int) : Int := if k.has s then (if k.dead then 6 else 0) else 1

theorem reach_any (w : World) (b bn bs cn cs : Nat) (vu : Value) (k : Dk α) (hm : Mem f w b bn bs cn cs vu k.now k.safe k.un k.dead k.cut k.left k.done) (s : Int) :
    Calls Try.prog 36 #[.pointer (some ⟨b, 0, none⟩), .int .i64 s] w fun e w' => e = .returned (.int .i64 (k.err s)) ∧ w = w' := by
  have h3 := hm.deadC
  have H := Lib.hid hm
  clear hm
  unfold Dk.err Dk.has
  cases hh : (decide (0 ≤ s) && decide (s < (k.safe.length : Int)))
  · have Hh := Lib.hid hh
    clear hh
    go_enter Try.func36, Try.ntmps36
    go_wp2_with (go_at_call 49; refine (has_mem _ _ _ _ _ _ _ _ _ _ _ _ _ _ H.out s).mono ?_; rintro e w' ⟨rfl, rfl⟩; rw [Hh.out])
    go_ret
    exact ⟨rfl, rfl⟩
  · have Hh := Lib.hid hh
    clear hh
    generalize k.dead = dd at *
    cases dd
    · go_enter Try.func36, Try.ntmps36
      go_wp2_with (go_at_call 49; refine (has_mem _ _ _ _ _ _ _ _ _ _ _ _ _ _ H.out s).mono ?_; rintro e w' ⟨rfl, rfl⟩; rw [Hh.out])
      go_ret
      exact ⟨rfl, rfl⟩
    · go_enter Try.func36, Try.ntmps36
      go_wp2_with (go_at_call 49; refine (has_mem _ _ _ _ _ _ _ _ _ _ _ _ _ _ H.out s).mono ?_; rintro e w' ⟨rfl, rfl⟩; rw [Hh.out])
      go_ret
      exact ⟨rfl, rfl⟩

theorem reach_nil (w : World) (s : Int) :
    Calls Try.prog 36 #[.pointer none, .int .i64 s] w fun e w' => e = .returned (.int .i64 2) ∧ w = w' := by
  go_enter Try.func36, Try.ntmps36
  go_wp2
  go_ret
  exact ⟨rfl, rfl⟩

theorem dead_any (w : World) (S : Nat → Prop) (b : Nat) (k : Dk α) (h : IsDisk f w S b k) :
    Calls Try.prog 17 #[.pointer (some ⟨b, 0, none⟩)] w fun e w' => e = .returned (.bool k.dead) ∧ w = w' := by
  obtain ⟨bn, bs, cn, cs, vu, rfl, hm⟩ := h
  have h3 := hm.deadC
  clear hm
  go_enter Try.func17, Try.ntmps17
  go_wp2
  go_ret
  exact ⟨rfl, rfl⟩

theorem done_any (w : World) (S : Nat → Prop) (b : Nat) (k : Dk α) (h : IsDisk f w S b k) :
    Calls Try.prog 23 #[.pointer (some ⟨b, 0, none⟩)] w fun e w' => e = .returned (.int .i64 k.done) ∧ w = w' := by
  obtain ⟨bn, bs, cn, cs, vu, rfl, hm⟩ := h
  have h3 := hm.doneC
  clear hm
  go_enter Try.func23, Try.ntmps23
  go_wp2
  go_ret
  exact ⟨rfl, rfl⟩

theorem len_any (w : World) (S : Nat → Prop) (b : Nat) (k : Dk α) (h : IsDisk f w S b k) :
    Calls Try.prog 37 #[.pointer (some ⟨b, 0, none⟩)] w fun e w' => e = .returned (.int .i64 (k.safe.length : Int)) ∧ w = w' := by
  obtain ⟨bn, bs, cn, cs, vu, rfl, hm⟩ := h
  have h3 := hm.nowC
  rw [hm.len] at h3
  generalize k.safe.length = n at *
  clear hm
  go_enter Try.func37, Try.ntmps37
  go_wp2
  go_ret
  exact ⟨rfl, rfl⟩

/-- A cut. -/
theorem cut_any (w : World) (S : Nat → Prop) (b : Nat) (k : Dk α) (h : IsDisk f w S b k) (a : Int) :
    Calls Try.prog 21 #[.pointer (some ⟨b, 0, none⟩), .int .i64 a] w fun e w' => e = .returned (.tuple #[]) ∧ Turned f S w w' b (k.cutAt a) := by
  obtain ⟨bn, bs, cn, cs, vu, rfl, hm⟩ := h
  have hB := hm.blk
  have H := Lib.hid hm
  have h3 := hm.deadC
  have h4 := hm.cutC
  have h5 := hm.leftC
  have f4 := hB.frozen 4
  have f5 := hB.frozen 5
  clear hm
  have HB := Lib.hid hB
  clear hB
  have g0 := World.grownBy.refl w (some b)
  have fin : ∀ (w' : World) (cut' : Bool) (left' : Int), w.grownBy w' (some b) → Bk w' b 65 [.slice (some ⟨bn, 0, none⟩) k.now.length cn, .slice (some ⟨bs, 0, none⟩) k.safe.length cs, vu, .bool k.dead, .bool cut', .int .i64 left', .int .i64 k.done] →
      Turned f (foot b bn bs vu) w w' b { k with cut := cut', left := left' } := fun w' _ _ hg hb =>
    ⟨Kept.of_grown hg (by rintro _ h; injection h with h; exact .inl h.symm), _, ⟨bn, bs, cn, cs, vu, rfl, H.out.own hg hb⟩, fun i hi => .inl hi⟩
  have same : Turned f (foot b bn bs vu) w w b k := ⟨Kept.refl _ _, _, ⟨bn, bs, cn, cs, vu, rfl, H.out⟩, fun i hi => .inl hi⟩
  unfold Dk.cutAt
  cases hd : k.dead
  · rw [hd] at h3 HB fin
    clear hd same
    go_enter Try.func21, Try.ntmps21
    go_wp2
    go_end0
    exact ⟨rfl, fin _ _ _ (only_set (only_set g0 4 _) 5 _) ((HB.out.set 4 _).set 5 _)⟩
  · rw [hd] at h3
    go_enter Try.func21, Try.ntmps21
    go_wp2
    refine bodyPost_ret (results_none rfl _ _ _) rfl ?_
    exact ⟨rfl, same⟩
end

end Go.Proofs.Ytnkpmmijdkcdjaa
