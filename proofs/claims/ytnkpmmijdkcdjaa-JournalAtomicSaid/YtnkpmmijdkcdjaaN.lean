/-
  The calls as the statements make them: of a disk of ours, with the journal in its sectors from the twelfth on.
-/
import Derived.Test.YtnkpmmijdkcdjaaO
namespace Go.Proofs.Ytnkpmmijdkcdjaa
open Go.RowKit

def natP (sets : List (Int × Nat)) : List (Nat × Sx) := sets.map fun s => (s.1.toNat, cx s.2)
/-- May they be committed? -/
def okSets (sets : List (Int × Nat)) : Prop := sets.length ≤ 44 ∧ ∀ s ∈ sets, 0 ≤ s.1 ∧ s.1 < 12
theorem natP_ints {sets : List (Int × Nat)} (h : okSets sets) : ints (natP sets) = sets.map setP := by
  rw [ints, natP, List.map_map]
  apply List.map_congr_left
  intro s hs
  have := (h.2 s hs).1
  simp only [Function.comp, setP]
  rw [Int.toNat_of_nonneg this]
theorem takes_iff (x : Int) : takesB 60 12 48 x = true ↔ 0 ≤ x ∧ x < 12 := by
  unfold takesB
  simp only [Bool.and_eq_true, Bool.or_eq_true, decide_eq_true_eq]
  omega
theorem refuse_sets (sets : List (Int × Nat)) : (okSets sets ∧ refuseE 60 12 48 (sets.map setP) = 0) ∨ (¬ okSets sets ∧ (refuseE 60 12 48 (sets.map setP) = 1 ∨ refuseE 60 12 48 (sets.map setP) = 4)) := by
  unfold refuseE okSets
  rw [List.length_map, show room 48 = 44 from rfl]
  by_cases h1 : 44 < sets.length
  · rw [if_pos h1]
    exact .inr ⟨fun h => by omega, .inr rfl⟩
  · rw [if_neg h1]
    cases hw : anyWrong 60 12 48 (sets.map setP)
    · left
      refine ⟨⟨by omega, fun s hs => ?_⟩, by simp⟩
      rw [anyWrong, List.any_eq_false] at hw
      have := hw (setP s) (List.mem_map.2 ⟨s, hs, rfl⟩)
      exact (takes_iff s.1).1 (by simpa [setP] using this)
    · right
      refine ⟨fun h => ?_, .inl (by simp)⟩
      rw [anyWrong, List.any_eq_true] at hw
      obtain ⟨p, hp, hq⟩ := hw
      obtain ⟨s, hs, rfl⟩ := List.mem_map.1 hp
      have := h.2 s hs
      rw [show (setP s).1 = s.1 from rfl, (takes_iff s.1).2 this] at hq
      cases hq
theorem natP_val {sets : List (Int × Nat)} (h : okSets sets) : ∀ p ∈ natP sets, p.1 < 12 := fun p hp => by
  obtain ⟨s, hs, rfl⟩ := List.mem_map.1 hp
  have := h.2 s hs
  show s.1.toNat < 12
  omega
theorem natP_length (sets : List (Int × Nat)) : (natP sets).length = sets.length := by simp [natP]

section
variable {B : Nat} {w : World} {bj b q : Nat} {k : Dk Sx}

/-- What a commit makes. -/
def Did (sets : List (Int × Nat)) (q : Nat) (k : Dk Sx) (v : Int) (q' : Nat) (k' : Dk Sx) : Prop :=
  (sets = [] ∧ v = 0 ∧ q' = q ∧ k' = k) ∨ (sets ≠ [] ∧ ¬ okSets sets ∧ (v = 1 ∨ v = 4) ∧ q' = q ∧ k' = k) ∨
  (sets ≠ [] ∧ okSets sets ∧ v = (k.commit 12 q (natP sets)).1 ∧ k' = (k.commit 12 q (natP sets)).2 ∧ q' = if (k.commit 12 q (natP sets)).1 = 0 then q + 1 else q)

theorem ocommit {w0 : World} (h0 : Ours B w0 bj b 12 48 q k) (hB0 : B ≤ w0.heap.size) (hb0 : Below w0.heap.size w0 w) (hlen : k.safe.length = 60) (hun : k.un.length ≤ 1000) (hq : q < 18446744073709551615) (sets : List (Int × Nat)) (A : Option Addr) (ln cp : Nat) (hl : sets.length = ln) (hcp : ln ≤ cp) (hln : ln ≤ 1000)
    (hA : 0 < ln → ∃ g, A = some ⟨g, 0, none⟩) (hP0 : Pats w (fun t => w0.heap.size ≤ t) A (sets.map setP)) :
    Calls Try.prog 18 #[.pointer (some ⟨bj, 0, none⟩), .slice A ln cp] w fun e w' => ∃ (v : Int) (q' : Nat) (k' : Dk Sx), e = .returned (.int .i64 v) ∧ Did sets q k v q' k' ∧ Ours B w' bj b 12 48 q' k' ∧ Below B w w' ∧ Else w w' := by
  have hB : B ≤ w.heap.size := Nat.le_trans hB0 hb0.size
  obtain ⟨S, g1, h2, g3, h4, h5⟩ := h0
  have h1 := g1.below hb0
  have h3 : JB w bj b 12 48 q := (hb0.block bj g3.lt).trans g3
  have hP : Pats w (fun t => ¬ S t ∧ t < w.heap.size) A (sets.map setP) := hP0.more fun t ht hw => ⟨fun hs => by have hw' : w0.heap.size ≤ t := hw; have := g1.lt hs; omega, ht⟩
  by_cases h0 : ln = 0
  · subst h0
    refine (commit_none w bj A cp).mono ?_
    rintro e w' ⟨rfl, rfl⟩
    exact ⟨0, q, k, rfl, .inl ⟨List.eq_nil_of_length_eq_zero hl, rfl, rfl, rfl⟩, ⟨S, h1, h2, h3, h4, h5⟩, Below.refl _ _, Else.refl _⟩
  · have hne : sets ≠ [] := fun e => h0 (by rw [← hl, e]; rfl)
    obtain ⟨g, rfl⟩ := hA (by omega)
    rcases refuse_sets sets with ⟨hok, hr⟩ | ⟨hok, hr⟩
    · rw [← hlen, ← natP_ints hok] at hr
      rw [← natP_ints hok] at hP
      refine (commit_good h3 h1 h4 (by omega) (by omega) (by omega) hq g 0 hP (fun t ht => ht) ln cp (by rw [natP_length, hl]) (by omega) hcp hr (by omega) (by omega) (by omega)).mono ?_
      rintro e w' ⟨rfl, ht⟩
      obtain ⟨a1, a2⟩ := Ours.jturn h1 h3 h2 h5 hB ht
      exact ⟨_, _, _, rfl, .inr (.inr ⟨hne, hok, rfl, rfl, rfl⟩), a1, a2⟩
    · have hr' : refuseE k.safe.length 12 48 (sets.map setP) = 1 ∨ refuseE k.safe.length 12 48 (sets.map setP) = 4 := by rw [hlen]; exact hr
      refine (commit_bad h3 h1 (by omega) (by omega) (by omega) hq (sets.map setP) hP ln cp (by rw [List.length_map, hl]) (by omega) (by omega) (by rcases hr' with h | h <;> rw [h] <;> decide)).mono ?_
      rintro e w' ⟨rfl, hb⟩
      exact ⟨_, q, k, rfl, .inr (.inl ⟨hne, hok, hr', rfl, rfl⟩), Ours.below ⟨S, h1, h2, h3, h4, h5⟩ hb, hb.mono hB, Else.of_below hb⟩

/-- What an opening makes. -/
def Opened (B : Nat) (w w' : World) (b q : Nat) (k : Dk Sx) (l : List (Nat × Sx)) (v : Value) : Prop :=
  (∃ bj k', v = .tuple #[.pointer (some ⟨bj, 0, none⟩), .int .i64 (l.length : Int), .int .i64 0] ∧ Ours B w' bj b 12 48 q k' ∧ Rest k' q ∧ k'.safe.take 12 = (puts k.safe l).take 12 ∧ k'.cut = k.cut ∧ (l = [] → k' = k) ∧ Below B w w' ∧ Else w w') ∨
  (k.cut = true ∧ ∃ k', v = .tuple #[.pointer none, .int .i64 0, .int .i64 6] ∧ OurD B w' b k' ∧ Fell q k' (fun V => V = (puts k.safe l).take 12) ∧ Below B w w' ∧ Else w w')
theorem oopen (h : OurD B w b k) (hB : B ≤ w.heap.size) (l : List (Nat × Sx)) (hI : Img k.safe q l) (hu : k.un = []) (hd : k.dead = false) (hq : q < 18446744073709551616) :
    Calls Try.prog 13 #[.pointer (some ⟨b, 0, none⟩), .int .i64 12, .int .i64 48] w fun e w' => ∃ v, e = .returned v ∧ Opened B w w' b q k l v := by
  obtain ⟨S, h1, h2⟩ := h
  obtain ⟨c, hc1, hc2⟩ := hI.head
  have hnow := now_of_un hu
  refine (open_good (start := 12) (n := 48) h1 hd (by omega) (by omega) (by omega) (by rw [hI.len]; decide) (by rw [hI.len]; decide) (by rw [hu]; decide) c (by rw [hnow]; exact hc1) q l l.length rfl hc2 hI.room (by rw [hnow]; exact hI.loads) (fun p hp => by
    have := hI.val p hp
    rw [hI.len]
    simp only [takesB, Bool.and_eq_true, Bool.or_eq_true, decide_eq_true_eq]
    omega)).mono ?_
  rintro e w' ⟨v, rfl, hO⟩
  refine ⟨v, rfl, ?_⟩
  rcases opened_spec hI hu hd hq with ⟨f1, f2, f3, f4⟩ | ⟨f0, f1, f2⟩
  · obtain ⟨bj, hv, ho, hb⟩ := hO.good h1 h2 hB f1
    exact .inl ⟨bj, _, hv, ho, f2, f3, f4, fun hl => by rw [Dk.opened, if_pos hl], hb⟩
  · obtain ⟨hv, ho, hb⟩ := hO.fell h1 h2 hB (by rw [f1]; decide)
    exact .inr ⟨f0, _, by rw [hv, f1], ho, f2, hb⟩

theorem OurD.less {B' : Nat} (h : OurD B w b k) (hB : B' ≤ B) : OurD B' w b k := by
  obtain ⟨S, h1, h2⟩ := h
  exact ⟨S, h1, fun i hi => Nat.le_trans hB (h2 i hi)⟩
theorem onew (w : World) : Calls Try.prog 12 #[.int .i64 60] w fun e w' => ∃ b, e = .returned (.tuple #[.pointer (some ⟨b, 0, none⟩), .int .i64 0]) ∧ OurD w.heap.size w' b (Dk.fresh 60 zx) ∧ Below w.heap.size w w' := by
  refine (new_any (f := sx) w 60 (by decide) zx sx_zero).mono ?_
  rintro e w' ⟨b, S, rfl, hb, hD, hS⟩
  exact ⟨b, rfl, ⟨S, hD, hS⟩, hb⟩
theorem img_fresh : Img (Dk.fresh 60 zx).safe 0 [] := ⟨by decide, ⟨zx, by rfl, .inr ⟨rfl, rfl, rfl⟩⟩, loads_nil _, fun p hp => (by cases hp), by decide⟩

theorem ocrash (h : Ours B w bj b 12 48 q k) (hB : B ≤ w.heap.size) (hun : k.un.length ≤ 1000) (t : Nat) (ht : t < 18446744073709551616) :
    Calls Try.prog 22 #[.pointer (some ⟨b, 0, none⟩), .int .u64 (t : Int)] w fun e w' => e = .returned (.tuple #[]) ∧ Ours B w' bj b 12 48 q (k.crash t) ∧ Below B w w' ∧ Else w w' := by
  obtain ⟨S, h1, h2, h3, h4, h5⟩ := h
  refine (crash_any sx_enc w S b k h1 (by omega) t ht).mono ?_
  rintro e w' ⟨rfl, hT⟩
  obtain ⟨a1, a2⟩ := Ours.turn h1 h2 h3 h4 h5 hB hT
  exact ⟨rfl, a1, a2⟩
theorem dcrash (h : OurD B w b k) (hB : B ≤ w.heap.size) (hun : k.un.length ≤ 1000) (t : Nat) (ht : t < 18446744073709551616) :
    Calls Try.prog 22 #[.pointer (some ⟨b, 0, none⟩), .int .u64 (t : Int)] w fun e w' => e = .returned (.tuple #[]) ∧ OurD B w' b (k.crash t) ∧ Below B w w' ∧ Else w w' := by
  obtain ⟨S, h1, h2⟩ := h
  refine (crash_any sx_enc w S b k h1 (by omega) t ht).mono ?_
  rintro e w' ⟨rfl, hT⟩
  obtain ⟨a1, a2⟩ := OurD.turn h1 h2 hB hT
  exact ⟨rfl, a1, a2⟩
theorem ocut (h : Ours B w bj b 12 48 q k) (hB : B ≤ w.heap.size) (a : Int) :
    Calls Try.prog 21 #[.pointer (some ⟨b, 0, none⟩), .int .i64 a] w fun e w' => e = .returned (.tuple #[]) ∧ Ours B w' bj b 12 48 q (k.cutAt a) ∧ Below B w w' ∧ Else w w' := by
  obtain ⟨S, h1, h2, h3, h4, h5⟩ := h
  refine (cut_any w S b k h1 a).mono ?_
  rintro e w' ⟨rfl, hT⟩
  obtain ⟨a1, a2⟩ := Ours.turn h1 h2 h3 h4 h5 hB hT
  exact ⟨rfl, a1, a2⟩
theorem dcut (h : OurD B w b k) (hB : B ≤ w.heap.size) (a : Int) :
    Calls Try.prog 21 #[.pointer (some ⟨b, 0, none⟩), .int .i64 a] w fun e w' => e = .returned (.tuple #[]) ∧ OurD B w' b (k.cutAt a) ∧ Below B w w' ∧ Else w w' := by
  obtain ⟨S, h1, h2⟩ := h
  refine (cut_any w S b k h1 a).mono ?_
  rintro e w' ⟨rfl, hT⟩
  obtain ⟨a1, a2⟩ := OurD.turn h1 h2 hB hT
  exact ⟨rfl, a1, a2⟩
theorem oseq (h : Ours B w bj b 12 48 q k) : Calls Try.prog 24 #[.pointer (some ⟨bj, 0, none⟩)] w fun e w' => e = .returned (.int .u64 (q : Int)) ∧ w = w' := by
  obtain ⟨S, h1, h2, h3, h4, h5⟩ := h
  exact seq_any w bj b 12 48 q h3
theorem ddone (h : OurD B w b k) : Calls Try.prog 23 #[.pointer (some ⟨b, 0, none⟩)] w fun e w' => e = .returned (.int .i64 k.done) ∧ w = w' := by
  obtain ⟨S, h1, h2⟩ := h
  exact done_any w S b k h1
theorem ddead (h : OurD B w b k) : Calls Try.prog 17 #[.pointer (some ⟨b, 0, none⟩)] w fun e w' => e = .returned (.bool k.dead) ∧ w = w' := by
  obtain ⟨S, h1, h2⟩ := h
  exact dead_any w S b k h1
theorem dnow (h : OurD B w b k) (hd : k.dead = false) (hl : k.safe.length = 60) (hu : k.un = []) : Calls Try.prog 15 #[.pointer (some ⟨b, 0, none⟩)] w fun e w' => e = .returned (.string (strOf (k.safe.take 12))) ∧ Below w.heap.size w w' := by
  obtain ⟨S, h1, h2⟩ := h
  have := now_any w S b k h1 hd (by omega)
  rw [now_of_un hu] at this
  exact this
theorem dtag (h : OurD B w b k) (hd : k.dead = false) (hu : k.un = []) (i : Nat) (c : Sx) (hc : k.safe[i]? = some c) : Calls Try.prog 25 #[.pointer (some ⟨b, 0, none⟩), .int .i64 (i : Int)] w fun e w' => e = .returned (.tuple #[.int .u16 (c.t : Int), .int .i64 0]) ∧ w = w' := by
  obtain ⟨S, h1, h2⟩ := h
  exact tag_any w S b k h1 i c (bytesV c.b) _ (by rw [now_of_un hu]; exact hc) rfl (by rw [length_bytesV, c.hb]) hd

/-- A commit, at rest, where no cut is due. -/
theorem Did.rest {sets : List (Int × Nat)} {v : Int} {q' : Nat} {k' : Dk Sx} (h : Did sets q k v q' k') (hr : Rest k q) (hc : k.cut = false) (hq : q + 1 < 18446744073709551616) :
    Rest k' q' ∧ k'.cut = false ∧ ((v = 0 ∧ sets ≠ [] ∧ okSets sets ∧ q' = q + 1 ∧ k'.safe = after k.safe q (natP sets)) ∨ (v = 0 ∧ sets = [] ∧ q' = q ∧ k' = k) ∨ ((v = 1 ∨ v = 4) ∧ sets ≠ [] ∧ q' = q ∧ k' = k)) := by
  rcases h with ⟨rfl, rfl, rfl, rfl⟩ | ⟨h1, h2, h3, rfl, rfl⟩ | ⟨h1, h2, h3, h4, h5⟩
  · exact ⟨hr, hc, .inr (.inl ⟨rfl, rfl, rfl, rfl⟩)⟩
  · exact ⟨hr, hc, .inr (.inr ⟨h3, h1, rfl, rfl⟩)⟩
  · rcases commit_spec hr (l := natP sets) (fun e => h1 (List.eq_nil_of_length_eq_zero (by rw [← natP_length, e]; rfl))) (natP_val h2) (by rw [natP_length]; exact h2.1) hq with ⟨f1, f2, f3, f4⟩ | ⟨f0, _⟩
    · rw [f1] at h3
      rw [f1, if_pos rfl] at h5
      subst h4; subst h5; subst h3
      exact ⟨f2, f4.trans hc, .inl ⟨rfl, h1, h2, rfl, f3⟩⟩
    · rw [hc] at f0; cases f0

/-- The power is on and nothing is under way; or it is off, and behind a crash there will be what P says. -/
def State (N : Nat) (k : Dk Sx) (q : Nat) (P : List Sx → Prop) : Prop := (Rest k q ∧ q ≤ N ∧ P (k.safe.take 12)) ∨ (Fell N k P ∧ q ≤ N)
theorem State.len {N : Nat} {P : List Sx → Prop} (h : State N k q P) : k.safe.length = 60 ∧ k.un.length ≤ 1000 := by
  rcases h with ⟨h, _⟩ | ⟨h, _⟩
  · exact ⟨h.img.len, by rw [h.un]; decide⟩
  · exact ⟨h.len, by have := h.un; omega⟩
theorem State.le {N : Nat} {P : List Sx → Prop} (h : State N k q P) : q ≤ N := by
  rcases h with ⟨_, h, _⟩ | ⟨_, h⟩ <;> exact h
theorem State.up {N M : Nat} {P Q : List Sx → Prop} (h : State N k q P) (hM : N ≤ M) (hPQ : ∀ V, P V → Q V) : State M k q Q := by
  rcases h with ⟨h1, h2, h3⟩ | ⟨h1, h2⟩
  · exact .inl ⟨h1, by omega, hPQ _ h3⟩
  · exact .inr ⟨h1.up hM hPQ, by omega⟩
theorem State.cut {N : Nat} {P : List Sx → Prop} (h : State N k q P) (a : Int) : State N (k.cutAt a) q P := by
  rcases h with ⟨h1, h2, h3⟩ | ⟨h1, h2⟩
  · left
    have hd := h1.dead
    unfold Dk.cutAt
    rw [hd]
    exact ⟨⟨h1.img, h1.un, rfl⟩, h2, h3⟩
  · right
    have hd := h1.dead
    unfold Dk.cutAt
    rw [hd]
    exact ⟨h1, h2⟩
/-- Behind a crash. -/
theorem State.crash {N : Nat} {P : List Sx → Prop} (h : State N k q P) (t : Nat) : ∃ q2 l, Img (k.crash t).safe q2 l ∧ q2 ≤ N ∧ P ((puts (k.crash t).safe l).take 12) ∧ (k.crash t).un = [] ∧ (k.crash t).dead = false ∧ (k.crash t).cut = false := by
  rcases h with ⟨h1, h2, h3⟩ | ⟨h1, h2⟩
  · refine ⟨q, [], by rw [h1.crash t]; exact h1.img, h2, by rw [puts_nil, h1.crash t]; exact h3, rfl, rfl, rfl⟩
  · obtain ⟨V, hV, q2, l, i1, i2, i3⟩ := h1.safe t
    exact ⟨q2, l, i1, i2, by rw [i3]; exact hV, rfl, rfl, rfl⟩
/-- What a commit makes of a state. -/
theorem Did.state {sets : List (Int × Nat)} {v : Int} {q' : Nat} {k' : Dk Sx} {N : Nat} {P : List Sx → Prop} (h : Did sets q k v q' k') (hs : State N k q P) (hq : N + 1 < 18446744073709551616) :
    State (N + 1) k' q' (fun V => P V ∨ (okSets sets ∧ V = (puts k.safe (natP sets)).take 12)) := by
  rcases h with ⟨rfl, rfl, rfl, rfl⟩ | ⟨h1, h2, h3, rfl, rfl⟩ | ⟨h1, h2, h3, h4, h5⟩
  · exact hs.up (by omega) fun V hV => .inl hV
  · exact hs.up (by omega) fun V hV => .inl hV
  · have hne : natP sets ≠ [] := fun e => h1 (List.eq_nil_of_length_eq_zero (by rw [← natP_length, e]; rfl))
    subst h4; subst h3
    rcases hs with ⟨r1, r2, r3⟩ | ⟨f1, f2⟩
    · rcases commit_spec r1 hne (natP_val h2) (by rw [natP_length]; exact h2.1) (by omega) with ⟨g1, g2, g3, g4⟩ | ⟨_, g1, g2⟩
      · rw [g1, if_pos rfl] at h5
        subst h5
        exact .inl ⟨g2, by omega, .inr ⟨h2, by rw [g3, take_after _ r1.img.len]⟩⟩
      · rw [g1, if_neg (by decide)] at h5
        subst h5
        refine .inr ⟨g2.up (by omega) fun V hV => ?_, by omega⟩
        rcases hV with rfl | rfl
        · exact .inl r3
        · exact .inr ⟨h2, rfl⟩
    · have hst : ∃ p r, placed (12 + 1) (stored (natP sets)) = p :: r := by
        cases hc : placed (12 + 1) (stored (natP sets)) with
        | nil =>
          have hl := congrArg List.length hc
          rw [length_placed, length_stored, natP_length] at hl
          have : sets.length ≠ 0 := fun e => h1 (List.eq_nil_of_length_eq_zero e)
          simp at hl
          omega
        | cons p r => exact ⟨p, r, rfl⟩
      obtain ⟨p, r, hpr⟩ := hst
      have hcm : k.commit 12 q (natP sets) = (6, k) := by
        unfold Dk.commit
        rw [hpr, writes_dead p r k f1.dead]
        simp
      rw [hcm] at h5 ⊢
      rw [if_neg (show ¬ (6 : Int) = 0 by decide)] at h5
      subst h5
      exact .inr ⟨f1.up (by omega) fun V hV => .inl hV, by omega⟩
end
end Go.Proofs.Ytnkpmmijdkcdjaa
