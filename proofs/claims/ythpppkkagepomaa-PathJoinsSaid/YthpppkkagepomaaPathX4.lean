/-
  Split: package path's and the document's.
-/
import Derived.Test.YthpppkkagepomaaPathX3
import Derived.BigQuiet
import Derived.Deep.QuietTactic
namespace Go.Proofs.Ythpppkkagepomaa.Path
open Go.RowKit Go.Proofs.Ythpppkkagepomaa.Entry

theorem split_none {s : List UInt8} (h : parP s = none) : splitP s = ([], [], 130) := by
  unfold splitP
  rw [h]
theorem split_root {s : List UInt8} (h : parP s = some []) : splitP s = ([], [], 130) := by
  unfold splitP
  rw [h]
theorem split_some {s : List UInt8} {l : List (List UInt8)} {n : List UInt8} (h : parP s = some (l ++ [n])) : splitP s = (pathB l, n, 0) := by
  obtain ⟨ho, hp⟩ := parP_some h
  rw [← hp]
  exact split_yes ho
theorem okp_init {l : List (List UInt8)} {n : List UInt8} (h : Okp (l ++ [n])) : Okp l := by
  have := h.dropLast
  rwa [List.dropLast_concat] at this
theorem snoc_or (l : List (List UInt8)) : l = [] ∨ ∃ k n, l = k ++ [n] := by
  rcases List.eq_nil_or_concat l with h | ⟨k, n, h⟩
  · exact .inl h
  · exact .inr ⟨k, n, by simpa using h⟩
/-- What a call hands back that answers with two texts. -/
def HandsS (w : World) (r : List UInt8 × List UInt8 × Nat) (e : Ending) (w' : World) : Prop := e = .returned (.tuple #[.string ⟨r.1.toArray⟩, .string ⟨r.2.1.toArray⟩, .int .i64 (r.2.2 : Int)]) ∧ Below w.heap.size w w'
theorem hands_pair {w w' : World} {l : List (List UInt8)} {k : Nat} {e : Ending} (h : HandsP w (l, k) e w') : ∃ A c, e = .returned (.tuple #[.slice A l.length c, .int .i64 (k : Int)]) ∧ l.length ≤ c ∧ Rd w' w'.heap.size A (strsV l) ∧ Below w.heap.size w w' := by
  obtain ⟨v, he, ho, hb⟩ := h
  obtain ⟨_, A, c, rfl, hc, _, hr⟩ := own_rd ho
  exact ⟨A, c, he, hc, hr, hb⟩
theorem last_rd {w : World} {B b o : Nat} {l : List (List UInt8)} {n : List UInt8} (h : Rd w B (some ⟨b, o, none⟩) (strsV (l ++ [n]))) : w.cell? ⟨b, o + l.length, none⟩ = some (.string ⟨n.toArray⟩) :=
  rd_str h (by simp)
theorem init_rd {w : World} {B : Nat} {A : Option Addr} {l : List (List UInt8)} {n : List UInt8} (h : Rd w B A (strsV (l ++ [n]))) : Rd w B A (strsV l) := by
  have := h.take l.length
  rwa [← strsV_take, List.take_left] at this

set_option maxHeartbeats 800000 in
theorem split_any (s : ByteArray) (w : World) (hs : s.size ≤ 9223372036854775807) :
    Calls Try.prog 12 #[.string s] w fun e w' => HandsS w (splitP s.data.toList) e w' := by
  have HP := Lib.hid (fun u => parse_any s u hs)
  cases hp : parP s.data.toList with
  | none =>
    rw [parse_none hp] at HP
    rw [split_none hp]
    clear hp
    go_enter Try.func12, Try.ntmps12
    go_wp2_with fail
    refine (HP.out _).mono ?_
    rintro e w1 h1
    obtain ⟨A, c, rfl, -, -, hb⟩ := hands_pair h1
    have HB := Lib.hid hb
    clear h1 hb
    go_wp2
    go_ret3
    exact ⟨rfl, HB.out⟩
  | some l =>
    rw [parse_some hp] at HP
    rcases snoc_or l with rfl | ⟨k, n, rfl⟩
    · rw [split_root hp]
      clear hp
      go_enter Try.func12, Try.ntmps12
      go_wp2_with fail
      refine (HP.out _).mono ?_
      rintro e w1 h1
      obtain ⟨A, c, rfl, -, -, hb⟩ := hands_pair h1
      have HB := Lib.hid hb
      clear h1 hb
      go_wp2
      go_ret3
      exact ⟨rfl, HB.out⟩
    · rw [split_some hp]
      have ho := (parP_some hp).1
      have hk := okp_init ho
      have hk15 : k.length ≤ 15 := by have := ho.len; rw [List.length_append, List.length_singleton] at this; omega
      have HK := Lib.hid hk
      clear hp ho hk
      go_enter Try.func12, Try.ntmps12
      go_wp2_with fail
      refine (HP.out _).mono ?_
      rintro e w1 h1
      obtain ⟨A, c, rfl, hc, hr, hb⟩ := hands_pair h1
      have HB := Lib.hid hb
      have HR := Lib.hid hr
      obtain ⟨b, o, rfl, hbl⟩ := rd_strs hr (by simp)
      have hl : (k ++ [n]).length = k.length + 1 := by simp
      rw [hl] at hc ⊢
      have hck : k.length ≤ c := by omega
      have hne : ((k.length : Int) + 1 == 0) = false := by simp; omega
      have hw1 : IntKind.i64.wrap ((k.length : Int) + 1 - 1) = (k.length : Int) := by rw [IntKind.wrap_i64]; omega
      have hw2 : (k.length : Int) + 1 - 1 = (k.length : Int) := by omega
      have hJ := join_yes HK.out
      have HJ : Hid (∀ (u : World), Below w1.heap.size w1 u → Calls Try.prog 16 #[.slice (some ⟨b, o, none⟩) k.length c] u fun e w' => e = .returned (.tuple #[.string ⟨(pathB k).toArray⟩, .int .i64 0]) ∧ Below u.heap.size u w') := Lib.hid (fun u h => by
        have := join_any k (some ⟨b, o, none⟩) k.length c u rfl hck (init_rd ((HR.out.below h).more h.size)) (by omega)
        rwa [hJ] at this)
      clear h1 hb hr hl hJ hc
      go_wp2_with (go_at_call 16; (with_reducible refine (HJ.out _ (Below.refl _ _)).mono ?_); rintro e w2 ⟨he, hb2⟩; obtain rfl := he; have HB2 := Lib.hid hb2; have hcell := last_rd (HR.out.below hb2); clear hb2)
      have hk0 : (0 : Int) ≤ (k.length : Int) := by omega
      have hkl : (k.length : Int) < (k.length : Int) + 1 := by omega
      go_quiet (fail)
      go_wp2
      go_ret3
      exact ⟨rfl, below_drewN (HB.out.trans (HB2.out.mono HB.out.size)) _⟩
set_option maxHeartbeats 800000 in
theorem rsplit_any (s : ByteArray) (w : World) (hs : s.size ≤ 500000) :
    Calls Try.prog 13 #[.string s] w fun e w' => HandsS w (splitP s.data.toList) e w' := by
  have HP := Lib.hid (fun u => rparse_any s u hs)
  cases hp : parP s.data.toList with
  | none =>
    rw [parse_none hp] at HP
    rw [split_none hp]
    clear hp
    go_enter Try.func13, Try.ntmps13
    go_wp2_with fail
    refine (HP.out _).mono ?_
    rintro e w1 h1
    obtain ⟨A, c, rfl, -, -, hb⟩ := hands_pair h1
    have HB := Lib.hid hb
    clear h1 hb
    go_wp2
    go_ret3
    exact ⟨rfl, HB.out⟩
  | some l =>
    rw [parse_some hp] at HP
    rcases snoc_or l with rfl | ⟨k, n, rfl⟩
    · rw [split_root hp]
      clear hp
      go_enter Try.func13, Try.ntmps13
      go_wp2_with fail
      refine (HP.out _).mono ?_
      rintro e w1 h1
      obtain ⟨A, c, rfl, -, -, hb⟩ := hands_pair h1
      have HB := Lib.hid hb
      clear h1 hb
      go_wp2
      go_ret3
      exact ⟨rfl, HB.out⟩
    · rw [split_some hp]
      have ho := (parP_some hp).1
      have hk := okp_init ho
      have hk15 : k.length ≤ 15 := by have := ho.len; rw [List.length_append, List.length_singleton] at this; omega
      have HK := Lib.hid hk
      clear hp ho hk
      go_enter Try.func13, Try.ntmps13
      go_wp2_with fail
      refine (HP.out _).mono ?_
      rintro e w1 h1
      obtain ⟨A, c, rfl, hc, hr, hb⟩ := hands_pair h1
      have HB := Lib.hid hb
      have HR := Lib.hid hr
      obtain ⟨b, o, rfl, hbl⟩ := rd_strs hr (by simp)
      have hl : (k ++ [n]).length = k.length + 1 := by simp
      rw [hl] at hc ⊢
      have hck : k.length ≤ c := by omega
      have hne : ((k.length : Int) + 1 == 0) = false := by simp; omega
      have hw1 : IntKind.i64.wrap ((k.length : Int) + 1 - 1) = (k.length : Int) := by rw [IntKind.wrap_i64]; omega
      have hw2 : (k.length : Int) + 1 - 1 = (k.length : Int) := by omega
      have hJ := join_yes HK.out
      have HJ : Hid (∀ (u : World), Below w1.heap.size w1 u → Calls Try.prog 18 #[.slice (some ⟨b, o, none⟩) k.length c] u fun e w' => e = .returned (.tuple #[.string ⟨(pathB k).toArray⟩, .int .i64 0]) ∧ Below u.heap.size u w') := Lib.hid (fun u h => by
        have := rjoin_any k (some ⟨b, o, none⟩) k.length c u rfl (init_rd ((HR.out.below h).more h.size)) (by omega)
        rwa [hJ] at this)
      clear h1 hb hr hl hJ hc
      go_wp2_with (go_at_call 18; (with_reducible refine (HJ.out _ (Below.refl _ _)).mono ?_); rintro e w2 ⟨he, hb2⟩; obtain rfl := he; have HB2 := Lib.hid hb2; have hcell := last_rd (HR.out.below hb2); clear hb2)
      have hk0 : (0 : Int) ≤ (k.length : Int) := by omega
      have hkl : (k.length : Int) < (k.length : Int) + 1 := by omega
      go_quiet (fail)
      go_wp2
      go_ret3
      exact ⟨rfl, below_drewN (HB.out.trans (HB2.out.mono HB.out.size)) _⟩
end Go.Proofs.Ythpppkkagepomaa.Path
