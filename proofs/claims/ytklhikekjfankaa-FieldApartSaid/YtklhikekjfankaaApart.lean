/-
  FieldApart: whatever two numbers and two sizes, two numbers that stand apart do not change one another.
-/
import Derived.Test.YtklhikekjfankaaF
import Derived.Test.YtklhikekjfankaaN
namespace Go.Proofs.Ytklhikekjfankaa
open Go.ChangeShapes Go.WideShapes Go.ChangeAt Go.RowKit

theorem set_ok0 (l : List UInt8) (A : Option Addr) (n c size x : Nat) (w : World) (hn : l.length = n) (hr : Rd w w.heap.size A (bytesV l)) (hs : size ≤ n) (hs8 : size ≤ 8) (hs1 : 1 ≤ size) (hm : n ≤ 65536)
    (hf : x < 256 ^ size) :
    Calls Try.prog 14 #[.slice A n c, .int .i64 0, .int .i64 size, .int .u64 x] w fun e w' => ∃ A' c', n ≤ c' ∧ e = .returned (.tuple #[.slice A' n c', .int .i64 0]) ∧ Rd w' w'.heap.size A' (bytesV (put l 0 (digs x size))) ∧ Below w.heap.size w w' := by
  have hp := pow_le8 size hs8
  have hl : (put l 0 (digs x size)).length = n := by rw [length_put _ _ _ (by rw [length_digs]; omega), hn]
  refine (show Calls Try.prog 14 #[.slice A n c, .int .i64 0, .int .i64 size, .int .u64 x] w _ from set_ok l A n c 0 size x w hn hr (by omega) hs8 hs1 hm (by omega) (by simpa [fitB] using hf)).mono fun e w' ⟨v, he, hown, hb⟩ => ?_
  rw [hl] at hown
  obtain ⟨_, A', c', rfl, hc', _, hrd⟩ := own_rd hown
  exact ⟨A', c', hc', he, hrd, hb⟩
theorem set_ok1 (l : List UInt8) (A : Option Addr) (n c at_ size x : Nat) (w : World) (hn : l.length = n) (hr : Rd w w.heap.size A (bytesV l)) (hs : at_ + size ≤ n) (hs8 : size ≤ 8) (hs1 : 1 ≤ size) (hm : n ≤ 65536)
    (hf : x < 256 ^ size) :
    Calls Try.prog 14 #[.slice A n c, .int .i64 at_, .int .i64 size, .int .u64 x] w fun e w' => ∃ A' c', n ≤ c' ∧ e = .returned (.tuple #[.slice A' n c', .int .i64 0]) ∧ Rd w' w'.heap.size A' (bytesV (put l at_ (digs x size))) ∧ Below w.heap.size w w' := by
  have hp := pow_le8 size hs8
  have hl : (put l at_ (digs x size)).length = n := by rw [length_put _ _ _ (by rw [length_digs]; omega), hn]
  refine (set_ok l A n c at_ size x w hn hr hs hs8 hs1 hm (by omega) (by simpa [fitB] using hf)).mono fun e w' ⟨v, he, hown, hb⟩ => ?_
  rw [hl] at hown
  obtain ⟨_, A', c', rfl, hc', _, hrd⟩ := own_rd hown
  exact ⟨A', c', hc', he, hrd, hb⟩
theorem get_ok0 (l : List UInt8) (A : Option Addr) (n c : Nat) (B : Nat) (size : Nat) (w : World) (hn : l.length = n) (hr : Rd w B A (bytesV l)) (hc : n ≤ c) (hs : size ≤ n) (hs8 : size ≤ 8) (hs1 : 1 ≤ size) (hm : n ≤ 9223372036854775807) :
    Calls Try.prog 12 #[.slice A n c, .int .i64 0, .int .i64 size] w fun e w' => e = .returned (.tuple #[.int .u64 (le ((l.drop 0).take size) : Nat), .int .i64 0]) ∧ w = w' :=
  get_ok l A n c B 0 size w hn hr hc (by omega) hs8 hs1 hm

/-- What is left of a number when it must stand in so many bytes. -/
def cut (m a : Nat) : Nat := if a < 8 then m % 256 ^ a else m
theorem cut_lt (m a : Nat) (ha : a ≤ 8) (hm : m < 18446744073709551616) : cut m a < 256 ^ a := by
  unfold cut
  split
  · exact Nat.mod_lt _ (Nat.pow_pos (by omega))
  · obtain rfl : a = 8 := by omega
    omega

set_option maxHeartbeats 800000 in
theorem apart_any (m n s t u a b d e m' n' pa pb : Nat) (w : World) (hm : m < 18446744073709551616) (hn : n < 18446744073709551616) (hs : s < 256) (ht : t < 256) (hu : u < 256)
    (ha : (s : Int) % 8 + 1 = (a : Int)) (hb : (t : Int) % 8 + 1 = (b : Int)) (hd : (a : Int) + (u : Int) % 101 = (d : Int)) (he : (d : Int) + (b : Int) = (e : Int))
    (ha8 : a < 8 ∨ (¬ a < 8 ∧ m' = m)) (hb8 : b < 8 ∨ (¬ b < 8 ∧ n' = n)) (hpa : IntKind.u64.wrap (2 ^ (8 * a)) = (pa : Int)) (hpb : IntKind.u64.wrap (2 ^ (8 * b)) = (pb : Int)) (hpa0 : a < 8 → 0 < pa) (hpb0 : b < 8 → 0 < pb)
    (hma : (m : Int) % (pa : Int) = (m' : Int)) (hnb : (n : Int) % (pb : Int) = (n' : Int)) (hm' : m' < 256 ^ a) (hn' : n' < 256 ^ b) :
    Calls Try.prog 8 #[.int .u64 m, .int .u64 n, .int .u8 s, .int .u8 t, .int .u8 u] w fun e w' => e = .returned (.bool true) ∧ Below w.heap.size w w' := by
  have hle : d + b = e := by omega
  have had : a ≤ d := by omega
  have hdx : d ≤ 108 := by omega
  have hex : e ≤ 116 := by omega
  have ha1 : 1 ≤ a := by omega
  have hb1 : 1 ≤ b := by omega
  have ha9 : a ≤ 8 := by omega
  have hb9 : b ≤ 8 := by omega
  have hmk := make_bytes e (by omega)
  have Hs := Lib.hid hm'
  have Ht := Lib.hid hn'
  have Hle := Lib.hid hle
  have hX : (List.replicate e (0 : UInt8)).length = e := by simp
  obtain ⟨X, hXe⟩ : ∃ X, X = List.replicate e (0 : UInt8) := ⟨_, rfl⟩
  rw [← hXe] at hX hmk
  obtain ⟨z, hz⟩ : ∃ z, z = (bytesV X).toArray := ⟨_, rfl⟩
  rw [← hz] at hmk
  have hnew : ∀ W : World, Rd (W.alloc (.cells z 5)) (W.alloc (.cells z 5)).heap.size (some ⟨W.heap.size, 0, none⟩) (bytesV X) := fun W => by
    have := (Bk.new W 5 (bytesV X)).rd e 0
    rw [← hz, List.drop_zero, List.take_of_length_le (by rw [length_bytesV, hX]; omega)] at this
    exact this
  have HX := Lib.hid hX
  have Hnew := Lib.hid hnew
  have hYl : (put X 0 (digs m' a)).length = e := by rw [length_put _ _ _ (by rw [length_digs, hX]; omega), hX]
  have hWl : (put X d (digs n' b)).length = e := by rw [length_put _ _ _ (by rw [length_digs, hX]; omega), hX]
  have hZl : (put (put X 0 (digs m' a)) d (digs n' b)).length = e := by rw [length_put _ _ _ (by rw [length_digs, hYl]; omega), hYl]
  have hcom : put (put X 0 (digs m' a)) d (digs n' b) = put (put X d (digs n' b)) 0 (digs m' a) := put_comm X 0 d _ _ (by rw [length_digs]; omega) (by rw [length_digs, hX]; omega)
  have hg1 : le (((put (put X 0 (digs m' a)) d (digs n' b)).drop 0).take a) = m' := by
    rw [got_other _ _ _ _ _ (by rw [length_digs, hYl]; omega) (by omega)]
    exact le_got X 0 m' a (by omega) hm'
  have hg2 : le (((put (put X 0 (digs m' a)) d (digs n' b)).drop d).take b) = n' := le_got _ d n' b (by omega) hn'
  have HYl := Lib.hid hYl
  have HWl := Lib.hid hWl
  have HZl := Lib.hid hZl
  have Hcom := Lib.hid hcom
  have Hg1 := Lib.hid hg1
  have Hg2 := Lib.hid hg2
  clear hXe hz hX hnew hYl hWl hZl hcom hg1 hg2 hm' hn' hle
  rcases ha8 with ha8 | ⟨ha8, ham⟩ <;> rcases hb8 with hb8 | ⟨hb8, hbn⟩
  all_goals
    try (have hpa0' := hpa0 ha8)
    try (have hpb0' := hpb0 hb8)
    clear hpa0 hpb0
    try subst ham
    try subst hbn
    go_enter Try.func8, Try.ntmps8
    go_wp2_with (first
      | (go_at_call 10; refine (shown_any _).mono ?_; rintro e w1 ⟨rfl, hbe1⟩))
    have hz12 : w1.heap.size ≤ (w1.alloc (.cells z 5)).heap.size := by simp
    have hbeA : Below w1.heap.size w1 (w1.alloc (.cells z 5)) := (Below.refl _ _).alloc (Nat.le_refl _) _
    refine (set_ok0 X _ e e a m' _ HX.out (Hnew.out w1) (by omega) ha9 ha1 (by omega) Hs.out).mono ?_
    rintro e2 w2 ⟨A2, c2, hc2, rfl, hrd2, hbe2⟩
    go_wp2_with fail
    refine (set_ok1 (put X 0 (digs m' a)) A2 e c2 d b n' _ HYl.out hrd2 (by omega) hb9 hb1 (by omega) Ht.out).mono ?_
    rintro e3 w3 ⟨A3, c3, hc3, rfl, hrd3, hbe3⟩
    have hbe12 : Below w1.heap.size w1 w2 := hbeA.trans (hbe2.mono hz12)
    have hbe13 : Below w1.heap.size w1 w3 := hbe12.trans (hbe3.mono hbe12.size)
    have hrX3 : Rd w3 w3.heap.size (some ⟨w1.heap.size, 0, none⟩) (bytesV X) := (((Hnew.out w1).below hbe2).more hbe2.size |>.below hbe3).more hbe3.size
    go_wp2_with fail
    refine (set_ok1 X _ e e d b n' _ HX.out hrX3 (by omega) hb9 hb1 (by omega) Ht.out).mono ?_
    rintro e4 w4 ⟨A4, c4, hc4, rfl, hrd4, hbe4⟩
    go_wp2_with fail
    refine (set_ok0 (put X d (digs n' b)) A4 e c4 a m' _ HWl.out hrd4 (by omega) ha9 ha1 (by omega) Hs.out).mono ?_
    rintro e5 w5 ⟨A5, c5, hc5, rfl, hrd5, hbe5⟩
    rw [← Hcom.out] at hrd5
    have hbe34 := hbe4.trans (hbe5.mono hbe4.size)
    have hrd3' := (hrd3.below hbe34).more hbe34.size
    have hcv1 := str_fact (c := c3) hrd3' (Below.refl _ _) HZl.out
    have hcv2 := str_fact (c := c5) hrd5 (Below.refl _ _) HZl.out
    go_wp2_with fail
    refine (get_ok0 _ A3 e c3 _ a _ HZl.out hrd3' hc3 (by omega) ha9 ha1 (by omega)).mono ?_
    rw [Hg1.out]
    rintro e6 w6 ⟨rfl, rfl⟩
    go_wp2_with fail
    refine (get_ok _ A3 e c3 _ d b _ HZl.out hrd3' hc3 (by omega) hb9 hb1 (by omega)).mono ?_
    rw [Hg2.out]
    rintro e7 w7 ⟨rfl, rfl⟩
    go_wp2_with fail
    go_ret
    exact ⟨rfl, hbe1.trans ((hbe13.trans (hbe34.mono hbe13.size)).mono hbe1.size)⟩

theorem wrap_power (a : Nat) (ha : a ≤ 8) : IntKind.u64.wrap (2 ^ (8 * a)) = ((if a < 8 then 256 ^ a else 0 : Nat) : Int) := by
  have e : ((2 : Int) ^ (8 * a)) = ((256 ^ a : Nat) : Int) := by rw [← two_pow_eq]; simp
  rw [e, IntKind.wrap_u64]
  by_cases h : a < 8
  · rw [if_pos h]
    have h1 : 256 ^ a ≤ 256 ^ 7 := Nat.pow_le_pow_right (by omega) (by omega)
    have h2 : (256 : Nat) ^ 7 < 18446744073709551616 := by decide
    generalize 256 ^ a = q at *
    omega
  · obtain rfl : a = 8 := by omega
    rfl
theorem mod_cut (m a : Nat) : (m : Int) % ((if a < 8 then 256 ^ a else 0 : Nat) : Int) = (cut m a : Int) := by
  unfold cut
  by_cases h : a < 8
  · rw [if_pos h, if_pos h]; simp
  · rw [if_neg h, if_neg h]; simp

theorem apart_walk (m n s t u : Int) (w : World) (hm : 0 ≤ m ∧ m ≤ 18446744073709551615) (hn : 0 ≤ n ∧ n ≤ 18446744073709551615) (hs : 0 ≤ s ∧ s ≤ 255) (ht : 0 ≤ t ∧ t ≤ 255) (hu : 0 ≤ u ∧ u ≤ 255) :
    Calls Try.prog 8 #[.int .u64 m, .int .u64 n, .int .u8 s, .int .u8 t, .int .u8 u] w fun e w' => e = .returned (.bool true) ∧ Below w.heap.size w w' := by
  obtain ⟨m, rfl⟩ := Int.eq_ofNat_of_zero_le hm.1
  obtain ⟨n, rfl⟩ := Int.eq_ofNat_of_zero_le hn.1
  obtain ⟨s, rfl⟩ := Int.eq_ofNat_of_zero_le hs.1
  obtain ⟨t, rfl⟩ := Int.eq_ofNat_of_zero_le ht.1
  obtain ⟨u, rfl⟩ := Int.eq_ofNat_of_zero_le hu.1
  have p0 : ∀ a : Nat, a < 8 → 0 < (if a < 8 then 256 ^ a else 0 : Nat) := fun a h => by rw [if_pos h]; exact Nat.pow_pos (by omega)
  have h8 : ∀ m a : Nat, a < 8 ∨ (¬ a < 8 ∧ cut m a = m) := fun m a => by
    by_cases h : a < 8
    · exact .inl h
    · exact .inr ⟨h, by unfold cut; rw [if_neg h]⟩
  exact apart_any m n s t u (s % 8 + 1) (t % 8 + 1) (s % 8 + 1 + u % 101) (s % 8 + 1 + u % 101 + (t % 8 + 1)) (cut m (s % 8 + 1)) (cut n (t % 8 + 1)) _ _ w (by omega) (by omega) (by omega) (by omega) (by omega)
    (by simp) (by simp) (by simp) (by simp) (h8 _ _) (h8 _ _) (wrap_power _ (by omega)) (wrap_power _ (by omega)) (p0 _) (p0 _) (mod_cut _ _) (mod_cut _ _)
    (cut_lt _ _ (by omega) (by omega)) (cut_lt _ _ (by omega) (by omega))

theorem apart_contract (H : Type) (enc : TypeId × Value → H) (W : World) (base : Nat) (args : Array Value) (ds gs : List (DataW H)) (before : List MemPlace)
    (hval : ∀ (j : Nat) t v, Try.f8.params[j]? = some t → args[j]? = some v → Value.okWide Try.prog W .any base t v)
    (hW : DataW.Whole enc Try.prog Try.f8.params.toList Rows.fieldApartSpec.vars false W args.toList ds gs before) :
    Calls Try.prog 8 args W fun e W' => ∃ v, e = .returned v ∧ Rows.fieldApartSpec.post enc Try.prog Try.f8 false true false false W args v W' := by
  have hW' := hW
  have hlt : ∀ x ∈ before, x.block < W.heap.size := fun x hx => hW.lt x hx
  obtain ⟨p, q, hA0, hV, rfl, _, _⟩ := hW
  have hA : DataW.TrodAll enc Try.prog W 0 (fun _ => true) true Try.f8.params.toList args.toList ds p := hA0
  rw [Try.params8] at hA hval
  obtain ⟨v0, vs0, d0, ds0, p0, q0, hargs, rfl, rfl, h0, r0⟩ := trodAll_cons hA
  obtain ⟨v1, vs1, d1, ds1, p1, q1, rfl, rfl, rfl, h1, r1⟩ := trodAll_cons r0
  obtain ⟨v2, vs2, d2, ds2, p2, q2, rfl, rfl, rfl, h2, r2⟩ := trodAll_cons r1
  obtain ⟨v3, vs3, d3, ds3, p3, q3, rfl, rfl, rfl, h3, r3⟩ := trodAll_cons r2
  obtain ⟨v4, vs4, d4, ds4, p4, q4, rfl, rfl, rfl, h4, r4⟩ := trodAll_cons r3
  obtain ⟨rfl, rfl, rfl⟩ := trodAll_nil r4
  obtain rfl : args = #[v0, v1, v2, v3, v4] := by cases args; simp_all
  obtain ⟨rfl, rfl⟩ := trodVars_none hV
  clear hA0
  obtain ⟨a0, rfl, rfl, rfl, wa0⟩ := open_int Try.underlying23 (hval 0 23 v0 rfl rfl) h0
  have bd0 := bounds_u64 wa0
  obtain ⟨a1, rfl, rfl, rfl, wa1⟩ := open_int Try.underlying23 (hval 1 23 v1 rfl rfl) h1
  have bd1 := bounds_u64 wa1
  obtain ⟨a2, rfl, rfl, rfl, wa2⟩ := open_int Try.underlying5 (hval 2 5 v2 rfl rfl) h2
  have bd2 := bounds_u8 wa2
  obtain ⟨a3, rfl, rfl, rfl, wa3⟩ := open_int Try.underlying5 (hval 3 5 v3 rfl rfl) h3
  have bd3 := bounds_u8 wa3
  obtain ⟨a4, rfl, rfl, rfl, wa4⟩ := open_int Try.underlying5 (hval 4 5 v4 rfl rfl) h4
  have bd4 := bounds_u8 wa4
  refine (apart_walk a0 a1 a2 a3 a4 W (by omega) (by omega) (by omega) (by omega) (by omega)).mono fun e W' ⟨he, hb⟩ => ?_
  subst he
  exact ⟨_, rfl, law_post laid (by kernel_rfl) Try.underlying4 (by rw [Try.params8]; decide +kernel) rfl hW' ⟨rfl, rfl, rfl⟩ hb⟩

set_option maxRecDepth 100000 in
theorem apart_lifted (os : Os) (started : os.Started) (H : Type) (enc : TypeId × Value → H) :
    ReturnsInHanded {} Try.checked os 8 .any (Rows.fieldApartSpec.pre6 enc Try.prog Try.f8 Rows.fieldApartRow.domain false) (Rows.fieldApartSpec.post enc Try.prog Try.f8 false true false false) := by
  refine returnsInHanded_of_change (C := Try.checked) own started (by kernel_rfl) Try.func8
    (ChangeSpec.witness6 (enc := enc) (C := Try.checked) false ⟨#[], #[.int .u64 0, .int .u64 0, .int .u8 0, .int .u8 0, .int .u8 0], []⟩ 8 (by kernel_rfl) (by kernel_rfl) (by kernel_rfl) (by kernel_rfl)) ?_
  intro W base args ds gs before hval hW _ _
  exact apart_contract H enc W base args ds gs before hval hW

/-- FieldApart is true for every input. -/
theorem apart_holds : Rows.FieldApartSaid :=
  OpenClaim.holds_of_wide 8 Try.f8 rfl rfl rfl rfl rfl rfl rfl ⟨rfl, rfl, rfl, rfl, rfl⟩ rfl rfl rfl rfl rfl (by kernel_rfl) Try.func8 (by kernel_rfl)
    (of_decide_eq_true (by kernel_rfl)) (by unfold Func.isWrapper; first | (rw [if_pos (by decide +kernel)]; kernel_rfl) | (rw [if_neg (by decide +kernel)]; exact ⟨rfl, rfl⟩))
    (fun os started H enc _ => apart_lifted os started H enc)
end Go.Proofs.Ytklhikekjfankaa
