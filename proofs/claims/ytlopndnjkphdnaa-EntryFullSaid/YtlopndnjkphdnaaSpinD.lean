/-
  Whole numbers below 2 ^ 53 as doubles: each is exact, and so are their sums, differences and products as long as these are below 2 ^ 53, and what an int conversion gives back.
-/
import Derived.Laws.FloatArith
import Derived.Laws.ComplexArith
namespace Go.Proofs.Ytlopndnjkphdnaa.Spin
open Ieee

theorem log2_shift (n k : Nat) (h : n ≠ 0) : (n * 2 ^ k).log2 = n.log2 + k := by
  have hk := Nat.two_pow_pos k
  rw [Nat.log2_eq_iff (Nat.mul_ne_zero h (by omega))]
  have h1 := Nat.log2_self_le h
  have h2 := @Nat.lt_log2_self n
  constructor
  · rw [Nat.pow_add]; exact Nat.mul_le_mul_right _ h1
  · rw [show n.log2 + k + 1 = (n.log2 + 1) + k by omega, Nat.pow_add]; exact Nat.mul_lt_mul_of_pos_right h2 hk

theorem cut_exact (way : Toward) (neg : Bool) (n k : Nat) : way.cut neg (n * 2 ^ k) k = n := by
  have hm : (if n = 0 then 0 else k) ≤ min k ((n * 2 ^ k).log2 + 2) := by
    split
    · omega
    · rename_i h
      rw [log2_shift n k h]; omega
  have hg : (n * 2 ^ k) / (1 <<< min k ((n * 2 ^ k).log2 + 2)) = n ∧ (n * 2 ^ k) % (1 <<< min k ((n * 2 ^ k).log2 + 2)) = 0 := by
    by_cases h : n = 0
    · subst h; simp
    · rw [if_neg h] at hm
      have e : min k ((n * 2 ^ k).log2 + 2) = k := by omega
      rw [e, Nat.shiftLeft_eq, Nat.one_mul]
      exact ⟨Nat.mul_div_cancel _ (Nat.two_pow_pos k), Nat.mul_mod_left _ _⟩
  have hp : 0 < 1 <<< min k ((n * 2 ^ k).log2 + 2) := by rw [Nat.shiftLeft_eq, Nat.one_mul]; exact Nat.two_pow_pos _
  unfold Toward.cut
  simp only [hg.1, hg.2]
  have h0 : ((1 <<< min k ((n * 2 ^ k).log2 + 2)) == 2 * 0) = false := by
    rw [beq_eq_false_iff_ne]; omega
  cases way <;> simp [h0]

/-- The rung of a whole number below 2 ^ 53. -/
def rung (n : Nat) : Nat := if n = 0 then 0 else (n.log2 + 1022) * 2 ^ 52 + n * 2 ^ (52 - n.log2)

theorem log2_le52 {n : Nat} (h0 : n ≠ 0) (h : n < 2 ^ 53) : n.log2 ≤ 52 := by
  have := (Nat.log2_lt h0).2 h; omega
theorem kept_bounds {n : Nat} (h0 : n ≠ 0) (h : n < 2 ^ 53) : 2 ^ 52 ≤ n * 2 ^ (52 - n.log2) ∧ n * 2 ^ (52 - n.log2) < 2 ^ 53 := by
  have hl := log2_le52 h0 h
  have h1 := Nat.log2_self_le h0
  have h2 := @Nat.lt_log2_self n
  constructor
  · have := Nat.mul_le_mul_right (2 ^ (52 - n.log2)) h1
    rw [← Nat.pow_add, show n.log2 + (52 - n.log2) = 52 by omega] at this
    exact this
  · have := Nat.mul_lt_mul_of_pos_right h2 (Nat.two_pow_pos (52 - n.log2))
    rw [← Nat.pow_add, show n.log2 + 1 + (52 - n.log2) = 53 by omega] at this
    exact this
theorem rung_lt {n : Nat} (h : n < 2 ^ 53) : rung n < 2047 * 2 ^ 52 := by
  unfold rung
  split
  · decide
  · rename_i h0
    have := kept_bounds h0 h
    have := log2_le52 h0 h
    omega

theorem nearest_exact (s : Bool) (n k : Nat) (h : n < 2 ^ 53) : double.nearest s (n * 2 ^ k) (-(k : Int)) = double.word s (rung n) := by
  by_cases h0 : n = 0
  · subst h0; simp [Format.nearest, rung]
  · have hk := Nat.two_pow_pos k
    have hne : ¬ n * 2 ^ k = 0 := Nat.mul_ne_zero h0 (by omega)
    have hl := log2_le52 h0 h
    have hb := kept_bounds h0 h
    unfold Format.nearest
    rw [if_neg hne, log2_shift n k h0]
    have elast : max (-(k : Int) + ((n.log2 + k : Nat) : Int) - (double.fractionBits : Int)) double.leastPlace = (n.log2 : Int) - 52 := by
      show max (-(k : Int) + ((n.log2 + k : Nat) : Int) - 52) (-1074) = _
      omega
    simp only [elast]
    have ekept : Toward.even.cut s ((n * 2 ^ k) <<< (-(k : Int) - ((n.log2 : Int) - 52)).toNat) (((n.log2 : Int) - 52) - -(k : Int)).toNat = n * 2 ^ (52 - n.log2) := by
      rw [Nat.shiftLeft_eq]
      by_cases hc : k ≤ 52 - n.log2
      · rw [show (((n.log2 : Int) - 52) - -(k : Int)).toNat = 0 by omega, show (-(k : Int) - ((n.log2 : Int) - 52)).toNat = 52 - n.log2 - k by omega]
        have := cut_exact .even s (n * 2 ^ k * 2 ^ (52 - n.log2 - k)) 0
        rw [Nat.pow_zero, Nat.mul_one] at this
        rw [this, Nat.mul_assoc, ← Nat.pow_add, show k + (52 - n.log2 - k) = 52 - n.log2 by omega]
      · rw [show (((n.log2 : Int) - 52) - -(k : Int)).toNat = k - (52 - n.log2) by omega, show (-(k : Int) - ((n.log2 : Int) - 52)).toNat = 0 by omega, Nat.pow_zero, Nat.mul_one]
        have e : n * 2 ^ k = (n * 2 ^ (52 - n.log2)) * 2 ^ (k - (52 - n.log2)) := by
          rw [Nat.mul_assoc, ← Nat.pow_add, show 52 - n.log2 + (k - (52 - n.log2)) = k by omega]
        rw [e, cut_exact]
    rw [ekept]
    have eplace : (((n.log2 : Int) - 52) - double.leastPlace).toNat = n.log2 + 1022 := by
      show (((n.log2 : Int) - 52) - (-1074)).toNat = _
      omega
    rw [eplace]
    have er := rung_lt h
    have einf : double.infRung = 2047 * 2 ^ 52 := by decide
    have eb : double.binade = 2 ^ 52 := by decide
    rw [einf, eb]
    have e2 : (n.log2 + 1022) * 2 ^ 52 + n * 2 ^ (52 - n.log2) = rung n := by unfold rung; rw [if_neg h0]
    rw [e2, Nat.min_eq_left (Nat.le_of_lt er)]

/-- What a whole number's word stands for. -/
theorem read_exact (s : Bool) (n : Nat) (h : n < 2 ^ 53) : ∃ k : Nat, double.read (double.word s (rung n)) = .number s (n * 2 ^ k) (-(k : Int)) := by
  have esw : double.signWeight = 2 ^ 63 := by decide
  have einf : double.infRung = 2047 * 2 ^ 52 := by decide
  have eb : double.binade = 2 ^ 52 := by decide
  have el : double.leastPlace = -1074 := by decide
  have hr := rung_lt h
  have hneg : ((double.word s (rung n)) / 2 ^ 63 % 2 == 1) = s := by
    unfold Format.word
    rw [esw]
    cases s
    · simp; omega
    · simp; omega
  have hmod : (double.word s (rung n)) % 2 ^ 63 = rung n := by
    unfold Format.word
    rw [esw]
    cases s
    · simp; omega
    · simp; omega
  unfold Format.read
  simp only [esw, hneg, hmod, einf, eb, el]
  by_cases h0 : n = 0
  · subst h0
    obtain ⟨q, hq⟩ : ∃ q : Nat, q = 1074 := ⟨_, rfl⟩
    refine ⟨q, ?_⟩
    rw [Nat.zero_mul, hq]; rfl
  · have hl := log2_le52 h0 h
    have hb := kept_bounds h0 h
    have er : rung n = (n.log2 + 1022) * 2 ^ 52 + n * 2 ^ (52 - n.log2) := by unfold rung; rw [if_neg h0]
    refine ⟨52 - n.log2, ?_⟩
    rw [if_neg (by omega), if_pos hr]
    have e1 : 2 ^ 52 + rung n % 2 ^ 52 = n * 2 ^ (52 - n.log2) := by omega
    have e2 : rung n / 2 ^ 52 = n.log2 + 1023 := by omega
    have e3 : (-1074 : Int) + ((n.log2 + 1023 - 1 : Nat) : Int) = -((52 - n.log2 : Nat) : Int) := by omega
    rw [e1, e2, e3]

/-- The double of a whole number. -/
def dbl (z : Int) : Nat := double.word (decide (z < 0)) (rung z.natAbs)

theorem write_exact (s : Bool) (n k : Nat) (h : n < 2 ^ 53) : double.write (.number s (n * 2 ^ k) (-(k : Int))) = double.word s (rung n) := nearest_exact s n k h

theorem nearest_int (z : Int) (h : z.natAbs < 2 ^ 53) : FloatKind.f64.nearest z = dbl z := by
  show double.nearest (decide (z < 0)) z.natAbs 0 = _
  have := nearest_exact (decide (z < 0)) z.natAbs 0 h
  rw [Nat.pow_zero, Nat.mul_one] at this
  exact this

theorem mul_exact (a b : Nat) (ha : a < 2 ^ 53) (hb : b < 2 ^ 53) (hab : a * b < 2 ^ 53) : floatBits .mul .f64 (dbl a) (dbl b) = some (dbl ((a * b : Nat) : Int)) := by
  have e : ∀ m : Nat, dbl (m : Int) = double.word false (rung m) := fun m => by
    unfold dbl; rw [show decide ((m : Int) < 0) = false by simp, Int.natAbs_natCast]
  rw [e, e, e]
  obtain ⟨i, hi⟩ := read_exact false a ha
  obtain ⟨j, hj⟩ := read_exact false b hb
  show (double.mul _ _) = _
  unfold Format.mul
  rw [hi, hj]
  simp only [Datum.product, Option.map_some, Bool.false_bne]
  congr 1
  have := write_exact false (a * b) (i + j) hab
  rw [← this, Nat.pow_add]
  congr 2
  · rw [Nat.mul_mul_mul_comm]
  · omega

theorem signed_shift (s : Bool) (n i j : Nat) (hij : i ≤ j) : signed s (n * 2 ^ i) (j - i) = (if s then -(n : Int) else n) * 2 ^ j := by
  have e : (n * 2 ^ i) <<< (j - i) = n * 2 ^ j := by
    rw [Nat.shiftLeft_eq, Nat.mul_assoc, ← Nat.pow_add, show i + (j - i) = j by omega]
  unfold signed
  rw [e]
  cases s
  · simp
  · simp [Int.neg_mul]

theorem sum_exact (s t : Bool) (a b i j : Nat) (z : Int) (hz : z = (if s then -(a : Int) else a) + (if t then -(b : Int) else b)) (hb : z.natAbs < 2 ^ 53) (hst : (s && t) = false) :
    ((Datum.number s (a * 2 ^ i) (-(i : Int))).sum (.number t (b * 2 ^ j) (-(j : Int)))).map double.write = some (dbl z) := by
  obtain ⟨m, hm⟩ : ∃ m, m = max i j := ⟨_, rfl⟩
  have hmin : min (-(i : Int)) (-(j : Int)) = -(m : Int) := by omega
  simp only [Datum.sum, hmin, Option.map_some]
  rw [show (-(i : Int) - -(m : Int)).toNat = m - i by omega, show (-(j : Int) - -(m : Int)).toNat = m - j by omega]
  rw [signed_shift s a i m (by omega), signed_shift t b j m (by omega), ← Int.add_mul, ← hz]
  have hp : (0 : Int) < 2 ^ m := Int.pow_pos (by decide)
  have habs : (z * 2 ^ m).natAbs = z.natAbs * 2 ^ m := by
    rw [Int.natAbs_mul, Int.natAbs_pow]; rfl
  have hsg : (if z * 2 ^ m = 0 then s && t else decide (z * 2 ^ m < 0)) = decide (z < 0) := by
    by_cases h0 : z = 0
    · subst h0; simp [hst]
    · have h1 : ¬ z * 2 ^ m = 0 := by
        intro h
        rcases Int.mul_eq_zero.1 h with h | h
        · exact h0 h
        · omega
      rw [if_neg h1]
      by_cases hn : z < 0
      · rw [decide_eq_true hn, decide_eq_true (Int.mul_neg_of_neg_of_pos hn hp)]
      · rw [decide_eq_false hn, decide_eq_false]
        have := Int.mul_pos (show 0 < z by omega) hp
        omega
  rw [habs, hsg]
  exact congrArg some (write_exact _ _ _ hb)

theorem add_exact (a b : Nat) (ha : a < 2 ^ 53) (hb : b < 2 ^ 53) (hab : a + b < 2 ^ 53) : floatBits .add .f64 (dbl a) (dbl b) = some (dbl ((a + b : Nat) : Int)) := by
  have e : ∀ m : Nat, dbl (m : Int) = double.word false (rung m) := fun m => by
    unfold dbl; rw [show decide ((m : Int) < 0) = false by simp, Int.natAbs_natCast]
  rw [e a, e b]
  obtain ⟨i, hi⟩ := read_exact false a ha
  obtain ⟨j, hj⟩ := read_exact false b hb
  show (double.add _ _) = _
  unfold Format.add
  rw [hi, hj]
  exact sum_exact false false a b i j _ (by simp) (by omega) rfl

theorem sub_exact (a b : Nat) (ha : a < 2 ^ 53) (hb : b < 2 ^ 53) : floatBits .sub .f64 (dbl a) (dbl b) = some (dbl ((a : Int) - b)) := by
  have e : ∀ m : Nat, dbl (m : Int) = double.word false (rung m) := fun m => by
    unfold dbl; rw [show decide ((m : Int) < 0) = false by simp, Int.natAbs_natCast]
  rw [e a, e b]
  obtain ⟨i, hi⟩ := read_exact false a ha
  obtain ⟨j, hj⟩ := read_exact false b hb
  show (double.sub _ _) = _
  unfold Format.sub
  rw [hi, hj]
  exact sum_exact false true a b i j _ (by simp; omega) (by omega) rfl

theorem int_exact (z : Int) (h : z.natAbs < 2 ^ 53) : floatToIntVal .f64 (dbl z) .i64 = some z := by
  unfold floatToIntVal
  obtain ⟨k, hk⟩ := read_exact (decide (z < 0)) z.natAbs h
  have hd : FloatKind.f64.decode (dbl z) = .number (decide (z < 0)) (z.natAbs * 2 ^ k) (-(k : Int)) := hk
  have hi : (FloatKind.f64.decode (dbl z)).toInt .zero = some z := by
    rw [hd]
    unfold Datum.toInt Datum.integral
    simp only []
    rw [show (-(k : Int)).toNat = 0 by omega, show (- -(k : Int)).toNat = k by omega, Nat.shiftLeft_eq, Nat.pow_zero, Nat.mul_one, cut_exact]
    unfold signed
    by_cases hn : z < 0
    · simp [hn]; omega
    · simp [hn]; omega
  rw [hi]
  simp only []
  rw [if_pos ⟨by show (-9223372036854775808 : Int) ≤ z; omega, by show z ≤ (9223372036854775807 : Int); omega⟩]

/-- A product of two complex numbers with whole parts. -/
theorem cmul_exact (a b c d : Nat) (ha : a < 1024) (hb : b < 1024) (hc : c < 1024) (hd : d < 1024) :
    cMulBits (dbl a) (dbl b) (dbl c) (dbl d) = some (dbl ((a : Int) * c - (b : Int) * d), dbl ((a : Int) * d + (b : Int) * c)) := by
  have bd : ∀ x y : Nat, x < 1024 → y < 1024 → x * y < 1048576 := fun x y hx hy => Nat.mul_lt_mul'' hx hy
  have h1 := bd a c ha hc
  have h2 := bd b d hb hd
  have h3 := bd a d ha hd
  have h4 := bd b c hb hc
  unfold cMulBits
  rw [mul_exact a c (by omega) (by omega) (by omega), mul_exact b d (by omega) (by omega) (by omega), mul_exact a d (by omega) (by omega) (by omega), mul_exact b c (by omega) (by omega) (by omega)]
  simp only [Option.bind_some]
  rw [sub_exact _ _ (by omega) (by omega), add_exact _ _ (by omega) (by omega) (by omega)]
  simp

theorem cadd_exact (a b c d : Nat) (ha : a < 1024) (hb : b < 1024) (hc : c < 1024) (hd : d < 1024) :
    cSumBits .add .f64 (dbl a) (dbl b) (dbl c) (dbl d) = some (dbl ((a : Int) + c), dbl ((b : Int) + d)) := by
  unfold cSumBits
  rw [add_exact a c (by omega) (by omega) (by omega), add_exact b d (by omega) (by omega) (by omega)]
  simp

end Go.Proofs.Ytlopndnjkphdnaa.Spin
