/-
  A check sum of two parts modulo 65521, plainly: what bytes do to it, that one other byte or two unlike neighbours changed about lead to another sum, what bytes 0 do; no memory and no program.
-/
namespace Go.Proofs.Ytcedpmakomhigaa

def aStep (s : Nat × Nat) (c : UInt8) : Nat × Nat := ((s.1 + c.toNat) % 65521, (s.2 + (s.1 + c.toNat) % 65521) % 65521)
def aMore (s : Nat × Nat) (l : List UInt8) : Nat × Nat := l.foldl aStep s
def aWord (s : Nat × Nat) : Nat := s.2 * 65536 + s.1
/-- The halves of a sum, each modulo 65521. -/
def aPair (n : Nat) : Nat × Nat := (n % 65536 % 65521, n / 65536 % 65521)
def sumMore (n : Nat) (l : List UInt8) : Nat := aWord (aMore (aPair n) l)
def sumOf (l : List UInt8) : Nat := sumMore 1 l
def aOk (s : Nat × Nat) : Prop := s.1 < 65521 ∧ s.2 < 65521

theorem aMore_append (s : Nat × Nat) (l m : List UInt8) : aMore s (l ++ m) = aMore (aMore s l) m := by simp [aMore]
theorem aMore_snoc (s : Nat × Nat) (l : List UInt8) (c : UInt8) : aMore s (l ++ [c]) = aStep (aMore s l) c := by rw [aMore_append]; rfl
theorem aOk_step (s : Nat × Nat) (c : UInt8) : aOk (aStep s c) := ⟨Nat.mod_lt _ (by decide), Nat.mod_lt _ (by decide)⟩
theorem aOk_more {s : Nat × Nat} (h : aOk s) (l : List UInt8) : aOk (aMore s l) := by
  induction l generalizing s with
  | nil => exact h
  | cons c l ih => exact ih (aOk_step s c)
theorem aOk_pair (n : Nat) : aOk (aPair n) := ⟨Nat.mod_lt _ (by decide), Nat.mod_lt _ (by decide)⟩
theorem aWord_lt {s : Nat × Nat} (h : aOk s) : aWord s < 4294967296 := by
  obtain ⟨h1, h2⟩ := h
  unfold aWord; omega
theorem aPair_word {s : Nat × Nat} (h : aOk s) : aPair (aWord s) = s := by
  obtain ⟨h1, h2⟩ := h
  unfold aPair aWord
  refine Prod.ext ?_ ?_
  · show (s.2 * 65536 + s.1) % 65536 % 65521 = s.1; omega
  · show (s.2 * 65536 + s.1) / 65536 % 65521 = s.2; omega
theorem aWord_inj {s t : Nat × Nat} (hs : aOk s) (ht : aOk t) (h : aWord s = aWord t) : s = t := by
  rw [← aPair_word hs, h, aPair_word ht]
theorem sumMore_lt (n : Nat) (l : List UInt8) : sumMore n l < 4294967296 := aWord_lt (aOk_more (aOk_pair n) l)
/-- The sum of bytes, some behind others. -/
theorem sumMore_append (n : Nat) (l m : List UInt8) : sumMore n (l ++ m) = sumMore (sumMore n l) m := by
  unfold sumMore
  rw [aMore_append, aPair_word (aOk_more (aOk_pair n) l)]
theorem sumOf_append (l m : List UInt8) : sumOf (l ++ m) = sumMore (sumOf l) m := sumMore_append 1 l m

theorem aStep_inj {s t : Nat × Nat} (hs : aOk s) (ht : aOk t) (c : UInt8) (h : aStep s c = aStep t c) : s = t := by
  obtain ⟨h1, h2⟩ := hs
  obtain ⟨k1, k2⟩ := ht
  have hx := congrArg Prod.fst h
  have hy := congrArg Prod.snd h
  simp only [aStep] at hx hy
  have e1 : s.1 = t.1 := by omega
  have e2 : s.2 = t.2 := by rw [e1] at hy; omega
  exact Prod.ext e1 e2
theorem aMore_inj (l : List UInt8) : ∀ {s t : Nat × Nat}, aOk s → aOk t → aMore s l = aMore t l → s = t := by
  induction l with
  | nil => intro s t _ _ h; exact h
  | cons c l ih => intro s t hs ht h; exact aStep_inj hs ht c (ih (aOk_step s c) (aOk_step t c) h)
theorem aStep_byte {s : Nat × Nat} (c d : UInt8) (h : aStep s c = aStep s d) : c = d := by
  have hx := congrArg Prod.fst h
  simp only [aStep] at hx
  have hc := c.toNat_lt
  have hd := d.toNat_lt
  exact UInt8.toNat_inj.1 (by omega)
theorem aStep_swap {s : Nat × Nat} (c d : UInt8) (h : aStep (aStep s c) d = aStep (aStep s d) c) : c = d := by
  have hy := congrArg Prod.snd h
  simp only [aStep] at hy
  have hc := c.toNat_lt
  have hd := d.toNat_lt
  exact UInt8.toNat_inj.1 (by omega)
theorem sum_byte (n : Nat) (l r : List UInt8) (c d : UInt8) : sumMore n (l ++ c :: r) = sumMore n (l ++ d :: r) ↔ c = d := by
  constructor
  · intro h
    have h' := aWord_inj (aOk_more (aOk_pair n) _) (aOk_more (aOk_pair n) _) h
    rw [aMore_append, aMore_append] at h'
    exact aStep_byte c d (aMore_inj r (aOk_step _ c) (aOk_step _ d) h')
  · rintro rfl; rfl
theorem sum_swap (n : Nat) (l r : List UInt8) (c d : UInt8) : sumMore n (l ++ c :: d :: r) = sumMore n (l ++ d :: c :: r) ↔ c = d := by
  constructor
  · intro h
    have h' := aWord_inj (aOk_more (aOk_pair n) _) (aOk_more (aOk_pair n) _) h
    rw [aMore_append, aMore_append] at h'
    exact aStep_swap c d (aMore_inj r (aOk_step _ d) (aOk_step _ c) h')
  · rintro rfl; rfl
/-- What bytes 0 do: the lower part stays, the higher one goes up by it, as often. -/
theorem aMore_zeros {s : Nat × Nat} (h : aOk s) (k : Nat) : aMore s (List.replicate k 0) = (s.1, (s.2 + k * s.1) % 65521) := by
  induction k with
  | zero =>
    refine Prod.ext rfl ?_
    show s.2 = (s.2 + 0 * s.1) % 65521
    rw [Nat.zero_mul, Nat.add_zero, Nat.mod_eq_of_lt h.2]
  | succ k ih =>
    rw [List.replicate_succ', aMore_snoc, ih]
    have h1 := h.1
    have e : ((0 : UInt8).toNat) = 0 := rfl
    refine Prod.ext ?_ ?_
    · show (s.1 + (0 : UInt8).toNat) % 65521 = s.1
      rw [e]; omega
    · show ((s.2 + k * s.1) % 65521 + (s.1 + (0 : UInt8).toNat) % 65521) % 65521 = (s.2 + (k + 1) * s.1) % 65521
      rw [e, Nat.succ_mul]
      omega
theorem sum_zeros (n k : Nat) : sumMore n (List.replicate k 0) = ((n / 65536 % 65521 + k * (n % 65536 % 65521) % 65521) % 65521) * 65536 + n % 65536 % 65521 := by
  unfold sumMore
  rw [aMore_zeros (aOk_pair n)]
  show ((n / 65536 % 65521 + k * (n % 65536 % 65521)) % 65521) * 65536 + n % 65536 % 65521 = _
  omega
end Go.Proofs.Ytcedpmakomhigaa
