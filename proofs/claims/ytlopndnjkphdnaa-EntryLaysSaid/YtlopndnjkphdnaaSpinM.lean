/-
  Gaussian integers modulo 257, plainly: products, sums, and the hash of a list of bytes; no memory and no program.
-/
namespace Go.Proofs.Ytlopndnjkphdnaa.Spin

def res (n : Int) : Int := n % 257
def tX (a b c d : Int) : Int := (a * c - b * d) % 257
def tY (a b c d : Int) : Int := (a * d + b * c) % 257
def pX (a c : Int) : Int := (a + c) % 257

theorem res_bd (n : Int) : 0 ≤ res n ∧ res n ≤ 256 := by unfold res; omega
theorem tX_bd (a b c d : Int) : 0 ≤ tX a b c d ∧ tX a b c d ≤ 256 := by unfold tX; omega
theorem tY_bd (a b c d : Int) : 0 ≤ tY a b c d ∧ tY a b c d ≤ 256 := by unfold tY; omega
theorem pX_bd (a c : Int) : 0 ≤ pX a c ∧ pX a c ≤ 256 := by unfold pX; omega
theorem res_id {n : Int} (h0 : 0 ≤ n) (h : n ≤ 256) : res n = n := by unfold res; omega
theorem res_tX (a b c d : Int) : res (tX a b c d) = tX a b c d := res_id (tX_bd ..).1 (tX_bd ..).2
theorem res_tY (a b c d : Int) : res (tY a b c d) = tY a b c d := res_id (tY_bd ..).1 (tY_bd ..).2
theorem res_pX (a c : Int) : res (pX a c) = pX a c := res_id (pX_bd ..).1 (pX_bd ..).2
theorem res_res (n : Int) : res (res n) = res n := res_id (res_bd n).1 (res_bd n).2

theorem sub_res (x y : Int) : res (res x - res y) = res (x - y) := by unfold res; omega
theorem add_res (x y : Int) : res (res x + res y) = res (x + y) := by unfold res; omega
theorem mul_res (x y : Int) : res (res x * res y) = res (x * y) := by unfold res; exact (Int.mul_emod x y 257).symm
theorem res_sub (x y x' y' : Int) (h : res x = res x') (k : res y = res y') : res (x - y) = res (x' - y') := by unfold res at *; omega
theorem res_add (x y x' y' : Int) (h : res x = res x') (k : res y = res y') : res (x + y) = res (x' + y') := by unfold res at *; omega
theorem res_mul (x y x' y' : Int) (h : res x = res x') (k : res y = res y') : res (x * y) = res (x' * y') := by
  rw [← mul_res x y, h, k, mul_res]

/-- Only the rests of the operands count. -/
theorem tX_res (a b c d : Int) : tX (res a) (res b) (res c) (res d) = tX a b c d :=
  res_sub _ _ _ _ (mul_res a c) (mul_res b d)
theorem tY_res (a b c d : Int) : tY (res a) (res b) (res c) (res d) = tY a b c d :=
  res_add _ _ _ _ (mul_res a d) (mul_res b c)
theorem pX_res (a c : Int) : pX (res a) (res c) = pX a c := add_res a c
theorem tX_of (a b c d : Int) : res (res a * res c - res b * res d) = tX a b c d := tX_res a b c d
theorem tY_of (a b c d : Int) : res (res a * res d + res b * res c) = tY a b c d := tY_res a b c d

theorem tX_comm (a b c d : Int) : tX c d a b = tX a b c d := by unfold tX; rw [Int.mul_comm c a, Int.mul_comm d b]
theorem tY_comm (a b c d : Int) : tY c d a b = tY a b c d := by unfold tY; rw [Int.mul_comm c b, Int.mul_comm d a, Int.add_comm]
theorem pX_comm (a c : Int) : pX c a = pX a c := by unfold pX; rw [Int.add_comm]
theorem pX_assoc (a c e : Int) : pX a (pX c e) = pX (pX a c) e := by unfold pX; omega

theorem res_eq_of {x y : Int} (h : ∃ k, x = y + 257 * k) : res x = res y := by obtain ⟨k, rfl⟩ := h; unfold res; omega
theorem res_self (x : Int) : ∃ k, res x = x + 257 * k := ⟨-(x / 257), by unfold res; omega⟩

theorem tX_assoc (a b c d e f : Int) : tX a b (tX c d e f) (tY c d e f) = tX (tX a b c d) (tY a b c d) e f := by
  have h1 : res (a * tX c d e f - b * tY c d e f) = res (a * (c * e - d * f) - b * (c * f + d * e)) :=
    res_sub _ _ _ _ (res_mul _ _ _ _ rfl (res_res _)) (res_mul _ _ _ _ rfl (res_res _))
  have h2 : res (tX a b c d * e - tY a b c d * f) = res ((a * c - b * d) * e - (a * d + b * c) * f) :=
    res_sub _ _ _ _ (res_mul _ _ _ _ (res_res _) rfl) (res_mul _ _ _ _ (res_res _) rfl)
  show res _ = res _
  rw [h1, h2]
  congr 1
  grind
theorem tY_assoc (a b c d e f : Int) : tY a b (tX c d e f) (tY c d e f) = tY (tX a b c d) (tY a b c d) e f := by
  have h1 : res (a * tY c d e f + b * tX c d e f) = res (a * (c * f + d * e) + b * (c * e - d * f)) :=
    res_add _ _ _ _ (res_mul _ _ _ _ rfl (res_res _)) (res_mul _ _ _ _ rfl (res_res _))
  have h2 : res (tX a b c d * f + tY a b c d * e) = res ((a * c - b * d) * f + (a * d + b * c) * e) :=
    res_add _ _ _ _ (res_mul _ _ _ _ (res_res _) rfl) (res_mul _ _ _ _ (res_res _) rfl)
  show res _ = res _
  rw [h1, h2]
  congr 1
  grind
theorem tX_push (a b c d e f : Int) : pX (tX a b c d) (tX a b e f) = tX a b (pX c e) (pX d f) := by
  have h1 : res (a * pX c e - b * pX d f) = res (a * (c + e) - b * (d + f)) :=
    res_sub _ _ _ _ (res_mul _ _ _ _ rfl (res_res _)) (res_mul _ _ _ _ rfl (res_res _))
  have h2 : res (tX a b c d + tX a b e f) = res ((a * c - b * d) + (a * e - b * f)) := res_add _ _ _ _ (res_res _) (res_res _)
  show res _ = res _
  rw [h1, h2]
  congr 1
  grind
theorem tY_push (a b c d e f : Int) : pX (tY a b c d) (tY a b e f) = tY a b (pX c e) (pX d f) := by
  have h1 : res (a * pX d f + b * pX c e) = res (a * (d + f) + b * (c + e)) :=
    res_add _ _ _ _ (res_mul _ _ _ _ rfl (res_res _)) (res_mul _ _ _ _ rfl (res_res _))
  have h2 : res (tY a b c d + tY a b e f) = res ((a * d + b * c) + (a * f + b * e)) := res_add _ _ _ _ (res_res _) (res_res _)
  show res _ = res _
  rw [h1, h2]
  congr 1
  grind

/-- What one byte does to a whirl. -/
def stX (x y : Int) (c : UInt8) : Int := pX (tX x y 3 2) (c.toNat + 1)
def stY (x y : Int) (c : UInt8) : Int := pX (tY x y 3 2) (c.toNat % 7)
def step (s : Int × Int) (c : UInt8) : Int × Int := (stX s.1 s.2 c, stY s.1 s.2 c)
/-- What bytes do to a whirl. -/
def more (s : Int × Int) (l : List UInt8) : Int × Int := l.foldl step s
def mX (x y : Int) (l : List UInt8) : Int := (more (x, y) l).1
def mY (x y : Int) (l : List UInt8) : Int := (more (x, y) l).2
theorem more_append (s : Int × Int) (l m : List UInt8) : more s (l ++ m) = more (more s l) m := by simp [more]
theorem more_pair (x y : Int) (l : List UInt8) : more (x, y) l = (mX x y l, mY x y l) := rfl
theorem mX_append (x y : Int) (l m : List UInt8) : mX x y (l ++ m) = mX (mX x y l) (mY x y l) m := by unfold mX mY; rw [more_append]
theorem mY_append (x y : Int) (l m : List UInt8) : mY x y (l ++ m) = mY (mX x y l) (mY x y l) m := by unfold mX mY; rw [more_append]
theorem mX_snoc (x y : Int) (l : List UInt8) (c : UInt8) : mX x y (l ++ [c]) = pX (tX (mX x y l) (mY x y l) 3 2) (c.toNat + 1) := by rw [mX_append]; rfl
theorem mY_snoc (x y : Int) (l : List UInt8) (c : UInt8) : mY x y (l ++ [c]) = pX (tY (mX x y l) (mY x y l) 3 2) (c.toNat % 7) := by rw [mY_append]; rfl

/-- Both parts from 0 to 256. -/
def ok (s : Int × Int) : Prop := 0 ≤ s.1 ∧ s.1 ≤ 256 ∧ 0 ≤ s.2 ∧ s.2 ≤ 256
theorem ok_step (s : Int × Int) (c : UInt8) : ok (step s c) := ⟨(pX_bd ..).1, (pX_bd ..).2, (pX_bd ..).1, (pX_bd ..).2⟩
theorem ok_more {s : Int × Int} (h : ok s) (l : List UInt8) : ok (more s l) := by
  induction l generalizing s with
  | nil => exact h
  | cons c l ih => exact ih (ok_step s c)
theorem mX_bd {x y : Int} (h : ok (x, y)) (l : List UInt8) : 0 ≤ mX x y l ∧ mX x y l ≤ 256 := ⟨(ok_more h l).1, (ok_more h l).2.1⟩
theorem mY_bd {x y : Int} (h : ok (x, y)) (l : List UInt8) : 0 ≤ mY x y l ∧ mY x y l ≤ 256 := ⟨(ok_more h l).2.2.1, (ok_more h l).2.2.2⟩

/-- The same byte leads apart what is apart. -/
theorem step_inj {s t : Int × Int} (hs : ok s) (ht : ok t) (c : UInt8) (h : step s c = step t c) : s = t := by
  obtain ⟨x, y⟩ := s
  obtain ⟨u, v⟩ := t
  obtain ⟨h1, h2, h3, h4⟩ := hs
  obtain ⟨k1, k2, k3, k4⟩ := ht
  have hx := congrArg Prod.fst h
  have hy := congrArg Prod.snd h
  simp only [step, stX, stY, pX, tX, tY] at hx hy
  obtain ⟨n, hn⟩ : ∃ n : Int, n = c.toNat := ⟨_, rfl⟩
  obtain ⟨m, hm⟩ : ∃ m : Int, m = n % 7 := ⟨_, rfl⟩
  rw [← hn] at hx hy
  rw [← hm] at hy
  clear hn hm h
  dsimp only at h1 h2 h3 h4 k1 k2 k3 k4
  have ex : x = u := by omega
  have ey : y = v := by omega
  rw [ex, ey]
theorem more_inj (l : List UInt8) : ∀ {s t : Int × Int}, ok s → ok t → more s l = more t l → s = t := by
  induction l with
  | nil => intro s t _ _ h; exact h
  | cons c l ih => intro s t hs ht h; exact step_inj hs ht c (ih (ok_step s c) (ok_step t c) h)
/-- Another byte leads to another whirl. -/
theorem step_byte (s : Int × Int) (c d : UInt8) (h : step s c = step s d) : c = d := by
  have hx := congrArg Prod.fst h
  simp only [step, stX, pX] at hx
  have hc := c.toNat_lt
  have hd := d.toNat_lt
  generalize tX s.1 s.2 3 2 = k at hx
  exact UInt8.toNat_inj.1 (by omega)
/-- Two lists that differ in one byte at most have like whirls just if they are the same. -/
theorem more_tells (s : Int × Int) (l r : List UInt8) (c d : UInt8) : more s (l ++ c :: r) = more s (l ++ d :: r) ↔ c = d := by
  constructor
  · intro h
    rw [more_append, more_append] at h
    exact step_byte _ c d (more_inj r (ok_step _ c) (ok_step _ d) h)
  · rintro rfl; rfl
end Go.Proofs.Ytlopndnjkphdnaa.Spin
