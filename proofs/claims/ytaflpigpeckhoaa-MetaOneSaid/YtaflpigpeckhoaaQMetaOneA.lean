/-
  One owner, bit or inode that is another one changes one sector: for every parting, everything known (of lists of up to 100), every choice.
  No condition is set.
-/
import Derived.Test.YtaflpigpeckhoaaQMetaLays
namespace Go.Proofs.Ytaflpigpeckhoaa
open Go.RowKit Go.ChangeShapes Go.WideShapes Go.ChangeAt Go.Deep Go.Joins Meta

namespace Meta
/-- Two lists that differ in one place. -/
structure OneAt (l l' : List (List UInt8)) (q d : Nat) : Prop where
  len : l.length = q
  len' : l'.length = q
  lt : d < q
  same : ∀ t, t ≠ d → l[t]? = l'[t]?
  diff : l[d]? ≠ l'[d]?
theorem OneAt.sym {l l' : List (List UInt8)} {q d : Nat} (h : OneAt l l' q d) (t : Nat) (x y : List UInt8) (hx : l[t]? = some x) (hy : l'[t]? = some y) : (x == y) = !decide (t = d) := by
  by_cases ht : t = d
  · subst ht
    have hne : x ≠ y := fun e => h.diff (by rw [hx, hy, e])
    simp [hne]
  · have := h.same t ht
    rw [hx, hy] at this
    injection this with this
    subst this
    simp [ht]
theorem set_one {α : Type} {l : List α} {a : Nat} {y : α} {t : Nat} (h : t ≠ a) : (l.set a y)[t]? = l[t]? := List.getElem?_set_ne (Ne.symm h)
theorem own_mod {x : Int} (_h : 0 ≤ x ∧ x ≤ 16) : 0 ≤ (x + 1) % 17 ∧ (x + 1) % 17 ≤ 16 ∧ (x + 1) % 17 ≠ x := by omega
theorem right_own {G : Geo} {m : Met} (h : Right G m) {a : Nat} {x : Int} (hx : m.own[a]? = some x) : Right G { m with own := m.own.set a ((x + 1) % 17) } := by
  refine ⟨h.geo, h.rows, by show ((m.own.set a _).length : Int) = _; rw [List.length_set]; exact h.olen, fun y hy => ?_, h.ulen, h.used, h.ilen, h.ino⟩
  rcases List.mem_or_eq_of_mem_set hy with hy | hy
  · exact h.own y hy
  · have := own_mod (h.own x (List.mem_of_getElem? hx))
    rw [hy]; exact ⟨this.1, this.2.1⟩
theorem oneAt_of {G : Geo} {m m' : Met} (h : Right G m) (ho : Okm m) (h' : Right G m') (ho' : Okm m') (d : Nat) (hd : d < (secs m).length) (hs : ∀ t, t ≠ d → (secs m)[t]? = (secs m')[t]?) (hne : m ≠ m') : OneAt (secs m) (secs m') (secs m).length d := by
  have hl := length_secs h
  have hl' := length_secs h'
  refine ⟨rfl, by omega, hd, hs, fun he => hne (secs_inj h ho h' ho' (List.ext_getElem? fun t => ?_))⟩
  by_cases ht : t = d
  · rw [ht]; exact he
  · exact hs t ht
theorem okm_own {m : Met} (ho : Okm m) {a : Nat} {y : Int} (hy : 0 ≤ y ∧ y ≤ 16) : Okm { m with own := m.own.set a y } :=
  ⟨ho.rows, fun x hx => by
    rcases List.mem_or_eq_of_mem_set hx with h | h
    · exact ho.own x h
    · rw [h]; omega, ho.ino⟩
theorem one_own {G : Geo} {m : Met} (h : Right G m) (ho : Okm m) {a : Nat} {x : Int} (hx : m.own[a]? = some x) : OneAt (secs m) (secs { m with own := m.own.set a ((x + 1) % 17) }) (secs m).length 1 := by
  have hla := (List.getElem?_eq_some_iff.1 hx).1
  have hy := own_mod (h.own x (List.mem_of_getElem? hx))
  refine oneAt_of h ho (right_own h hx) (okm_own ho ⟨hy.1, hy.2.1⟩) 1 (by show 1 < (pairs m.ino).length + 1 + 1 + 1; omega) (fun t ht => ?_) (fun he => ?_)
  · match t, ht with
    | 0, _ => rfl
    | 1, ht => exact absurd rfl ht
    | t + 2, _ => rfl
  · have h3 : (m.own.set a ((x + 1) % 17))[a]? = some ((x + 1) % 17) := List.getElem?_set_self hla
    have h4 : m.own = m.own.set a ((x + 1) % 17) := congrArg Met.own he
    rw [← h4, hx] at h3
    injection h3 with h3
    exact hy.2.2 h3.symm
theorem right_used {G : Geo} {m : Met} (h : Right G m) {b : UInt8} (hb : m.used[0]? = some b) : Right G { m with used := m.used.set 0 (b ^^^ 1) } := by
  refine ⟨h.geo, h.rows, h.olen, h.own, by show (m.used.set 0 _).length = 64; rw [List.length_set]; exact h.ulen, fun k h1 h2 => ?_, h.ilen, h.ino⟩
  have hg := h.geo.g1
  have hp := h.geo.gp1
  have h0 := h.used k h1 h2
  have hk : 1 ≤ k := by omega
  rw [← h0]
  show Bits.hb (m.used.set 0 (b ^^^ 1)) k = Bits.hb m.used k
  unfold Bits.hb
  by_cases hk8 : k / 8 = 0
  · have e1 : (m.used.set 0 (b ^^^ 1)).getD (k / 8) 0 = b ^^^ 1 := by
      rw [hk8, List.getD_eq_getElem?_getD, List.getElem?_set_self (List.getElem?_eq_some_iff.1 hb).1]; rfl
    have e2 : m.used.getD (k / 8) 0 = b := by rw [hk8, List.getD_eq_getElem?_getD, hb]; rfl
    rw [e1, e2, UInt8.toNat_xor, Nat.testBit_xor]
    have : (1 : UInt8).toNat.testBit (k % 8) = false := by
      show Nat.testBit 1 (k % 8) = false
      obtain ⟨q, hq⟩ : ∃ q, k % 8 = q + 1 := ⟨k % 8 - 1, by omega⟩
      rw [hq, Nat.testBit_succ]
      simp
    rw [this, Bool.xor_false]
  · rw [List.getD_eq_getElem?_getD, List.getD_eq_getElem?_getD, set_one hk8]
theorem xor_ne (b : UInt8) : b ^^^ 1 ≠ b := by
  intro h
  have := congrArg (fun z : UInt8 => z.toNat.testBit 0) h
  simp [UInt8.toNat_xor] at this
  omega
theorem one_used {G : Geo} {m : Met} (h : Right G m) (ho : Okm m) {b : UInt8} (hb : m.used[0]? = some b) : OneAt (secs m) (secs { m with used := m.used.set 0 (b ^^^ 1) }) (secs m).length 2 := by
  have hla := (List.getElem?_eq_some_iff.1 hb).1
  refine oneAt_of h ho (right_used h hb) ⟨ho.rows, ho.own, ho.ino⟩ 2 (by show 2 < (pairs m.ino).length + 1 + 1 + 1; omega) (fun t ht => ?_) (fun he => ?_)
  · match t, ht with
    | 0, _ => rfl
    | 1, _ => rfl
    | 2, ht => exact absurd rfl ht
    | t + 3, _ => rfl
  · have h3 : (m.used.set 0 (b ^^^ 1))[0]? = some (b ^^^ 1) := List.getElem?_set_self hla
    have h4 : m.used = m.used.set 0 (b ^^^ 1) := congrArg Met.used he
    rw [← h4, hb] at h3
    injection h3 with h3
    exact xor_ne b h3.symm
def newI (n : Inode.Ino) : Inode.Ino := { n with k := 1, s := (n.s + 1) % 3840 }
theorem right_newI {n : Inode.Ino} (h : Inode.Right n) : Inode.Right (newI n) := by
  rcases h with rfl | h
  · exact .inr ⟨.inl rfl, by decide, by decide, by decide, by decide, by decide, by decide⟩
  · have := h.s0
    have := h.s1
    exact .inr ⟨.inl rfl, h.row, h.l0, h.l1, by show 0 ≤ (n.s + 1) % 3840; omega, by show (n.s + 1) % 3840 ≤ 3840; omega, h.ptr⟩
theorem oki_newI {n : Inode.Ino} (h : Inode.Oki n) : Inode.Oki (newI n) := ⟨h.len, by show 1 < 256; decide, h.r⟩
theorem newI_ne {n : Inode.Ino} (h : Inode.Right n) : newI n ≠ n := fun e => by
  have e1 : (n.s + 1) % 3840 = n.s := congrArg Inode.Ino.s e
  rcases h with rfl | h
  · exact absurd e1 (by decide)
  · have := h.s0
    have := h.s1
    omega
theorem pairs_set {l : List Inode.Ino} {a : Nat} {n : Inode.Ino} {t : Nat} (h : t ≠ a / 2) : (pairs (l.set a n))[t]? = (pairs l)[t]? := by
  induction l using pairs.induct generalizing a t with
  | case1 x y l ih =>
    match a with
    | 0 =>
      match t, h with
      | 0, h => exact absurd rfl h
      | t + 1, _ => rfl
    | 1 =>
      match t, h with
      | 0, h => exact absurd rfl h
      | t + 1, _ => rfl
    | a + 2 =>
      match t with
      | 0 => rfl
      | t + 1 =>
        show (pairs (l.set a n))[t]? = (pairs l)[t]?
        exact ih (by omega)
  | case2 x =>
    match a with
    | 0 =>
      match t, h with
      | 0, h => exact absurd rfl h
      | t + 1, _ => rfl
    | a + 1 => rfl
  | case3 => rfl
theorem right_ino {G : Geo} {m : Met} (h : Right G m) {a : Nat} {n : Inode.Ino} (hn : m.ino[a]? = some n) : Right G { m with ino := m.ino.set a (newI n) } := by
  refine ⟨h.geo, h.rows, h.olen, h.own, h.ulen, h.used, by show ((m.ino.set a _).length : Int) = _; rw [List.length_set]; exact h.ilen, fun y hy => ?_⟩
  rcases List.mem_or_eq_of_mem_set hy with hy | hy
  · exact h.ino y hy
  · rw [hy]; exact right_newI (h.ino n (List.mem_of_getElem? hn))
theorem okm_ino {m : Met} (ho : Okm m) {a : Nat} {n : Inode.Ino} (hn : Inode.Oki n) : Okm { m with ino := m.ino.set a n } :=
  ⟨ho.rows, ho.own, fun x hx => by
    rcases List.mem_or_eq_of_mem_set hx with h | h
    · exact ho.ino x h
    · rw [h]; exact hn⟩
theorem one_node {G : Geo} {m : Met} (h : Right G m) (ho : Okm m) {a : Nat} {n : Inode.Ino} (hn : m.ino[a]? = some n) : OneAt (secs m) (secs { m with ino := m.ino.set a (newI n) }) (secs m).length (3 + a / 2) := by
  have hla := (List.getElem?_eq_some_iff.1 hn).1
  have hmem := List.mem_of_getElem? hn
  have hlp := length_pairs h.even
  have hev := h.even
  refine oneAt_of h ho (right_ino h hn) (okm_ino ho (oki_newI (ho.ino n hmem))) _ (by show 3 + a / 2 < (pairs m.ino).length + 1 + 1 + 1; omega) (fun t ht => ?_) (fun he => ?_)
  · match t with
    | 0 => rfl
    | 1 => rfl
    | 2 => rfl
    | t + 3 =>
      show (pairs m.ino)[t]? = (pairs (m.ino.set a (newI n)))[t]?
      exact (pairs_set (by omega)).symm
  · have h3 : (m.ino.set a (newI n))[a]? = some (newI n) := List.getElem?_set_self hla
    have h4 : m.ino = m.ino.set a (newI n) := congrArg Met.ino he
    rw [← h4, hn] at h3
    injection h3 with h3
    exact newI_ne (h.ino n hmem) h3.symm
/-- What is known, one number another one. -/
theorem OwnM.owner {u : World} {b g : Nat} {x : Mem} {m : Met} (h : OwnM u b x m) (hx : x.oA = some ⟨g, 0, none⟩) (a : Nat) (v : Int) : OwnM (u.setCell ⟨g, a, none⟩ (.int .i64 v)) b x { m with own := m.own.set a v } ∧ b ≤ g := by
  have ho := h.own
  rw [hx] at ho
  obtain ⟨h1, hg⟩ := ho.stored a (.int .i64 v)
  rw [intV_set] at h1
  exact ⟨⟨h.rows.kept hg (own_ne h.rows ho (by decide)), by rw [hx]; simpa using h1, h.used.kept hg (own_ne h.used ho (by decide)), h.ino.kept hg (own_ne h.ino ho (by decide))⟩, (ho.lt g rfl).1⟩
theorem OwnM.byte {u : World} {b g : Nat} {x : Mem} {m : Met} (h : OwnM u b x m) (hx : x.uA = some ⟨g, 0, none⟩) (a : Nat) (v : UInt8) : OwnM (u.setCell ⟨g, a, none⟩ (.int .u8 (v.toNat : Int))) b x { m with used := m.used.set a v } ∧ b ≤ g := by
  have ho := h.used
  rw [hx] at ho
  obtain ⟨h1, hg⟩ := ho.stored a (.int .u8 (v.toNat : Int))
  rw [byteV_set] at h1
  exact ⟨⟨h.rows.kept hg (own_ne h.rows ho (by decide)), h.own.kept hg (own_ne h.own ho (by decide)), by rw [hx]; simpa using h1, h.ino.kept hg (own_ne h.ino ho (by decide))⟩, (ho.lt g rfl).1⟩
theorem OwnM.inode {u : World} {b g : Nat} {x : Mem} {m : Met} (h : OwnM u b x m) (hm : ∀ n ∈ m.ino, Inode.Oki n) (hx : x.iA = some ⟨g, 0, none⟩) {a : Nat} (ha : a < m.ino.length) {n : Inode.Ino} (hn : Inode.Oki n) : OwnM (u.setCells g (a * 14) (Inode.cellsI n)) b x { m with ino := m.ino.set a n } ∧ b ≤ g := by
  have ho := h.ino
  rw [hx] at ho
  obtain ⟨h1, hg⟩ := stored_many (Inode.cellsI n) u (a * 14) _ ho
  rw [inosV_put hm hn ha] at h1
  exact ⟨⟨h.rows.kept hg (own_ne h.rows ho (by decide)), h.own.kept hg (own_ne h.own ho (by decide)), h.used.kept hg (own_ne h.used ho (by decide)), by rw [hx]; simpa using h1⟩, (ho.lt g rfl).1⟩
end Meta
end Go.Proofs.Ytaflpigpeckhoaa
