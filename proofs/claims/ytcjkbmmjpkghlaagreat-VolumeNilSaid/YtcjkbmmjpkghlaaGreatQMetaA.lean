/-
  What is known of a disk, on paper: rows, owners, bits, inodes; which of it may be; its sectors; and what is known by sectors.
-/
import Derived.Test.YtcjkbmmjpkghlaaGreatQSuper
import Derived.Test.YtcjkbmmjpkghlaaGreatQInternB
import Derived.Test.YtcjkbmmjpkghlaaGreatQInodeA
import Derived.Test.YtcjkbmmjpkghlaaGreatQBits
import Derived.Deep.MidRow
import Derived.Test.YtcjkbmmjpkghlaaGreatQF
import Derived.Laws.OwnMore
namespace Go.Proofs.YtcjkbmmjpkghlaaGreat.Meta
open Go.Proofs.YtcjkbmmjpkghlaaGreat
open Go.RowKit

structure Met where
  rows : List Intern.Rw
  own : List Int
  used : List UInt8
  ino : List Inode.Ino
def Met.z : Met := ⟨[], [], [], []⟩
theorem Met.ext' {a b : Met} (h1 : a.rows = b.rows) (h2 : a.own = b.own) (h3 : a.used = b.used) (h4 : a.ino = b.ino) : a = b := by
  cases a; cases b; simp_all
/-- What holds of each that can be in memory. -/
structure Okm (m : Met) : Prop where
  rows : Intern.Oks m.rows
  own : ∀ x ∈ m.own, -9223372036854775808 ≤ x ∧ x ≤ 9223372036854775807
  ino : ∀ n ∈ m.ino, Inode.Oki n
theorem Okm.z : Okm .z := ⟨fun _ h => (by cases h), fun _ h => (by cases h), fun _ h => (by cases h)⟩
/-- A parting of a disk: its journal, inodes, groups, blocks of a group. -/
structure Geo where
  j : Int
  i : Int
  g : Int
  p : Int
def Geo.Ok (G : Geo) : Prop := Super.Valid G.j G.i G.g G.p
structure Right (G : Geo) (m : Met) : Prop where
  geo : G.Ok
  rows : Intern.Right m.rows
  olen : (m.own.length : Int) = G.g
  own : ∀ x ∈ m.own, 0 ≤ x ∧ x ≤ 16
  ulen : m.used.length = 64
  used : ∀ k : Nat, G.g * G.p ≤ (k : Int) → k < 512 → Bits.hb m.used k = false
  ilen : (m.ino.length : Int) = G.i
  ino : ∀ n ∈ m.ino, Inode.Right n
noncomputable def rightB (G : Geo) (m : Met) : Bool := Inode.decB (Right G m)
theorem rightB_yes {G : Geo} {m : Met} (h : Right G m) : rightB G m = true := Inode.decB_yes h
theorem rightB_no {G : Geo} {m : Met} (h : ¬ Right G m) : rightB G m = false := Inode.decB_no h

/-- The owners' bytes. -/
def ownL (l : List Int) : List UInt8 := l.map fun x => UInt8.ofNat x.toNat
theorem length_ownL (l : List Int) : (ownL l).length = l.length := by simp [ownL]
theorem ownL_inj {l m : List Int} (hl : ∀ x ∈ l, 0 ≤ x ∧ x ≤ 16) (hm : ∀ x ∈ m, 0 ≤ x ∧ x ≤ 16) (h : ownL l = ownL m) : l = m := by
  induction l generalizing m with
  | nil =>
    cases m with
    | nil => rfl
    | cons y m => simp [ownL] at h
  | cons x l ih =>
    cases m with
    | nil => simp [ownL] at h
    | cons y m =>
      have h1 : UInt8.ofNat x.toNat = UInt8.ofNat y.toNat ∧ ownL l = ownL m := by simpa [ownL] using h
      have hx := hl x (by simp)
      have hy := hm y (by simp)
      have h2 := congrArg UInt8.toNat h1.1
      simp at h2
      have e : x = y := by omega
      rw [e, ih (fun z hz => hl z (by simp [hz])) (fun z hz => hm z (by simp [hz])) h1.2]
/-- Two inodes in a sector. -/
def pairs : List Inode.Ino → List (List UInt8)
  | a :: b :: l => (Inode.bytesI a ++ Inode.bytesI b) :: pairs l
  | [a] => [Inode.bytesI a]
  | [] => []
theorem pairs_at {l : List Inode.Ino} {i : Nat} (hl : l.length % 2 = 0) (h : i < l.length) : ∃ a b, l[2 * (i / 2)]? = some a ∧ l[2 * (i / 2) + 1]? = some b ∧ (pairs l)[i / 2]? = some (Inode.bytesI a ++ Inode.bytesI b) := by
  induction l using pairs.induct generalizing i with
  | case1 a b l ih =>
    by_cases h2 : i < 2
    · have e : i / 2 = 0 := by omega
      rw [e]
      exact ⟨a, b, rfl, rfl, rfl⟩
    · have hl' : l.length % 2 = 0 := by simp at hl; omega
      have hi : i - 2 < l.length := by simp at h; omega
      obtain ⟨c, d, h3, h4, h5⟩ := ih (i := i - 2) hl' hi
      have e : i / 2 = (i - 2) / 2 + 1 := by omega
      have e2 : 2 * (i / 2) = 2 * ((i - 2) / 2) + 1 + 1 := by omega
      rw [e2, e]
      exact ⟨c, d, h3, h4, h5⟩
  | case2 a => simp at hl
  | case3 => simp at h
theorem length_pairs {l : List Inode.Ino} (hl : l.length % 2 = 0) : (pairs l).length = l.length / 2 := by
  induction l using pairs.induct with
  | case1 a b l ih =>
    show (pairs l).length + 1 = (l.length + 1 + 1) / 2
    rw [ih (by simp at hl; omega)]
    omega
  | case2 a => simp at hl
  | case3 => rfl
theorem pairs_len {l : List Inode.Ino} (hl : l.length % 2 = 0) (ho : ∀ n ∈ l, Inode.Oki n) : ∀ s ∈ pairs l, s.length = 64 := by
  induction l using pairs.induct with
  | case1 a b l ih =>
    intro s hs
    have hs : s = Inode.bytesI a ++ Inode.bytesI b ∨ s ∈ pairs l := by simpa [pairs] using hs
    rcases hs with rfl | hs
    · rw [List.length_append, Inode.length_bytesI (ho a (by simp)), Inode.length_bytesI (ho b (by simp))]
    · exact ih (by simp at hl; omega) (fun n hn => ho n (by simp [hn])) s hs
  | case2 a => simp at hl
  | case3 => intro s hs; simp [pairs] at hs
theorem pairs_snoc {l : List Inode.Ino} {a b : Inode.Ino} (hl : l.length % 2 = 0) : pairs (l ++ [a, b]) = pairs l ++ [Inode.bytesI a ++ Inode.bytesI b] := by
  induction l using pairs.induct with
  | case1 c d l ih =>
    show _ :: pairs (l ++ [a, b]) = _
    rw [ih (by simp at hl; omega)]
    rfl
  | case2 c => simp at hl
  | case3 => rfl
theorem bytesI_inj {a b : Inode.Ino} (ha : Inode.Right a) (oa : Inode.Oki a) (hb : Inode.Right b) (ob : Inode.Oki b) (h : Inode.bytesI a = Inode.bytesI b) : a = b := by
  have h1 := Inode.tak_lay ha oa
  have h2 := Inode.tak_lay hb ob
  rw [h, h2] at h1
  injection h1 with h1
  exact h1.symm
theorem pairs_inj {l m : List Inode.Ino} (hl : l.length % 2 = 0) (hlen : l.length = m.length) (rl : ∀ n ∈ l, Inode.Right n) (ol : ∀ n ∈ l, Inode.Oki n) (rm : ∀ n ∈ m, Inode.Right n) (om : ∀ n ∈ m, Inode.Oki n) (h : pairs l = pairs m) : l = m := by
  induction l using pairs.induct generalizing m with
  | case1 a b l ih =>
    match m, hlen with
    | c :: d :: m, hlen =>
      have h1 : Inode.bytesI a ++ Inode.bytesI b = Inode.bytesI c ++ Inode.bytesI d ∧ pairs l = pairs m := by simpa [pairs] using h
      obtain ⟨h2, h3⟩ := List.append_inj h1.1 (by rw [Inode.length_bytesI (ol a (by simp)), Inode.length_bytesI (om c (by simp))])
      rw [bytesI_inj (rl a (by simp)) (ol a (by simp)) (rm c (by simp)) (om c (by simp)) h2, bytesI_inj (rl b (by simp)) (ol b (by simp)) (rm d (by simp)) (om d (by simp)) h3,
        ih (by simp at hl; omega) (by simpa using hlen) (fun n hn => rl n (by simp [hn])) (fun n hn => ol n (by simp [hn])) (fun n hn => rm n (by simp [hn])) (fun n hn => om n (by simp [hn])) h1.2]
  | case2 a => simp at hl
  | case3 =>
    have : m = [] := List.eq_nil_of_length_eq_zero (by simpa using hlen.symm)
    rw [this]

/-- The sectors. -/
def secs (m : Met) : List (List UInt8) := Intern.bytesOf m.rows :: padl (ownL m.own) 64 :: m.used :: pairs m.ino
theorem Right.even {G : Geo} {m : Met} (h : Right G m) : m.ino.length % 2 = 0 := by
  have h1 := h.ilen
  have h2 := h.geo.i3
  omega
theorem Right.own64 {G : Geo} {m : Met} (h : Right G m) : m.own.length ≤ 64 := by
  have h1 := h.olen
  have h2 := h.geo.g2
  omega
theorem Right.ino64 {G : Geo} {m : Met} (h : Right G m) : m.ino.length ≤ 64 := by
  have h1 := h.ilen
  have h2 := h.geo.i2
  omega
theorem length_secs {G : Geo} {m : Met} (h : Right G m) : ((secs m).length : Int) = 3 + G.i / 2 := by
  have h1 := length_pairs h.even
  have h2 := h.ilen
  show (((pairs m.ino).length + 1 + 1 + 1 : Nat) : Int) = _
  rw [h1]
  omega
theorem secs_64 {G : Geo} {m : Met} (h : Right G m) (ho : Okm m) : ∀ s ∈ secs m, s.length = 64 := by
  intro s hs
  have hs : s = Intern.bytesOf m.rows ∨ s = padl (ownL m.own) 64 ∨ s = m.used ∨ s ∈ pairs m.ino := by simpa [secs] using hs
  rcases hs with rfl | rfl | rfl | hs
  · rw [Intern.length_bytesOf, h.rows.len]
  · exact length_padl _ _ (by rw [length_ownL]; exact h.own64)
  · exact h.ulen
  · exact pairs_len h.even ho.ino s hs
theorem padl_inj {a b : List UInt8} (hl : a.length = b.length) (h : padl a 64 = padl b 64) : a = b := by
  unfold padl at h
  exact (List.append_inj h hl).1
theorem secs_inj {G : Geo} {m n : Met} (hm : Right G m) (om : Okm m) (hn : Right G n) (on : Okm n) (h : secs m = secs n) : m = n := by
  injection h with h1 h2
  injection h2 with h2 h3
  injection h3 with h3 h4
  have e1 := hm.olen
  have e2 := hn.olen
  have e3 := hm.ilen
  have e4 := hn.ilen
  exact Met.ext' (Intern.bytes_inj hm.rows om.rows hn.rows on.rows h1) (ownL_inj hm.own hn.own (padl_inj (by rw [length_ownL, length_ownL]; omega) h2)) h3
    (pairs_inj hm.even (by omega) hm.ino om.ino hn.ino on.ino h4)

/-! What each call answers. -/
noncomputable def layM (G : Geo) (m : Met) : List (List UInt8) × Nat := if rightB G m then (secs m, 0) else ([], 1)
theorem lay_yes {G : Geo} {m : Met} (h : Right G m) : layM G m = (secs m, 0) := by unfold layM; rw [rightB_yes h]; rfl
theorem lay_no {G : Geo} {m : Met} (h : ¬ Right G m) : layM G m = ([], 1) := by unfold layM; rw [rightB_no h]; rfl
noncomputable def takM (G : Geo) (l : List (List UInt8)) : Met × Nat := @dite _ (∃ m, Right G m ∧ Okm m ∧ secs m = l) (Classical.propDecidable _) (fun h => (h.choose, 0)) fun _ => (.z, 140)
theorem tak_secs {G : Geo} {m : Met} (h : Right G m) (ho : Okm m) : takM G (secs m) = (m, 0) := by
  unfold takM
  have hx : ∃ n, Right G n ∧ Okm n ∧ secs n = secs m := ⟨m, h, ho, rfl⟩
  rw [dif_pos hx]
  have := hx.choose_spec
  rw [secs_inj this.1 this.2.1 h ho this.2.2]
theorem tak_yes {G : Geo} {m : Met} {l : List (List UInt8)} (h : Right G m) (ho : Okm m) (hl : secs m = l) : takM G l = (m, 0) := hl ▸ tak_secs h ho
theorem tak_no {G : Geo} {l : List (List UInt8)} (h : ¬ ∃ m, Right G m ∧ Okm m ∧ secs m = l) : takM G l = (.z, 140) := by
  unfold takM
  rw [dif_neg h]
theorem tak_or (G : Geo) (l : List (List UInt8)) : (∃ m, Right G m ∧ Okm m ∧ secs m = l ∧ takM G l = (m, 0)) ∨ (takM G l = (.z, 140) ∧ ¬ ∃ m, Right G m ∧ Okm m ∧ secs m = l) := by
  by_cases h : ∃ m, Right G m ∧ Okm m ∧ secs m = l
  · obtain ⟨m, h1, h2, h3⟩ := h
    exact .inl ⟨m, h1, h2, h3, tak_yes h1 h2 h3⟩
  · exact .inr ⟨tak_no h, h⟩

/-! What is known of a new disk. -/
def newM (G : Geo) : Met := ⟨List.replicate 16 .z, List.replicate G.g.toNat 0, List.replicate 64 0, List.replicate G.i.toNat .z⟩
theorem newM_okm (G : Geo) : Okm (newM G) :=
  ⟨fun r hr => by rw [List.eq_of_mem_replicate hr]; exact ⟨by decide, by decide, by decide⟩, fun x hx => by rw [List.eq_of_mem_replicate hx]; decide, fun n hn => by rw [List.eq_of_mem_replicate hn]; exact .z⟩
theorem hb_zeros (n k : Nat) : Bits.hb (List.replicate n 0) k = false := by
  unfold Bits.hb
  rw [List.getD_eq_getElem?_getD, List.getElem?_replicate]
  split <;> simp
theorem newM_right {G : Geo} (h : G.Ok) : Right G (newM G) where
  geo := h
  rows := {
    len := by simp [newM]
    fits := fun i r hr => by
      have e : r = Intern.Rw.z := List.eq_of_mem_replicate (List.mem_of_getElem? hr)
      rw [e]
      rfl
    one := fun i k r s hr _ h0 => by
      have e : r = Intern.Rw.z := List.eq_of_mem_replicate (List.mem_of_getElem? hr)
      rw [e] at h0
      exact absurd rfl h0 }
  olen := by have := h.g1; simp [newM]; omega
  own := fun x hx => by rw [List.eq_of_mem_replicate hx]; decide
  ulen := by simp [newM]
  used := fun k _ _ => hb_zeros 64 k
  ilen := by have := h.i1; simp [newM]; omega
  ino := fun n hn => by rw [List.eq_of_mem_replicate hn]; exact .inl rfl
def zero64 : List UInt8 := List.replicate 64 0
theorem bytesI_z : Inode.bytesI .z = List.replicate 32 0 := by decide
theorem pairs_z (k : Nat) : pairs (List.replicate (2 * k) .z) = List.replicate k zero64 := by
  induction k with
  | zero => rfl
  | succ k ih =>
    have e : 2 * (k + 1) = 2 * k + 1 + 1 := by omega
    rw [e, List.replicate_succ, List.replicate_succ, List.replicate_succ, ← ih]
    show (Inode.bytesI .z ++ Inode.bytesI .z) :: _ = _
    rw [bytesI_z]
    rfl
theorem secs_new {G : Geo} (h : G.Ok) : secs (newM G) = List.replicate (3 + (G.i / 2).toNat) zero64 := by
  have h1 := h.i1
  have h2 := h.i2
  have h3 := h.i3
  have h4 := h.g1
  have h5 := h.g2
  have e0 : Intern.bytesOf (List.replicate 16 .z) = zero64 := by decide
  have e1 : padl (ownL (List.replicate G.g.toNat 0)) 64 = zero64 := by
    have : ownL (List.replicate G.g.toNat 0) = List.replicate G.g.toNat 0 := by simp [ownL]
    rw [this]
    unfold padl zero64
    rw [List.length_replicate, List.replicate_append_replicate]
    congr 1
    omega
  have e2 : G.i.toNat = 2 * (G.i / 2).toNat := by omega
  show Intern.bytesOf (List.replicate 16 .z) :: padl (ownL (List.replicate G.g.toNat 0)) 64 :: zero64 :: pairs (List.replicate G.i.toNat .z) = _
  rw [e0, e1, e2, pairs_z, show 3 + (G.i / 2).toNat = (G.i / 2).toNat + 1 + 1 + 1 by omega, List.replicate_succ, List.replicate_succ, List.replicate_succ]
end Go.Proofs.YtcjkbmmjpkghlaaGreat.Meta

/-
  What is known of a disk, as it lies in memory: four slices; and lists of sectors, as they lie.
-/
namespace Go.Proofs.YtcjkbmmjpkghlaaGreat.Meta
open Go.Proofs.YtcjkbmmjpkghlaaGreat
open Go.RowKit

/-- The cells of inodes, one behind the other. -/
def inosV (l : List Inode.Ino) : List Value := l.flatMap Inode.cellsI
theorem inosV_cons (n : Inode.Ino) (l : List Inode.Ino) : inosV (n :: l) = Inode.cellsI n ++ inosV l := by simp [inosV]
theorem inosV_append (l m : List Inode.Ino) : inosV (l ++ m) = inosV l ++ inosV m := by simp [inosV]
theorem length_inosV {l : List Inode.Ino} (ho : ∀ n ∈ l, Inode.Oki n) : (inosV l).length = l.length * 14 := by
  induction l with
  | nil => rfl
  | cons n l ih =>
    rw [inosV_cons, List.length_append, Inode.length_cellsI (ho n (by simp)), ih fun m hm => ho m (by simp [hm]), List.length_cons]
    omega
theorem inosV_at {l : List Inode.Ino} (ho : ∀ n ∈ l, Inode.Oki n) {i : Nat} {n : Inode.Ino} (h : l[i]? = some n) {j : Nat} {u : Value} (hu : (Inode.cellsI n)[j]? = some u) : (inosV l)[i * 14 + j]? = some u := by
  induction l generalizing i with
  | nil => simp at h
  | cons m l ih =>
    have hl := Inode.length_cellsI (ho m (by simp))
    rw [inosV_cons]
    cases i with
    | zero =>
      obtain rfl : m = n := by simpa using h
      have hj := (List.getElem?_eq_some_iff.1 hu).1
      rw [List.getElem?_append_left (by omega), show 0 * 14 + j = j by omega]
      exact hu
    | succ i =>
      rw [List.getElem?_append_right (by omega), show (i + 1) * 14 + j - (Inode.cellsI m).length = i * 14 + j by omega]
      exact ih (fun k hk => ho k (by simp [hk])) (by simpa using h)
theorem rd_ino {w : World} {B b o : Nat} {l : List Inode.Ino} (h : Rd w B (some ⟨b, o, none⟩) (inosV l)) (ho : ∀ n ∈ l, Inode.Oki n) {i : Nat} {n : Inode.Ino} (hi : l[i]? = some n) : w.rangeAt b (o + i * 14) (Inode.cellsI n) := by
  intro j u hu
  have hg := inosV_at ho hi hu
  rcases h with h | ⟨b', o', h1, _, h3⟩
  · rw [h] at hg; simp at hg
  · injection h1 with h1
    injection h1 with h1 h2 _
    subst h1 h2
    rw [Nat.add_assoc]
    exact h3 _ u hg
theorem rd_first {w : World} {B : Nat} {A : Option Addr} {xs : List Value} (h : Rd w B A xs) (hl : 0 < xs.length) : ∃ b o, A = some ⟨b, o, none⟩ ∧ b < B := by
  rcases h with h | ⟨b, o, h1, h2, _⟩
  · rw [h] at hl; simp at hl
  · exact ⟨b, o, h1, h2⟩
theorem rd_int {w : World} {B b o : Nat} {l : List Int} (h : Rd w B (some ⟨b, o, none⟩) (Inode.intsV l)) {i : Nat} {x : Int} (hi : l[i]? = some x) : w.cell? ⟨b, o + i, none⟩ = some (.int .i64 x) := by
  have hg : (Inode.intsV l)[i]? = some (.int .i64 x) := by simp [Inode.intsV, hi]
  rcases h with h | ⟨b', o', h1, _, h3⟩
  · rw [h] at hg; simp at hg
  · injection h1 with h1
    injection h1 with h1 h2 _
    subst h1 h2
    exact h3 i _ hg

/-- Where the four slices lie. -/
structure Mem where
  rA : Option Addr
  rc : Nat
  oA : Option Addr
  oc : Nat
  uA : Option Addr
  uc : Nat
  iA : Option Addr
  ic : Nat
def cellsM (x : Mem) (m : Met) : List Value := [.slice x.rA m.rows.length x.rc, .slice x.oA m.own.length x.oc, .slice x.uA m.used.length x.uc, .slice x.iA m.ino.length x.ic]
def Mem.v (x : Mem) (m : Met) : Value := .agg #[.slice x.rA m.rows.length x.rc, .slice x.oA m.own.length x.oc, .slice x.uA m.used.length x.uc, .slice x.iA m.ino.length x.ic]
structure Lies (w : World) (B : Nat) (x : Mem) (m : Met) : Prop where
  rows : Rd w B x.rA (Intern.rowsV m.rows)
  own : Rd w B x.oA (Inode.intsV m.own)
  used : Rd w B x.uA (bytesV m.used)
  ino : Rd w B x.iA (inosV m.ino)
  rc : m.rows.length ≤ x.rc ∧ x.rc ≤ maxLen
  oc : m.own.length ≤ x.oc ∧ x.oc ≤ maxLen
  uc : m.used.length ≤ x.uc ∧ x.uc ≤ maxLen
  ic : m.ino.length ≤ x.ic ∧ x.ic ≤ maxLen
theorem Lies.below {w w' : World} {B : Nat} {x : Mem} {m : Met} (h : Lies w B x m) (hb : Below B w w') : Lies w' B x m :=
  ⟨h.rows.below hb, h.own.below hb, h.used.below hb, h.ino.below hb, h.rc, h.oc, h.uc, h.ic⟩
theorem Lies.more {w : World} {B B' : Nat} {x : Mem} {m : Met} (h : Lies w B x m) (hb : B ≤ B') : Lies w B' x m :=
  ⟨h.rows.more hb, h.own.more hb, h.used.more hb, h.ino.more hb, h.rc, h.oc, h.uc, h.ic⟩
theorem Lies.later {w w' : World} {x : Mem} {m : Met} (h : Lies w w.heap.size x m) (hb : Below w.heap.size w w') : Lies w' w'.heap.size x m := (h.below hb).more hb.size

/-- A list of sectors, as it lies: where each one is. -/
structure Sc where
  A : Option Addr
  c : Nat
def secV (p : Sc × List UInt8) : Value := .slice p.1.A p.2.length p.1.c
def secsV (L : List Sc) (l : List (List UInt8)) : List Value := (L.zip l).map secV
theorem length_secsV {L : List Sc} {l : List (List UInt8)} (h : L.length = l.length) : (secsV L l).length = l.length := by simp [secsV, h]
theorem secsV_one (L : List Sc) (l : List (List UInt8)) : ∀ u ∈ secsV L l, u.oneCell' = true := by
  intro u hu
  simp only [secsV, List.mem_map] at hu
  obtain ⟨p, _, rfl⟩ := hu
  rfl
theorem secsV_snoc {L : List Sc} {l : List (List UInt8)} (h : L.length = l.length) (s : Sc) (b : List UInt8) : secsV (L ++ [s]) (l ++ [b]) = secsV L l ++ [.slice s.A b.length s.c] := by
  unfold secsV
  rw [List.zip_append h, List.map_append]
  rfl
structure SecsAt (w : World) (B : Nat) (A : Option Addr) (L : List Sc) (l : List (List UInt8)) : Prop where
  len : L.length = l.length
  rd : Rd w B A (secsV L l)
  each : ∀ (i : Nat) (s : Sc) (b : List UInt8), L[i]? = some s → l[i]? = some b → Rd w B s.A (bytesV b) ∧ b.length ≤ s.c ∧ s.c ≤ maxLen
theorem SecsAt.below {w w' : World} {B : Nat} {A : Option Addr} {L : List Sc} {l : List (List UInt8)} (h : SecsAt w B A L l) (hb : Below B w w') : SecsAt w' B A L l :=
  ⟨h.len, h.rd.below hb, fun i s b h1 h2 => ⟨(h.each i s b h1 h2).1.below hb, (h.each i s b h1 h2).2⟩⟩
theorem SecsAt.more {w : World} {B B' : Nat} {A : Option Addr} {L : List Sc} {l : List (List UInt8)} (h : SecsAt w B A L l) (hb : B ≤ B') : SecsAt w B' A L l :=
  ⟨h.len, h.rd.more hb, fun i s b h1 h2 => ⟨(h.each i s b h1 h2).1.more hb, (h.each i s b h1 h2).2⟩⟩
theorem SecsAt.later {w w' : World} {A : Option Addr} {L : List Sc} {l : List (List UInt8)} (h : SecsAt w w.heap.size A L l) (hb : Below w.heap.size w w') : SecsAt w' w'.heap.size A L l := (h.below hb).more hb.size
/-- One of them: where it lies, and its slice's cell. -/
theorem SecsAt.get {w : World} {B b o : Nat} {L : List Sc} {l : List (List UInt8)} (h : SecsAt w B (some ⟨b, o, none⟩) L l) {i : Nat} {x : List UInt8} (hx : l[i]? = some x) :
    ∃ s : Sc, L[i]? = some s ∧ w.cell? ⟨b, o + i, none⟩ = some (.slice s.A x.length s.c) ∧ Rd w B s.A (bytesV x) ∧ x.length ≤ s.c ∧ s.c ≤ maxLen := by
  have hi := (List.getElem?_eq_some_iff.1 hx).1
  obtain ⟨s, hs⟩ : ∃ s, L[i]? = some s := ⟨_, List.getElem?_eq_getElem (by rw [h.len]; exact hi)⟩
  refine ⟨s, hs, ?_, h.each i s x hs hx⟩
  have hg : (secsV L l)[i]? = some (.slice s.A x.length s.c) := by
    unfold secsV
    rw [List.getElem?_map, (List.getElem?_zip_eq_some (z := (s, x))).2 ⟨hs, hx⟩]
    rfl
  rcases h.rd with h0 | ⟨b', o', h1, _, h3⟩
  · rw [h0] at hg; simp at hg
  · injection h1 with h1
    injection h1 with h1 h2 _
    subst h1 h2
    exact h3 i _ hg
theorem SecsAt.first {w : World} {B : Nat} {A : Option Addr} {L : List Sc} {l : List (List UInt8)} (h : SecsAt w B A L l) (hl : 0 < l.length) : ∃ b o, A = some ⟨b, o, none⟩ ∧ b < B :=
  rd_first h.rd (by rw [length_secsV h.len]; exact hl)
/-- Four cells of a block. -/
theorem four_cells {w : World} {g : Nat} {e : TypeId} {a0 a1 a2 a3 : Value} (h : Bk w g e [a0, a1, a2, a3]) : w.cell? ⟨g, 0, none⟩ = some a0 ∧ w.cell? ⟨g, 1, none⟩ = some a1 ∧ w.cell? ⟨g, 2, none⟩ = some a2 ∧ w.cell? ⟨g, 3, none⟩ = some a3 :=
  ⟨h.cell 0, h.cell 1, h.cell 2, h.cell 3⟩
end Go.Proofs.YtcjkbmmjpkghlaaGreat.Meta

/-
  Lists of sectors that are all the call's own: what append and later calls make of them.
-/
namespace Go.Proofs.YtcjkbmmjpkghlaaGreat.Meta
open Go.Proofs.YtcjkbmmjpkghlaaGreat
open Go.RowKit

/-- Rows of unlike elements are never the same block. -/
theorem own_ne {w : World} {b1 b2 : Nat} {e1 e2 : TypeId} {s1 s2 n1 n2 : Nat} {v1 v2 : Value} {x1 x2 : List Value} (h1 : w.ownsRow b1 e1 s1 v1 n1 x1) (h2 : w.ownsRow b2 e2 s2 v2 n2 x2) (hne : e1 ≠ e2) : v1.ownBlock = none ∨ v1.ownBlock ≠ v2.ownBlock := by
  rcases h1.2 with ⟨rfl, _⟩ | ⟨g1, c1, cur1, rfl, _, hg1, _⟩
  · exact .inl rfl
  · rcases h2.2 with ⟨rfl, _⟩ | ⟨g2, c2, cur2, rfl, _, hg2, _⟩
    · exact .inr (by simp [Value.ownBlock])
    · refine .inr fun h => hne ?_
      have e : g1 = g2 := by simpa [Value.ownBlock] using h
      subst e
      rw [hg1] at hg2
      simp only [Option.some.injEq, Obj.cells.injEq] at hg2
      exact hg2.2.1
theorem own_lt {w : World} {base : Nat} {e : TypeId} {s n : Nat} {v : Value} {xs : List Value} (h : w.ownsRow base e s v n xs) : ∀ k, v.ownBlock = some k → base ≤ k ∧ k < w.heap.size := fun k hk => h.lt k hk

structure SecsOwn (w : World) (base : Nat) (v : Value) (L : List Sc) (l : List (List UInt8)) : Prop where
  len : L.length = l.length
  row : w.ownsRow base 37 1 v l.length (secsV L l)
  each : ∀ (i : Nat) (s : Sc) (b : List UInt8), L[i]? = some s → l[i]? = some b → w.ownsRow base 5 1 (.slice s.A b.length s.c) b.length (bytesV b)
theorem SecsOwn.nil (w : World) (base : Nat) : SecsOwn w base (.slice none 0 0) [] [] := ⟨rfl, World.ownsRow_nil _ _ _ _, fun i s b h => by simp at h⟩
theorem SecsOwn.below {w w' : World} {base : Nat} {v : Value} {L : List Sc} {l : List (List UInt8)} (h : SecsOwn w base v L l) (hb : Below w.heap.size w w') : SecsOwn w' base v L l :=
  ⟨h.len, own_below h.row hb, fun i s b h1 h2 => own_below (h.each i s b h1 h2) hb⟩
theorem SecsOwn.base {w : World} {base base' : Nat} {v : Value} {L : List Sc} {l : List (List UInt8)} (h : SecsOwn w base v L l) (hb : base' ≤ base) : SecsOwn w base' v L l :=
  ⟨h.len, own_mono h.row hb, fun i s b h1 h2 => own_mono (h.each i s b h1 h2) hb⟩
theorem SecsOwn.at_ {w : World} {base : Nat} {A : Option Addr} {n c : Nat} {L : List Sc} {l : List (List UInt8)} (h : SecsOwn w base (.slice A n c) L l) : n = l.length ∧ l.length ≤ c ∧ c ≤ maxLen ∧ SecsAt w w.heap.size A L l := by
  obtain ⟨_, A', c', hv, hc, hm, hr⟩ := own_rd h.row
  injection hv with h1 h2 h3
  subst h1 h2 h3
  refine ⟨rfl, hc, hm, h.len, hr, fun i s b h1 h2 => ?_⟩
  obtain ⟨_, A2, c2, hv2, hc2, hm2, hr2⟩ := own_rd (h.each i s b h1 h2)
  injection hv2 with g1 g2 g3
  subst g1 g3
  exact ⟨hr2, hc2, hm2⟩
theorem SecsOwn.slice {w : World} {base : Nat} {v : Value} {L : List Sc} {l : List (List UInt8)} (h : SecsOwn w base v L l) : ∃ A c, v = .slice A l.length c := by
  obtain ⟨_, A, c, hv, _⟩ := own_rd h.row
  exact ⟨A, c, hv⟩
theorem info_bytes : (Tryz.prog.info? 37).map (fun i => (i.zero, i.size, i.bytes)) = some (some (.slice none 0 0), 1, 24) := by kernel_rfl
/-- append of a sector, behind sectors of the call's own. -/
theorem wpList_sec (w : World) {ops : Array Oper} {rest : List Oper} {o : Oper} {a : Act} {Q : Exit → Act → World → Prop} (hgd : o.guard = none) (s x : Operand)
    (ho : o.op = .call { callee := .builtin .append, args := #[s, x], argTypes := #[100, 100] })
    (base : Nat) (v : Value) (L : List Sc) (l : List (List UInt8)) (hs : a.eval s = v) (hown : SecsOwn w base v L l)
    (g : Nat) (S : Sc) (b : List UInt8) (nb : Nat) (hnb : b.length = nb) (hx : a.eval x = .slice (some ⟨g, 0, none⟩) 1 1) (hc : w.cell? ⟨g, 0, none⟩ = some (.slice S.A nb S.c)) (hb : w.ownsRow base 5 1 (.slice S.A nb S.c) nb (bytesV b))
    (h63 : l.length ≤ 100000) (hbase : base ≤ w.heap.size)
    (h : ∀ v' w', SecsOwn w' base v' (L ++ [S]) (l ++ [b]) → w.grownBy w' v.ownBlock → wpList Tryz.prog ops Q rest (a.put o.dst v') w') : wpList Tryz.prog ops Q (o :: rest) a w := by
  subst hnb
  obtain ⟨i0, hi, hz0, hz1, hz2⟩ := info_parts info_bytes
  have hrd : Rd w (g + 1) (some ⟨g, 0, none⟩) [.slice S.A b.length S.c] := .inr ⟨g, 0, rfl, Nat.lt_succ_self g, fun j u hu => by
    cases j with
    | zero =>
      have e : Value.slice S.A b.length S.c = u := by simpa using hu
      rw [← e]; exact hc
    | succ j => simp at hu⟩
  refine wpList_app w hgd s x 100 ho base 37 i0 _ 24 Tryz.underlying100 hi hz0 hz1 hz2 rfl v l.length (secsV L l) hs hown.row (g + 1) _ 1 1 [.slice S.A b.length S.c] hx rfl hrd (by
    intro u hu
    have e : u = Value.slice S.A b.length S.c := by simpa using hu
    rw [e]; rfl) (by unfold maxLen; omega) (by omega) hbase fun v' w' h1 h2 => h v' w' ⟨?_, ?_, ?_⟩ h2
  · simp [hown.len]
  · rw [List.length_append, List.length_singleton, secsV_snoc hown.len]
    exact h1
  · intro i s' b' g1 g2
    by_cases hi : i < l.length
    · rw [List.getElem?_append_left (by rw [hown.len]; exact hi)] at g1
      rw [List.getElem?_append_left hi] at g2
      exact (hown.each i s' b' g1 g2).kept h2 (own_ne (hown.each i s' b' g1 g2) hown.row (by decide))
    · have hi2 : i = l.length := by
        have := (List.getElem?_eq_some_iff.1 g2).1
        rw [List.length_append, List.length_singleton] at this
        omega
      rw [hi2, ← hown.len, List.getElem?_append_right (Nat.le_refl _), Nat.sub_self] at g1
      rw [hi2, List.getElem?_append_right (Nat.le_refl _), Nat.sub_self] at g2
      have e1 : S = s' := by simpa using g1
      have e2 : b = b' := by simpa using g2
      subst e1 e2
      exact hb.kept h2 (own_ne hb hown.row (by decide))
/-- What a call hands back that answers with sectors: a list of its own, of sectors of its own. -/
def HandsL (w : World) (r : List (List UInt8) × Nat) (e : Ending) (w' : World) : Prop :=
  ∃ v L, e = .returned (.tuple #[v, .int .i64 (r.2 : Int)]) ∧ SecsOwn w' w.heap.size v L r.1 ∧ Below w.heap.size w w'
theorem HandsL.got {w w' : World} {l : List (List UInt8)} {k : Nat} {e : Ending} (h : HandsL w (l, k) e w') : ∃ A c L, e = .returned (.tuple #[.slice A l.length c, .int .i64 (k : Int)]) ∧ SecsOwn w' w.heap.size (.slice A l.length c) L l ∧ l.length ≤ c ∧ c ≤ maxLen ∧ SecsAt w' w'.heap.size A L l ∧ Below w.heap.size w w' := by
  obtain ⟨v, L, he, ho, hb⟩ := h
  obtain ⟨A, c, rfl⟩ := ho.slice
  obtain ⟨-, h1, h2, h3⟩ := ho.at_
  exact ⟨A, c, L, he, ho, h1, h2, h3, hb⟩
end Go.Proofs.YtcjkbmmjpkghlaaGreat.Meta

/-
  What is taken of sectors, on paper: the pieces one by one, and that they are what is known wherever anything is.
-/
namespace Go.Proofs.YtcjkbmmjpkghlaaGreat.Meta
open Go.Proofs.YtcjkbmmjpkghlaaGreat
open Go.RowKit

def byI (b : UInt8) : Int := (b.toNat : Int)
def ownT (l : List UInt8) (n : Nat) : List Int := (l.take n).map byI
def half (l : List (List UInt8)) (i : Nat) : List UInt8 := ((l.getD (3 + i / 2) []).drop (32 * (i % 2))).take 32
noncomputable def inoT (l : List (List UInt8)) (n : Nat) : List Inode.Ino := (List.range n).map fun i => (Inode.takI (half l i)).1
theorem length_inoT (l : List (List UInt8)) (n : Nat) : (inoT l n).length = n := by simp [inoT]
theorem inoT_succ (l : List (List UInt8)) (n : Nat) : inoT l (n + 1) = inoT l n ++ [(Inode.takI (half l n)).1] := by simp [inoT, List.range_succ]
theorem length_ownT {l : List UInt8} {n : Nat} (h : n ≤ l.length) : (ownT l n).length = n := by simp [ownT]; omega
theorem ownT_succ {l : List UInt8} {n : Nat} {b : UInt8} (h : l[n]? = some b) : ownT l (n + 1) = ownT l n ++ [byI b] := by
  simp [ownT, List.take_add_one, h]
noncomputable def cand (G : Geo) (l : List (List UInt8)) : Met := ⟨(Intern.takR (l.getD 0 [])).rows, ownT (l.getD 1 []) G.g.toNat, l.getD 2 [], inoT l G.i.toNat⟩
theorem oki_takI (b : List UInt8) : Inode.Oki (Inode.takI b).1 := by
  unfold Inode.takI
  split
  · split
    · split
      · exact Inode.oki_unI b
      · exact .z
    · exact .z
  · exact .z
theorem inoT_oki (l : List (List UInt8)) (n : Nat) : ∀ m ∈ inoT l n, Inode.Oki m := by
  intro m hm
  simp only [inoT, List.mem_map] at hm
  obtain ⟨i, _, rfl⟩ := hm
  exact oki_takI _
theorem ownT_ok (l : List UInt8) (n : Nat) : ∀ x ∈ ownT l n, -9223372036854775808 ≤ x ∧ x ≤ 9223372036854775807 := by
  intro x hx
  simp only [ownT, List.mem_map] at hx
  obtain ⟨b, _, rfl⟩ := hx
  have := UInt8.toNat_lt b
  unfold byI
  omega
theorem cand_okm {G : Geo} {l : List (List UInt8)} (h : (Intern.takR (l.getD 0 [])).err = 0) : Okm (cand G l) :=
  ⟨(Intern.takR_some h).2.2.1, ownT_ok _ _, inoT_oki _ _⟩
theorem ownT_ownL {l : List Int} (h : ∀ x ∈ l, 0 ≤ x ∧ x ≤ 16) (n : Nat) (hn : l.length = n) : ownT (padl (ownL l) 64) n = l := by
  subst hn
  unfold ownT padl
  rw [List.take_append_of_le_length (by rw [length_ownL]; exact Nat.le_refl _), List.take_of_length_le (by rw [length_ownL]; exact Nat.le_refl _)]
  unfold ownL
  rw [List.map_map]
  conv => rhs; rw [← List.map_id l]
  apply List.map_congr_left
  intro x hx
  have := h x hx
  show (((UInt8.ofNat x.toNat).toNat : Nat) : Int) = x
  simp
  omega
theorem half_secs {G : Geo} {m : Met} (h : Right G m) (ho : Okm m) {i : Nat} {n : Inode.Ino} (hi : m.ino[i]? = some n) : half (secs m) i = Inode.bytesI n := by
  have hl := (List.getElem?_eq_some_iff.1 hi).1
  obtain ⟨a, b, h1, h2, h3⟩ := pairs_at h.even hl
  have e : (secs m).getD (3 + i / 2) [] = Inode.bytesI a ++ Inode.bytesI b := by
    rw [List.getD_eq_getElem?_getD, show 3 + i / 2 = i / 2 + 1 + 1 + 1 by omega]
    show ((pairs m.ino)[i / 2]?).getD [] = _
    rw [h3]
    rfl
  have la := Inode.length_bytesI (ho.ino a (List.mem_of_getElem? h1))
  have lb := Inode.length_bytesI (ho.ino b (List.mem_of_getElem? h2))
  unfold half
  rw [e]
  rcases Nat.mod_two_eq_zero_or_one i with hm | hm
  · have e2 : 2 * (i / 2) = i := by omega
    rw [e2, hi] at h1
    injection h1 with h1
    subst h1
    rw [hm, Nat.mul_zero, List.drop_zero, List.take_append_of_le_length (by omega), List.take_of_length_le (by omega)]
  · have e2 : 2 * (i / 2) + 1 = i := by omega
    rw [e2, hi] at h2
    injection h2 with h2
    subst h2
    rw [hm, Nat.mul_one, List.drop_append_of_le_length (by omega), List.drop_of_length_le (by omega), List.nil_append, List.take_of_length_le (by omega)]
theorem inoT_secs {G : Geo} {m : Met} (h : Right G m) (ho : Okm m) : inoT (secs m) G.i.toNat = m.ino := by
  have hi := h.ilen
  have hi1 := h.geo.i1
  apply List.ext_getElem?
  intro i
  by_cases hl : i < m.ino.length
  · have hn : m.ino[i]? = some (m.ino[i]) := List.getElem?_eq_getElem hl
    unfold inoT
    rw [List.getElem?_map, List.getElem?_range (by omega), Option.map_some, half_secs h ho hn, Inode.tak_lay (h.ino _ (List.getElem_mem _)) (ho.ino _ (List.getElem_mem _)), hn]
  · rw [List.getElem?_eq_none (by rw [length_inoT]; omega), List.getElem?_eq_none (by omega)]
/-- Wherever anything is known, the pieces are it. -/
theorem cand_secs {G : Geo} {m : Met} (h : Right G m) (ho : Okm m) : cand G (secs m) = m := by
  have h1 := h.olen
  refine Met.ext' ?_ ?_ rfl (inoT_secs h ho)
  · show (Intern.takR (Intern.bytesOf m.rows)).rows = _
    rw [Intern.take_lay h.rows ho.rows]
  · exact ownT_ownL h.own _ (by have := h.geo.g1; omega)
theorem tak_len {G : Geo} {l : List (List UInt8)} (h : (l.length : Int) ≠ 3 + G.i / 2) : takM G l = (.z, 140) :=
  tak_no fun ⟨_, h1, _, h3⟩ => h (h3 ▸ length_secs h1)
theorem tak_geo {G : Geo} {l : List (List UInt8)} (h : ¬ G.Ok) : takM G l = (.z, 140) :=
  tak_no fun ⟨_, h1, _⟩ => h h1.geo
theorem tak_64 {G : Geo} {l : List (List UInt8)} {s : List UInt8} {i : Nat} (hs : l[i]? = some s) (h : s.length ≠ 64) : takM G l = (.z, 140) :=
  tak_no fun ⟨_, h1, h2, h3⟩ => h (secs_64 h1 h2 s (h3 ▸ List.mem_of_getElem? hs))
theorem tak_rows {G : Geo} {l : List (List UInt8)} (h : (Intern.takR (l.getD 0 [])).err ≠ 0) : takM G l = (.z, 140) :=
  tak_no fun ⟨m, h1, h2, h3⟩ => h (by
    subst h3
    show (Intern.takR (Intern.bytesOf m.rows)).err = 0
    rw [Intern.take_lay h1.rows h2.rows])
theorem tak_ino {G : Geo} {l : List (List UInt8)} {i : Nat} (hi : (i : Int) < G.i) (h : (Inode.takI (half l i)).2 ≠ 0) : takM G l = (.z, 140) :=
  tak_no fun ⟨m, h1, h2, h3⟩ => h (by
    subst h3
    have hl : i < m.ino.length := by have := h1.ilen; omega
    rw [half_secs h1 h2 (List.getElem?_eq_getElem hl), Inode.tak_lay (h1.ino _ (List.getElem_mem _)) (h2.ino _ (List.getElem_mem _))])
theorem tak_cand {G : Geo} {l : List (List UInt8)} (h0 : (Intern.takR (l.getD 0 [])).err = 0) (h : Right G (cand G l)) (hs : secs (cand G l) = l) : takM G l = (cand G l, 0) :=
  tak_yes h (cand_okm h0) hs
theorem tak_bad {G : Geo} {l : List (List UInt8)} (h : ¬ Right G (cand G l)) : takM G l = (.z, 140) :=
  tak_no fun ⟨_, h1, h2, h3⟩ => h (by subst h3; rw [cand_secs h1 h2]; exact h1)
theorem tak_not {G : Geo} {l : List (List UInt8)} (h : secs (cand G l) ≠ l) : takM G l = (.z, 140) :=
  tak_no fun ⟨_, h1, h2, h3⟩ => h (by subst h3; rw [cand_secs h1 h2])
end Go.Proofs.YtcjkbmmjpkghlaaGreat.Meta
