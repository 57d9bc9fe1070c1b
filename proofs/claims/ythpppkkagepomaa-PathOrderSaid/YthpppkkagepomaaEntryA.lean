/-
  Entries and directories on paper: which names may be, an entry's bytes, the entry of bytes, slots and their bytes, and what is found, added and removed.
-/
import Derived.Test.YthpppkkagepomaaW1
namespace Go.Proofs.Ythpppkkagepomaa.Entry

/-- Whether a name is valid. -/
def nameB (l : List UInt8) : Bool := decide (1 ≤ l.length) && decide (l.length ≤ 13) && !(l == [46]) && !(l == [46, 46]) && l.all fun c => !(c == 0) && !(c == 47)
/-- An entry. -/
structure Ent where
  n : List UInt8
  i : Nat
theorem Ent.ext' {a b : Ent} (h1 : a.n = b.n) (h2 : a.i = b.i) : a = b := by cases a; cases b; simp_all
structure Ok (x : Ent) : Prop where
  name : nameB x.n = true
  ino : x.i < 64
theorem name_len {l : List UInt8} (h : nameB l = true) : 1 ≤ l.length ∧ l.length ≤ 13 := by
  simp only [nameB, Bool.and_eq_true, decide_eq_true_eq] at h
  exact ⟨h.1.1.1.1, h.1.1.1.2⟩

section
variable (H : List UInt8 → UInt8)
/-- An entry's bytes. -/
def headE (x : Ent) : List UInt8 := UInt8.ofNat x.n.length :: H x.n :: UInt8.ofNat x.i :: x.n
def entB (x : Ent) : List UInt8 := padl (headE H x) 16
def zeros16 : List UInt8 := List.replicate 16 0
variable {H}
theorem length_entB {x : Ent} (h : Ok x) : (entB H x).length = 16 := by
  have := name_len h.name
  exact length_padl _ _ (by simp [headE]; omega)
theorem entB_eq (x : Ent) : entB H x = UInt8.ofNat x.n.length :: H x.n :: UInt8.ofNat x.i :: (x.n ++ List.replicate (16 - (x.n.length + 3)) 0) := by simp [entB, padl, headE]
/-- The entry that bytes stand for. -/
def deE (b : List UInt8) : Ent := ⟨(b.drop 3).take (b.getD 0 0).toNat, (b.getD 2 0).toNat⟩
theorem de_ent {x : Ent} (h : Ok x) : deE (entB H x) = x := by
  have hl := name_len h.name
  have hi := h.ino
  refine Ent.ext' ?_ ?_
  · unfold deE
    rw [entB_eq]
    have e : (UInt8.ofNat x.n.length).toNat = x.n.length := by simp; omega
    show (x.n ++ List.replicate (16 - (x.n.length + 3)) 0).take (UInt8.ofNat x.n.length).toNat = x.n
    rw [e, List.take_left]
  · unfold deE
    rw [entB_eq]
    show (UInt8.ofNat x.i).toNat = x.i
    simp
    omega
theorem ent_inj {x y : Ent} (hx : Ok x) (hy : Ok y) (h : entB H x = entB H y) : x = y := by
  rw [← de_ent (H := H) hx, h, de_ent hy]
theorem ent_ne {x : Ent} (h : Ok x) : entB H x ≠ zeros16 := by
  have hl := name_len h.name
  intro he
  have h0 := congrArg (fun l => (l.getD 0 0).toNat) he
  rw [entB_eq] at h0
  have e : (UInt8.ofNat x.n.length).toNat = x.n.length := by simp; omega
  have : (UInt8.ofNat x.n.length).toNat = 0 := h0
  omega

/-- A slot: an entry, or free. -/
abbrev Slot := Option Ent
def slotB (H : List UInt8 → UInt8) : Slot → List UInt8
  | none => zeros16
  | some x => entB H x
def SOk (s : Slot) : Prop := ∀ x, s = some x → Ok x
theorem SOk.none : SOk none := fun _ h => by cases h
theorem SOk.some {x : Ent} (h : Ok x) : SOk (some x) := fun y hy => by cases hy; exact h
theorem length_slotB {s : Slot} (h : SOk s) : (slotB H s).length = 16 := by
  cases s with
  | none => rfl
  | some x => exact length_entB (h x rfl)
theorem slot_inj {s t : Slot} (hs : SOk s) (ht : SOk t) (h : slotB H s = slotB H t) : s = t := by
  cases s with
  | none =>
    cases t with
    | none => rfl
    | some y => exact absurd h.symm (ent_ne (ht y rfl))
  | some x =>
    cases t with
    | none => exact absurd h (ent_ne (hs x rfl))
    | some y => rw [ent_inj (hs x rfl) (ht y rfl) h]
/-- What sixteen bytes stand for: none where they are no slot. -/
noncomputable def takS (H : List UInt8 → UInt8) (b : List UInt8) : Option Slot :=
  @ite _ (b = zeros16) (Classical.propDecidable _) (some none) (@ite _ (Ok (deE b) ∧ entB H (deE b) = b) (Classical.propDecidable _) (some (some (deE b))) none)
theorem tak_slot {s : Slot} (h : SOk s) : takS H (slotB H s) = some s := by
  unfold takS
  cases s with
  | none => exact if_pos rfl
  | some x =>
    have hx := h x rfl
    have e : slotB H (some x) = entB H x := rfl
    rw [e, if_neg (ent_ne hx), de_ent hx, if_pos ⟨hx, rfl⟩]
theorem slot_tak {b : List UInt8} {s : Slot} (h : takS H b = some s) : SOk s ∧ slotB H s = b := by
  unfold takS at h
  split at h
  · rename_i hz
    obtain rfl : none = s := by simpa using h
    exact ⟨.none, hz.symm⟩
  · split at h
    · rename_i _ he
      obtain rfl : some (deE b) = s := by simpa using h
      exact ⟨.some he.1, he.2⟩
    · cases h
theorem tak_no {b : List UInt8} (h : takS H b = none) : b ≠ zeros16 ∧ ¬ ∃ x, Ok x ∧ entB H x = b := by
  refine ⟨fun hz => ?_, fun ⟨x, hx, hb⟩ => ?_⟩
  · have := tak_slot (H := H) (s := none) .none
    rw [hz] at h
    rw [show slotB H none = zeros16 from rfl, h] at this
    cases this
  · have := tak_slot (H := H) (s := some x) (.some hx)
    rw [show slotB H (some x) = entB H x from rfl, hb, h] at this
    cases this

/-- Slots, one behind the other. -/
def dirB (H : List UInt8 → UInt8) : List Slot → List UInt8
  | [] => []
  | s :: l => slotB H s ++ dirB H l
theorem dirB_append (l m : List Slot) : dirB H (l ++ m) = dirB H l ++ dirB H m := by
  induction l with
  | nil => rfl
  | cons s l ih => simp [dirB, ih]
def SOks (l : List Slot) : Prop := ∀ s ∈ l, SOk s
theorem length_dirB {l : List Slot} (h : SOks l) : (dirB H l).length = l.length * 16 := by
  induction l with
  | nil => rfl
  | cons s l ih =>
    have h1 := length_slotB (H := H) (h s (by simp))
    have h2 := ih fun t ht => h t (by simp [ht])
    simp [dirB, h1, h2]
    omega
theorem dir_inj {l m : List Slot} (hl : SOks l) (hm : SOks m) (h : dirB H l = dirB H m) : l = m := by
  induction l generalizing m with
  | nil =>
    cases m with
    | nil => rfl
    | cons t m =>
      have := congrArg List.length h
      rw [length_dirB hl, length_dirB hm] at this
      simp at this
  | cons s l ih =>
    cases m with
    | nil =>
      have := congrArg List.length h
      rw [length_dirB hl, length_dirB hm] at this
      simp at this
    | cons t m =>
      have h1 := length_slotB (H := H) (hl s (by simp))
      have h2 := length_slotB (H := H) (hm t (by simp))
      obtain ⟨e1, e2⟩ := List.append_inj h (by rw [h1, h2])
      rw [slot_inj (hl s (by simp)) (hm t (by simp)) e1, ih (fun u hu => hl u (by simp [hu])) (fun u hu => hm u (by simp [hu])) e2]

/-- The slots that bytes stand for, sixteen by sixteen; names may occur twice. -/
noncomputable def slots (H : List UInt8 → UInt8) : Nat → List UInt8 → Option (List Slot)
  | 0, b => if b = [] then some [] else none
  | k + 1, b =>
    if b = [] then some [] else
      match takS H (b.take 16), slots H k (b.drop 16) with
      | some s, some l => some (s :: l)
      | _, _ => none
theorem slots_dir {l : List Slot} (h : SOks l) {k : Nat} (hk : l.length ≤ k) : slots H k (dirB H l) = some l := by
  induction l generalizing k with
  | nil => cases k <;> simp [slots, dirB]
  | cons s l ih =>
    cases k with
    | zero => simp at hk
    | succ k =>
      have h1 := length_slotB (H := H) (h s (by simp))
      have hne : dirB H (s :: l) ≠ [] := by
        intro he
        have := congrArg List.length he
        simp [dirB, h1] at this
      unfold slots
      rw [if_neg hne]
      have e1 : (dirB H (s :: l)).take 16 = slotB H s := by
        show (slotB H s ++ dirB H l).take 16 = _
        rw [← h1, List.take_left]
      have e2 : (dirB H (s :: l)).drop 16 = dirB H l := by
        show (slotB H s ++ dirB H l).drop 16 = _
        rw [← h1, List.drop_left]
      rw [e1, e2, tak_slot (h s (by simp)), ih (fun t ht => h t (by simp [ht])) (by simpa using hk)]
theorem dir_slots {b : List UInt8} {l : List Slot} {k : Nat} (h : slots H k b = some l) : SOks l ∧ dirB H l = b := by
  induction k generalizing b l with
  | zero =>
    unfold slots at h
    split at h
    · rename_i hb
      obtain rfl : [] = l := by simpa using h
      exact ⟨fun s hs => by simp at hs, hb.symm⟩
    · cases h
  | succ k ih =>
    unfold slots at h
    split at h
    · rename_i hb
      obtain rfl : [] = l := by simpa using h
      exact ⟨fun s hs => by simp at hs, hb.symm⟩
    · split at h
      · rename_i s m h1 h2
        obtain rfl : s :: m = l := by simpa using h
        obtain ⟨hs, hb1⟩ := slot_tak h1
        obtain ⟨hm, hb2⟩ := ih h2
        refine ⟨fun t ht => ?_, ?_⟩
        · rcases List.mem_cons.1 ht with rfl | ht
          · exact hs
          · exact hm t ht
        · show slotB H s ++ dirB H m = b
          rw [hb1, hb2, List.take_append_drop]
      · cases h

/-- The entries of slots, in order, and whether no name occurs twice. -/
def ents (l : List Slot) : List Ent := l.filterMap id
def names (l : List Slot) : List (List UInt8) := (ents l).map (·.n)
theorem ents_append (l m : List Slot) : ents (l ++ m) = ents l ++ ents m := by simp [ents]
theorem ents_none (l : List Slot) : ents (none :: l) = ents l := rfl
theorem ents_some (x : Ent) (l : List Slot) : ents (some x :: l) = x :: ents l := rfl
/-- A directory. -/
structure Dir (l : List Slot) : Prop where
  ok : SOks l
  once : (names l).Nodup
  len : l.length ≤ 240
/-- The directory that bytes are. -/
noncomputable def dirP (H : List UInt8 → UInt8) (b : List UInt8) : Option (List Slot) :=
  match slots H 240 b with
  | some l => @ite _ (Dir l) (Classical.propDecidable _) (some l) none
  | none => none
theorem dirP_dir {l : List Slot} (h : Dir l) : dirP H (dirB H l) = some l := by
  unfold dirP
  rw [slots_dir h.ok h.len]
  exact if_pos h
theorem dir_dirP {b : List UInt8} {l : List Slot} (h : dirP H b = some l) : Dir l ∧ dirB H l = b := by
  unfold dirP at h
  split at h
  · rename_i m hm
    split at h
    · rename_i hd
      obtain rfl : m = l := by simpa using h
      exact ⟨hd, (dir_slots hm).2⟩
    · cases h
  · cases h
theorem dirP_iff {b : List UInt8} {l : List Slot} : dirP H b = some l ↔ Dir l ∧ dirB H l = b := ⟨dir_dirP, fun ⟨h, hb⟩ => hb ▸ dirP_dir h⟩

/-- The inode of a name. -/
def fnd (l : List Slot) (n : List UInt8) : Option Nat := ((ents l).find? fun x => x.n == n).map (·.i)
/-- An entry more: the first free slot, or a new one. -/
def put (l : List Slot) (x : Ent) : List Slot :=
  match l with
  | [] => [some x]
  | none :: l => some x :: l
  | some y :: l => some y :: put l x
/-- An entry less; free slots at the end go. -/
def cutEnd (l : List Slot) : List Slot := (l.reverse.dropWhile (·.isNone)).reverse
def clr (l : List Slot) (n : List UInt8) : List Slot := l.map fun s => match s with | some x => if x.n = n then none else some x | none => none
def del (l : List Slot) (n : List UInt8) : List Slot := cutEnd (clr l n)

theorem mem_ents {l : List Slot} {x : Ent} : x ∈ ents l ↔ some x ∈ l := by simp [ents]
theorem mem_names {l : List Slot} {n : List UInt8} : n ∈ names l ↔ ∃ x, some x ∈ l ∧ x.n = n := by
  simp only [names, List.mem_map, mem_ents]
theorem ents_oks {l : List Slot} (h : SOks l) : ∀ x ∈ ents l, Ok x := fun x hx => h _ (mem_ents.1 hx) x rfl
/-- Among names that occur once each, the entry of a name is the one. -/
theorem find_of {l : List Ent} (h : (l.map (·.n)).Nodup) {x : Ent} (hx : x ∈ l) : l.find? (fun y => y.n == x.n) = some x := by
  induction l with
  | nil => simp at hx
  | cons y l ih =>
    rw [List.map_cons, List.nodup_cons] at h
    rcases List.mem_cons.1 hx with rfl | hx
    · simp
    · have hne : y.n ≠ x.n := fun he => h.1 (he ▸ List.mem_map.2 ⟨x, hx, rfl⟩)
      rw [List.find?_cons_of_neg (by simpa using hne)]
      exact ih h.2 hx
theorem fnd_of {l : List Slot} (h : (names l).Nodup) {x : Ent} (hx : some x ∈ l) : fnd l x.n = some x.i := by
  unfold fnd
  rw [find_of h (mem_ents.2 hx)]
  rfl
theorem fnd_none {l : List Slot} {n : List UInt8} (h : n ∉ names l) : fnd l n = none := by
  unfold fnd
  rw [List.find?_eq_none.2]
  · rfl
  · intro x hx he
    exact h (List.mem_map.2 ⟨x, hx, by simpa using he⟩)
theorem fnd_some {l : List Slot} {n : List UInt8} {i : Nat} (h : fnd l n = some i) : ∃ x, some x ∈ l ∧ x.n = n ∧ x.i = i := by
  unfold fnd at h
  obtain ⟨x, hx, rfl⟩ := Option.map_eq_some_iff.1 h
  have h1 := List.find?_some hx
  exact ⟨x, mem_ents.1 (List.mem_of_find?_eq_some hx), by simpa using h1, rfl⟩

/-- What is behind an entry more. -/
theorem mem_put {l : List Slot} {x y : Ent} : some y ∈ put l x ↔ y = x ∨ some y ∈ l := by
  induction l with
  | nil => simp [put]
  | cons s l ih =>
    cases s with
    | none => simp [put]
    | some z =>
      show some y ∈ some z :: put l x ↔ _
      rw [List.mem_cons, ih, List.mem_cons]
      constructor
      · rintro (h | h | h)
        · exact .inr (.inl h)
        · exact .inl h
        · exact .inr (.inr h)
      · rintro (h | h | h)
        · exact .inr (.inl h)
        · exact .inl h
        · exact .inr (.inr h)
theorem names_put {l : List Slot} {x : Ent} (h : (names l).Nodup) (hx : x.n ∉ names l) : (names (put l x)).Nodup := by
  induction l with
  | nil => simp [put, names, ents]
  | cons s l ih =>
    cases s with
    | none =>
      show (names (some x :: l)).Nodup
      show ((x :: ents l).map (·.n)).Nodup
      rw [List.map_cons, List.nodup_cons]
      exact ⟨hx, h⟩
    | some z =>
      have h' : ((z :: ents l).map (·.n)).Nodup := h
      rw [List.map_cons, List.nodup_cons] at h'
      have hx' : x.n ∉ (z :: ents l).map (·.n) := hx
      rw [List.map_cons, List.mem_cons, not_or] at hx'
      show ((z :: ents (put l x)).map (·.n)).Nodup
      rw [List.map_cons, List.nodup_cons]
      refine ⟨fun hm => ?_, ih h'.2 hx'.2⟩
      obtain ⟨y, hy, hn⟩ := mem_names.1 hm
      rcases mem_put.1 hy with rfl | hy
      · exact hx'.1 hn
      · exact h'.1 (mem_names.2 ⟨y, hy, hn⟩)
theorem soks_put {l : List Slot} {x : Ent} (h : SOks l) (hx : Ok x) : SOks (put l x) := by
  intro s hs y hy
  subst hy
  rcases mem_put.1 hs with rfl | hs
  · exact hx
  · exact h _ hs y rfl
theorem length_put_free {l : List Slot} {x : Ent} (h : none ∈ l) : (put l x).length = l.length := by
  induction l with
  | nil => simp at h
  | cons s l ih =>
    cases s with
    | none => rfl
    | some z => simpa [put] using ih (by simpa using h)
theorem put_full {l : List Slot} {x : Ent} (h : none ∉ l) : put l x = l ++ [some x] := by
  induction l with
  | nil => rfl
  | cons s l ih =>
    cases s with
    | none => simp at h
    | some z =>
      show some z :: put l x = _
      rw [ih (by simpa using h)]
      rfl
theorem dir_put {l : List Slot} {x : Ent} (h : Dir l) (hx : Ok x) (hn : x.n ∉ names l) (hl : none ∈ l ∨ l.length < 240) : Dir (put l x) := by
  refine ⟨soks_put h.ok hx, names_put h.once hn, ?_⟩
  have := h.len
  by_cases hf : none ∈ l
  · rw [length_put_free hf]; exact this
  · rw [put_full hf, List.length_append, List.length_singleton]
    rcases hl with hl | hl
    · exact absurd hl hf
    · omega
theorem fnd_put {l : List Slot} {x : Ent} (h : (names l).Nodup) (hx : x.n ∉ names l) (n : List UInt8) : fnd (put l x) n = if n = x.n then some x.i else fnd l n := by
  split
  · rename_i he
    subst he
    exact fnd_of (names_put h hx) (mem_put.2 (.inl rfl))
  · rename_i hne
    cases hf : fnd l n with
    | none =>
      refine fnd_none fun hm => ?_
      obtain ⟨y, hy, hn⟩ := mem_names.1 hm
      rcases mem_put.1 hy with rfl | hy
      · exact hne hn.symm
      · have := fnd_of h hy
        rw [hn, hf] at this
        cases this
    | some i =>
      obtain ⟨y, hy, hn, hi⟩ := fnd_some hf
      have := fnd_of (names_put h hx) (mem_put.2 (.inr hy))
      rw [hn, hi] at this
      exact this

/-- What is behind an entry less. -/
theorem cutEnd_append_none (l : List Slot) : cutEnd (l ++ [none]) = cutEnd l := by simp [cutEnd]
theorem cutEnd_append_some (l : List Slot) (x : Ent) : cutEnd (l ++ [some x]) = l ++ [some x] := by simp [cutEnd]
theorem mem_cutEnd {l : List Slot} {x : Ent} : some x ∈ cutEnd l ↔ some x ∈ l := by
  obtain ⟨m, rfl⟩ : ∃ m, l = List.reverse m := ⟨l.reverse, by simp⟩
  induction m with
  | nil => rfl
  | cons s m ih =>
    rw [List.reverse_cons]
    cases s with
    | none => rw [cutEnd_append_none, ih]; simp
    | some y => rw [cutEnd_append_some]
theorem ents_cutEnd (l : List Slot) : ents (cutEnd l) = ents l := by
  obtain ⟨m, rfl⟩ : ∃ m, l = List.reverse m := ⟨l.reverse, by simp⟩
  induction m with
  | nil => rfl
  | cons s m ih =>
    rw [List.reverse_cons]
    cases s with
    | none => rw [cutEnd_append_none, ih, ents_append]; simp [ents]
    | some y => rw [cutEnd_append_some]
theorem length_cutEnd (l : List Slot) : (cutEnd l).length ≤ l.length := by
  unfold cutEnd
  rw [List.length_reverse]
  exact Nat.le_trans (List.dropWhile_sublist _).length_le (by simp)
/-- Slots of which the last one is no free one. -/
def Tight (l : List Slot) : Prop := l.getLast? ≠ some none
theorem tight_cutEnd (l : List Slot) : Tight (cutEnd l) := by
  obtain ⟨m, rfl⟩ : ∃ m, l = List.reverse m := ⟨l.reverse, by simp⟩
  induction m with
  | nil => simp [Tight, cutEnd]
  | cons s m ih =>
    rw [List.reverse_cons]
    cases s with
    | none => rw [cutEnd_append_none]; exact ih
    | some y => rw [cutEnd_append_some]; simp [Tight]
theorem tight_put {l : List Slot} {x : Ent} (h : Tight l) : Tight (put l x) := by
  by_cases hf : none ∈ l
  · have : ∀ l : List Slot, l.getLast? ≠ some none → (put l x).getLast? ≠ some none := by
      intro l
      induction l with
      | nil => intro _; simp [put]
      | cons s l ih =>
        intro hl
        cases s with
        | none =>
          cases l with
          | nil => simp [put]
          | cons t l => simpa [put] using hl
        | some z =>
          cases l with
          | nil => simp [put]
          | cons t l =>
            have h1 := ih (by simpa using hl)
            show (some z :: put (t :: l) x).getLast? ≠ some none
            cases hp : put (t :: l) x with
            | nil => simp
            | cons u m =>
              rw [hp] at h1
              simpa using h1
    exact this l h
  · rw [put_full hf]; simp [Tight]
theorem mem_clr {l : List Slot} {n : List UInt8} {x : Ent} : some x ∈ clr l n ↔ some x ∈ l ∧ x.n ≠ n := by
  unfold clr
  rw [List.mem_map]
  constructor
  · rintro ⟨s, hs, he⟩
    cases s with
    | none => cases he
    | some y =>
      simp only at he
      split at he
      · cases he
      · rename_i hne
        cases he
        exact ⟨hs, hne⟩
  · rintro ⟨hx, hne⟩
    exact ⟨some x, hx, by simp only [if_neg hne]⟩
theorem ents_clr (l : List Slot) (n : List UInt8) : ents (clr l n) = (ents l).filter fun x => !(x.n == n) := by
  induction l with
  | nil => rfl
  | cons s l ih =>
    cases s with
    | none => exact ih
    | some x =>
      show ents ((if x.n = n then none else some x) :: clr l n) = (x :: ents l).filter _
      by_cases h : x.n = n
      · rw [if_pos h, ents_none, ih, List.filter_cons_of_neg (by simp [h])]
      · rw [if_neg h, ents_some, ih, List.filter_cons_of_pos (by simpa using h)]
theorem length_clr (l : List Slot) (n : List UInt8) : (clr l n).length = l.length := by simp [clr]
theorem ents_del (l : List Slot) (n : List UInt8) : ents (del l n) = (ents l).filter fun x => !(x.n == n) := by rw [del, ents_cutEnd, ents_clr]
theorem mem_del {l : List Slot} {n : List UInt8} {x : Ent} : some x ∈ del l n ↔ some x ∈ l ∧ x.n ≠ n := by rw [del, mem_cutEnd, mem_clr]
theorem names_del {l : List Slot} (h : (names l).Nodup) (n : List UInt8) : (names (del l n)).Nodup := by
  unfold names
  rw [ents_del]
  exact List.Nodup.sublist (List.Sublist.map _ List.filter_sublist) h
theorem dir_del {l : List Slot} (h : Dir l) (n : List UInt8) : Dir (del l n) := by
  refine ⟨fun s hs y hy => ?_, names_del h.once n, ?_⟩
  · subst hy
    exact h.ok _ (mem_del.1 hs).1 y rfl
  · exact Nat.le_trans (length_cutEnd _) (by rw [length_clr]; exact h.len)
theorem fnd_del {l : List Slot} (h : (names l).Nodup) (n m : List UInt8) : fnd (del l n) m = if m = n then none else fnd l m := by
  split
  · rename_i he
    subst he
    refine fnd_none fun hm => ?_
    obtain ⟨y, hy, hn⟩ := mem_names.1 hm
    exact (mem_del.1 hy).2 hn
  · rename_i hne
    cases hf : fnd l m with
    | none =>
      refine fnd_none fun hm => ?_
      obtain ⟨y, hy, hn⟩ := mem_names.1 hm
      have := fnd_of h (mem_del.1 hy).1
      rw [hn, hf] at this
      cases this
    | some i =>
      obtain ⟨y, hy, hn, hi⟩ := fnd_some hf
      have := fnd_of (names_del h n) (mem_del.2 ⟨hy, by rw [hn]; exact hne⟩)
      rw [hn, hi] at this
      exact this
/-- A tight list without an entry is empty. -/
theorem tight_empty {l : List Slot} (h : Tight l) (he : ents l = []) : l = [] := by
  obtain ⟨m, rfl⟩ : ∃ m, l = List.reverse m := ⟨l.reverse, by simp⟩
  cases m with
  | nil => rfl
  | cons s m =>
    exfalso
    rw [List.reverse_cons] at h he
    cases s with
    | none => simp [Tight] at h
    | some y =>
      rw [ents_append] at he
      simp [ents] at he

/-- An entry more, and then less: as it was, but for free slots at the end. -/
theorem clr_id {l : List Slot} {n : List UInt8} (h : n ∉ names l) : clr l n = l := by
  induction l with
  | nil => rfl
  | cons s l ih =>
    cases s with
    | none =>
      show none :: clr l n = _
      rw [ih h]
    | some y =>
      have h' : n ∉ (y :: ents l).map (·.n) := h
      rw [List.map_cons, List.mem_cons, not_or] at h'
      show (if y.n = n then none else some y) :: clr l n = _
      rw [if_neg (fun e => h'.1 e.symm), ih h'.2]
theorem clr_put {l : List Slot} {x : Ent} (h : x.n ∉ names l) : (none ∈ l ∧ clr (put l x) x.n = l) ∨ (none ∉ l ∧ clr (put l x) x.n = l ++ [none]) := by
  induction l with
  | nil => exact .inr ⟨by simp, by simp [put, clr]⟩
  | cons s l ih =>
    cases s with
    | none =>
      refine .inl ⟨by simp, ?_⟩
      have h2 : x.n ∉ names l := h
      show (if x.n = x.n then none else some x) :: clr l x.n = _
      rw [if_pos rfl, clr_id h2]
    | some y =>
      have h' : x.n ∉ (y :: ents l).map (·.n) := h
      rw [List.map_cons, List.mem_cons, not_or] at h'
      have e : clr (put (some y :: l) x) x.n = some y :: clr (put l x) x.n := by
        show (if y.n = x.n then none else some y) :: clr (put l x) x.n = _
        rw [if_neg (fun e => h'.1 e.symm)]
      rcases ih h'.2 with ⟨hf, he⟩ | ⟨hf, he⟩
      · exact .inl ⟨by simp [hf], by rw [e, he]⟩
      · exact .inr ⟨by simp [hf], by rw [e, he]; rfl⟩
theorem del_put {l : List Slot} {x : Ent} (h : x.n ∉ names l) : del (put l x) x.n = cutEnd l := by
  unfold del
  rcases clr_put h with ⟨_, he⟩ | ⟨_, he⟩
  · rw [he]
  · rw [he]
    exact cutEnd_append_none l
theorem cutEnd_prefix (l : List Slot) : ∃ k, l = cutEnd l ++ List.replicate k none := by
  obtain ⟨m, rfl⟩ : ∃ m, l = List.reverse m := ⟨l.reverse, by simp⟩
  induction m with
  | nil => exact ⟨0, rfl⟩
  | cons s m ih =>
    rw [List.reverse_cons]
    cases s with
    | none =>
      obtain ⟨k, hk⟩ := ih
      refine ⟨k + 1, ?_⟩
      rw [cutEnd_append_none, List.replicate_succ', ← List.append_assoc, ← hk]
    | some y => exact ⟨0, by rw [cutEnd_append_some]; simp⟩
theorem dirB_cutEnd (l : List Slot) : ∃ t, dirB H l = dirB H (cutEnd l) ++ t := by
  obtain ⟨k, hk⟩ := cutEnd_prefix l
  exact ⟨dirB H (List.replicate k none), by rw [← dirB_append, ← hk]⟩

/-! What each call answers. -/
def layE (H : List UInt8 → UInt8) (n : List UInt8) (i : Int) : List UInt8 × Nat :=
  if nameB n = true then if 0 ≤ i ∧ i < 64 then (entB H ⟨n, i.toNat⟩, 0) else ([], 1) else ([], 120)
noncomputable def allE (H : List UInt8 → UInt8) (b : List UInt8) : List Ent × Nat :=
  match dirP H b with
  | some l => (ents l, 0)
  | none => ([], 121)
noncomputable def findE (H : List UInt8 → UInt8) (b n : List UInt8) : Option Nat :=
  match dirP H b with
  | some l => fnd l n
  | none => none
noncomputable def addE (H : List UInt8 → UInt8) (b n : List UInt8) (i : Int) : List UInt8 × Nat :=
  match dirP H b with
  | none => ([], 121)
  | some l =>
    if (layE H n i).2 ≠ 0 then ([], (layE H n i).2)
    else if (fnd l n).isSome = true then ([], 3)
    else if (l.any (·.isNone) || decide (l.length < 240)) = true then (dirB H (put l ⟨n, i.toNat⟩), 0) else ([], 5)
noncomputable def remE (H : List UInt8 → UInt8) (b n : List UInt8) : List UInt8 × Nat :=
  match dirP H b with
  | none => ([], 121)
  | some l => if (fnd l n).isSome = true then (dirB H (del l n), 0) else ([], 2)
end
end Go.Proofs.Ythpppkkagepomaa.Entry
