/-
  A directory, place by place: what the first ones make of it.
-/
import Derived.Test.YtlopndnjkphdnaaEntryX7
namespace Go.Proofs.Ytlopndnjkphdnaa.Entry
open Go.RowKit

/-- The first places of bytes. -/
structure Pre (b : List UInt8) (S : List Slot) (j : Nat) : Prop where
  ok : SOks S
  len : S.length = j
  here : dirB hsh S = b.take (j * 16)
  once : (names S).Nodup
theorem Pre.zero (b : List UInt8) : Pre b [] 0 := ⟨fun s h => by simp at h, rfl, by simp [dirB], by simp [names, ents]⟩
theorem names_append (S T : List Slot) : names (S ++ T) = names S ++ names T := by simp [names, ents_append]
theorem take_part {b : List UInt8} {j : Nat} : b.take ((j + 1) * 16) = b.take (j * 16) ++ (b.drop (j * 16)).take 16 := by
  rw [← List.take_add]
  congr 1
  omega
theorem Pre.step {b : List UInt8} {S : List Slot} {j : Nat} {s : Slot} (h : Pre b S j) (hs : takS hsh ((b.drop (j * 16)).take 16) = some s) (hn : ∀ x, s = some x → x.n ∉ names S) : Pre b (S ++ [s]) (j + 1) := by
  obtain ⟨h1, h2⟩ := slot_tak hs
  refine ⟨fun t ht => ?_, by simp [h.len], ?_, ?_⟩
  · rcases List.mem_append.1 ht with ht | ht
    · exact h.ok t ht
    · obtain rfl : t = s := by simpa using ht
      exact h1
  · rw [dirB_append, h.here, take_part]
    simp [dirB, h2]
  · rw [names_append, List.nodup_append]
    refine ⟨h.once, ?_, ?_⟩
    · cases s <;> simp [names, ents]
    · intro n hn1 m hm
      cases s with
      | none => simp [names, ents] at hm
      | some x =>
        obtain rfl : m = x.n := by simpa [names, ents] using hm
        rintro rfl
        exact hn x rfl hn1
theorem Pre.all {b : List UInt8} {S : List Slot} {j : Nat} (h : Pre b S j) (hb : b.length ≤ j * 16) (hj : j ≤ 240) : dirP hsh b = some S := by
  refine dirP_iff.2 ⟨⟨h.ok, h.once, by rw [h.len]; exact hj⟩, ?_⟩
  rw [h.here, List.take_of_length_le hb]
theorem length_dirP {b : List UInt8} {S : List Slot} (h : dirP hsh b = some S) : b.length = S.length * 16 ∧ S.length ≤ 240 := by
  obtain ⟨hd, rfl⟩ := dirP_iff.1 h
  exact ⟨length_dirB hd.ok, hd.len⟩
theorem dirP_bad {b : List UInt8} (h : ¬ (b.length % 16 = 0 ∧ b.length ≤ 3840)) : dirP hsh b = none := by
  cases hp : dirP hsh b with
  | none => rfl
  | some S =>
    obtain ⟨h1, h2⟩ := length_dirP hp
    exact absurd ⟨by omega, by omega⟩ h
theorem dirB_take {S : List Slot} (h : SOks S) (j : Nat) : (dirB hsh S).take (j * 16) = dirB hsh (S.take j) := by
  induction S generalizing j with
  | nil => simp [dirB]
  | cons s S ih =>
    cases j with
    | zero => simp [dirB]
    | succ j =>
      have hl := length_slotB (H := hsh) (h s (by simp))
      show (slotB hsh s ++ dirB hsh S).take ((j + 1) * 16) = slotB hsh s ++ dirB hsh (S.take j)
      rw [show (j + 1) * 16 = (slotB hsh s).length + j * 16 by omega, List.take_length_add_append, ih (fun t ht => h t (by simp [ht]))]
/-- The first places are a directory's. -/
theorem Pre.of {b : List UInt8} {S T : List Slot} {j : Nat} (h : Pre b S j) (hT : dirP hsh b = some T) : S = T.take j := by
  obtain ⟨hd, rfl⟩ := dirP_iff.1 hT
  refine dir_inj (H := hsh) h.ok (fun t ht => hd.ok t (List.mem_of_mem_take ht)) ?_
  rw [h.here, dirB_take hd.ok]
theorem Pre.bad {b : List UInt8} {S : List Slot} {j : Nat} (h : Pre b S j) (hj : j * 16 + 16 ≤ b.length) (hs : takS hsh ((b.drop (j * 16)).take 16) = none ∨ ∃ x, takS hsh ((b.drop (j * 16)).take 16) = some (some x) ∧ x.n ∈ names S) : dirP hsh b = none := by
  cases hp : dirP hsh b with
  | none => rfl
  | some T =>
    exfalso
    have hl := (length_dirP hp).1
    have hST := h.of hp
    obtain ⟨hd, rfl⟩ := dirP_iff.1 hp
    have hjT : j < T.length := by omega
    obtain ⟨t, ht⟩ : ∃ t, T[j]? = some t := ⟨_, List.getElem?_eq_getElem hjT⟩
    have hds := dir_slot hd.ok ht
    rw [hds, tak_slot (hd.ok t (List.mem_of_getElem? ht))] at hs
    rcases hs with hs | ⟨x, hx, hn⟩
    · cases hs
    · injection hx with hx
      subst hx
      have hnd := hd.once
      rw [← List.take_append_drop j T, ← hST, names_append, List.nodup_append] at hnd
      have hdr : T.drop j = some x :: T.drop (j + 1) := by
        obtain ⟨_, h2⟩ := List.getElem?_eq_some_iff.1 ht
        rw [← h2]
        exact List.drop_eq_getElem_cons hjT
      refine hnd.2.2 x.n hn x.n ?_ rfl
      rw [hdr]
      simp [names, ents]
theorem isN_mem {S : List Slot} {n : List UInt8} : idxOf S n < S.length ↔ n ∈ names S := by
  unfold idxOf
  rw [List.findIdx_lt_length]
  constructor
  · rintro ⟨s, hs, hn⟩
    cases s with
    | none => cases hn
    | some x => exact mem_names.2 ⟨x, hs, by simpa [isN] using hn⟩
  · intro h
    obtain ⟨x, hx, rfl⟩ := mem_names.1 h
    exact ⟨some x, hx, by simp [isN]⟩
end Go.Proofs.Ytlopndnjkphdnaa.Entry
