/-
  What the statements share: the first bytes, the document's examples, entries in lists compared.
-/
import Derived.Test.YtlopndnjkphdnaaEntryX15
import Derived.Test.YtlopndnjkphdnaaEntryE
namespace Go.Proofs.Ytlopndnjkphdnaa.Entry
open Go.RowKit

theorem Hands.got {w w' : World} {r : List UInt8 × Nat} {e : Ending} {n : Nat} (h : Hands w r e w') (hn : r.1.length = n) :
    ∃ A c, e = .returned (.tuple #[.slice A n c, .int .i64 (r.2 : Int)]) ∧ n ≤ c ∧ c ≤ maxLen ∧ Rd w' w'.heap.size A (bytesV r.1) ∧ Below w.heap.size w w' := by
  obtain ⟨v, he, ho, hb⟩ := h
  subst hn
  obtain ⟨-, A, c, rfl, h1, h2, h3⟩ := own_rd ho
  exact ⟨A, c, he, h1, h2, h3, hb⟩

theorem few_any (A : Option Addr) (n c : Nat) (w : World) (hc : n ≤ c) (hm : c ≤ maxLen) : Calls Try.prog 14 #[.slice A n c] w fun e w' => e = .returned (.slice A (min n 5000) c) ∧ w = w' := by
  unfold maxLen at hm
  by_cases h : n ≤ 5000
  · have e : min n 5000 = n := by omega
    have e2 : min (n : Int) 5000 = (n : Int) := by omega
    have h0 : (0 : Int) ≤ (n : Int) := by omega
    have h1 : (n : Int) ≤ (c : Int) := by omega
    rw [e]
    go_enter Try.func14, Try.ntmps14
    go_wp2
    go_ret
    exact ⟨rfl, rfl⟩
  · have e : min n 5000 = 5000 := by omega
    have e2 : min (n : Int) 5000 = 5000 := by omega
    have h1 : (5000 : Int) ≤ (c : Int) := by omega
    rw [e]
    go_enter Try.func14, Try.ntmps14
    go_wp2
    go_ret
    exact ⟨rfl, rfl⟩
theorem length_few {l : List UInt8} {n : Nat} (h : l.length = n) : (l.take 5000).length = min n 5000 := by rw [List.length_take, h, Nat.min_comm]
theorem rd_few {w : World} {B : Nat} {A : Option Addr} {l : List UInt8} (h : Rd w B A (bytesV l)) : Rd w B A (bytesV (l.take 5000)) := by rw [bytesV_take]; exact h.take _

/-! The examples. -/
def xA : Ent := ⟨[97], 5⟩
def xB : Ent := ⟨[98], 6⟩
theorem okA : Ok xA := ⟨by decide, by decide⟩
theorem okB : Ok xB := ⟨by decide, by decide⟩
theorem add_dir {S : List Slot} {n : List UInt8} {i : Nat} (hd : Dir S) (hx : Ok ⟨n, i⟩) (hn : n ∉ names S) (hl : (S.any (·.isNone) || decide (S.length < 240)) = true) : addE hsh (dirB hsh S) n (i : Int) = (dirB hsh (put S ⟨n, i⟩), 0) := by
  have h64 := hx.ino
  have hi : (0 : Int) ≤ (i : Int) ∧ (i : Int) < 64 := ⟨by omega, by have h64' : i < 64 := h64; omega⟩
  unfold addE
  rw [dirP_dir hd]
  simp only
  rw [layE_yes hx.name hi]
  simp only
  rw [if_neg (by simp), fnd_none hn, if_neg (by simp), if_pos hl]
  simp
theorem rem_dir {S : List Slot} {n : List UInt8} (hd : Dir S) (hn : n ∈ names S) : remE hsh (dirB hsh S) n = (dirB hsh (del S n), 0) := by
  unfold remE
  rw [dirP_dir hd]
  obtain ⟨x, hx, rfl⟩ := mem_names.1 hn
  simp only
  rw [fnd_of hd.once hx, if_pos (show (some x.i).isSome = true from rfl)]
theorem rem_not {S : List Slot} {n : List UInt8} (hd : Dir S) (hn : n ∉ names S) : remE hsh (dirB hsh S) n = ([], 2) := by
  unfold remE
  rw [dirP_dir hd]
  simp only
  rw [fnd_none hn]
  rfl
theorem dir_nil : Dir [] := ⟨fun s h => by simp at h, by simp [names, ents], by simp⟩
theorem dir_A : Dir [some xA] := dir_put dir_nil okA (by simp [names, ents]) (.inr (by simp))
theorem dir_AB : Dir [some xA, some xB] := dir_put dir_A okB (by decide) (.inr (by decide))
theorem dir_B : Dir [none, some xB] := dir_del dir_AB [97]
theorem add_A : addE hsh [] [97] 5 = (dirB hsh [some xA], 0) := add_dir (S := []) (n := [97]) (i := 5) dir_nil okA (by simp [names, ents]) (by decide)
theorem add_B : addE hsh (dirB hsh [some xA]) [98] 6 = (dirB hsh [some xA, some xB], 0) := add_dir (S := [some xA]) (n := [98]) (i := 6) dir_A okB (by decide) (by decide)
theorem rem_A : remE hsh (dirB hsh [some xA, some xB]) [97] = (dirB hsh [none, some xB], 0) := rem_dir dir_AB (by decide)
theorem rem_B : remE hsh (dirB hsh [none, some xB]) [98] = (dirB hsh [], 0) := rem_dir dir_B (by decide)
theorem lay_A : layE hsh [97] 5 = (dirB hsh [some xA], 0) := by
  rw [layE_yes (by decide) (by decide)]
  show (entB hsh xA, 0) = (entB hsh xA ++ [], 0)
  rw [List.append_nil]
theorem hsh_a : hsh [97] = 229 := by decide
theorem bytes_A : dirB hsh [some xA] = [1, 229, 5, 97, 0, 0, 0, 0, 0, 0, 0, 0, 0, 0, 0, 0] := by
  show entB hsh xA ++ [] = _
  rw [List.append_nil, entB_eq]
  show UInt8.ofNat 1 :: hsh [97] :: UInt8.ofNat 5 :: ([97] ++ List.replicate 12 0) = _
  rw [hsh_a]
  rfl

def z12 : List UInt8 := List.replicate 12 0
theorem make12 (u : World) : (Instr.makeSlice 24 (.int .i64 12) (.int .i64 12)).run Try.prog u = .ok (.slice (some ⟨u.heap.size, 0, none⟩) 12 12) (u.alloc (.cells (bytesV z12).toArray 5)) := make_bytes 12 (by omega) u
theorem z12_rd (w : World) : Rd (w.alloc (.cells (bytesV z12).toArray 5)) (w.heap.size + 1) (some ⟨w.heap.size, 0, none⟩) (bytesV z12) := by
  have h := (Bk.new w 5 (bytesV z12)).rd 12 0
  rw [List.drop_zero, List.take_of_length_le (by simp [bytesV, z12])] at h
  simpa using h
theorem z12_str (w : World) : (convert 24 9 (.slice (some ⟨w.heap.size, 0, none⟩) 12 12)).run Try.prog (w.alloc (.cells (bytesV z12).toArray 5)) = .ok (.string ⟨z12.toArray⟩) (w.alloc (.cells (bytesV z12).toArray 5)) := str_of rfl (z12_rd w)
def lA : List UInt8 := [1, 229, 5, 97, 0, 0, 0, 0, 0, 0, 0, 0, 0, 0, 0, 0]
end Go.Proofs.Ytlopndnjkphdnaa.Entry
