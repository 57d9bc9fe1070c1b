/-
  Arguments: an entry.
-/
import Derived.Test.YtlopndnjkphdnaaC
import Derived.Test.YtlopndnjkphdnaaEntryE
import Derived.Lib.SmallJoins
namespace Go.Proofs.Ytlopndnjkphdnaa
open Go.RowKit Go.ChangeShapes Go.WideShapes Go.ChangeAt Go.Deep Go.Joins Entry

theorem own : ownKnob Try.prog.godebug = none := by kernel_rfl
theorem laid : laidOutB Try.prog = true := by kernel_rfl
theorem cells5 : Try.prog.cellsOf 5 = 1 := by kernel_rfl
theorem cells3 : Try.prog.cellsOf 3 = 1 := by kernel_rfl
theorem cells9 : Try.prog.cellsOf 9 = 1 := by kernel_rfl
theorem cells23 : Try.prog.cellsOf 23 = 2 := by kernel_rfl

section
variable {H : Type} {enc : TypeId × Value → H} {W : World}
set_option maxRecDepth 100000 in
/-- An entry, out of its cells. -/
theorem open_ent_cells {fuel base : Nat} {sp : Nat → Bool} {c0 c1 : Value} {x : DataW H × List MemPlace} (hf : DataW.trod enc Try.prog W base sp true fuel 23 [c0, c1] = some x) :
    ∃ (s : ByteArray) (i : Int), [c0, c1] = [.string s, .int .i64 i] ∧ s.size ≤ maxLen ∧ -9223372036854775808 ≤ i ∧ i ≤ 9223372036854775807 := by
  have hl : (Try.prog.fieldsOf 23).toList.length = 2 := by kernel_rfl
  have hm : (Try.prog.fieldsOf 23).toList.map (fun f => (f.type, f.offset)) = [(9, 0), (3, 1)] := by kernel_rfl
  obtain ⟨f0, f1, e⟩ := two_of hl
  have e' : Try.prog.fieldsOf 23 = #[f0, f1] := by rw [← Array.toList_inj]; exact e
  rw [e] at hm
  simp only [List.map_cons, List.map_nil, List.cons.injEq, Prod.mk.injEq, and_true] at hm
  obtain ⟨⟨t0, o0⟩, t1, o1⟩ := hm
  have hs : Try.prog.underlying 23 = some (.struct #[f0, f1]) := by rw [under23, e']
  obtain ⟨xs, n, _, _, _, hlen, hfs⟩ := DataW.trod_struct hs hf
  obtain ⟨y0, y1, rfl⟩ := two_of (show xs.length = 2 by simpa using hlen)
  have h0 := hfs 0 f0 rfl
  have h1 := hfs 1 f1 rfl
  rw [t0, o0, cells9] at h0
  rw [t1, o1, cells3] at h1
  have h0 : DataW.trod enc Try.prog W base sp true n 9 [c0] = some y0 := h0
  have h1 : DataW.trod enc Try.prog W base sp true n 3 [c1] = some y1 := h1
  obtain ⟨s, hs0, _, hsm⟩ := DataW.trod_string Try.underlying9 h0
  obtain ⟨i, hi1, _, wi⟩ := DataW.trod_int Try.underlying3 h1
  simp only [List.cons.injEq, and_true] at hs0 hi1
  have bi := bounds_i64 wi
  exact ⟨s, i, by rw [hs0, hi1], hsm, bi.1, bi.2⟩
set_option maxRecDepth 100000 in
/-- An entry that came in. -/
theorem open_ent {base : Nat} {v : Value} {d : DataW H} {p : List MemPlace} (hval : Value.okWide Try.prog W .any base 23 v) (h : DataW.Trod enc Try.prog W 0 (fun _ => true) true 23 v d p) :
    ∃ (s : ByteArray) (i : Int), v = .agg #[.string s, .int .i64 i] ∧ s.size ≤ maxLen ∧ -9223372036854775808 ≤ i ∧ i ≤ 9223372036854775807 := by
  have hl : (Try.prog.fieldsOf 23).toList.length = 2 := by kernel_rfl
  have hm : (Try.prog.fieldsOf 23).toList.map (fun f => (f.type, f.offset)) = [(9, 0), (3, 1)] := by kernel_rfl
  obtain ⟨f0, f1, e⟩ := two_of hl
  have e' : Try.prog.fieldsOf 23 = #[f0, f1] := by rw [← Array.toList_inj]; exact e
  rw [e] at hm
  simp only [List.map_cons, List.map_nil, List.cons.injEq, Prod.mk.injEq, and_true] at hm
  obtain ⟨⟨t0, o0⟩, t1, o1⟩ := hm
  have hs : Try.prog.underlying 23 = some (.struct #[f0, f1]) := by rw [under23, e']
  obtain ⟨cs, rfl, hsz⟩ := okWide_struct hs hval
  obtain ⟨l, rfl⟩ : ∃ l : List Value, cs = l.toArray := ⟨cs.toList, by simp⟩
  rw [cells23] at hsz
  obtain ⟨c0, c1, rfl⟩ := two_of (show l.length = 2 by simpa using hsz)
  obtain ⟨fuel, hf⟩ := h
  obtain ⟨xs, n, _, _, _, hlen, hfs⟩ := DataW.trod_struct hs hf
  obtain ⟨y0, y1, rfl⟩ := two_of (show xs.length = 2 by simpa using hlen)
  have h0 := hfs 0 f0 rfl
  have h1 := hfs 1 f1 rfl
  rw [t0, o0, cells9] at h0
  rw [t1, o1, cells3] at h1
  have h0 : DataW.trod enc Try.prog W 0 (fun _ => true) true n 9 [c0] = some y0 := h0
  have h1 : DataW.trod enc Try.prog W 0 (fun _ => true) true n 3 [c1] = some y1 := h1
  obtain ⟨s, hs0, _, hsm⟩ := DataW.trod_string Try.underlying9 h0
  obtain ⟨i, hi1, _, wi⟩ := DataW.trod_int Try.underlying3 h1
  simp only [List.cons.injEq, and_true] at hs0 hi1
  have bi := bounds_i64 wi
  exact ⟨s, i, by rw [hs0, hi1], hsm, bi.1, bi.2⟩
end
end Go.Proofs.Ytlopndnjkphdnaa
