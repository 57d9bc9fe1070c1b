/-
  Arguments: acts that came in.
-/
import Derived.Test.YtcjkbmmjpkghlaaGreatQMetaO
namespace Go.Proofs.YtcjkbmmjpkghlaaGreat.Vol
open Go.RowKit Go.ChangeShapes Go.WideShapes Go.ChangeAt Go.Deep Go.Joins Meta

/-- An act. -/
structure VA where
  k : Nat
  at_ : Int
  lab : Nat
  c : Nat
  A : Option Addr
  cap : Nat
  b : List UInt8
  m : Inode.Ino
  th : Nat
def VA.z : VA := ⟨0, 0, 0, 0, none, 0, [], .z, 0⟩
def actC (a : VA) : List Value := [.int .u8 (a.k : Int), .int .i64 a.at_, .int .u16 (a.lab : Int), .int .u8 (a.c : Int), .slice a.A a.b.length a.cap] ++ Inode.cellsI a.m ++ [.int .u64 (a.th : Int)]
structure Oka (W : World) (a : VA) : Prop where
  k : a.k < 256
  at_ : -9223372036854775808 ≤ a.at_ ∧ a.at_ ≤ 9223372036854775807
  lab : a.lab < 65536
  c : a.c < 256
  cap : a.b.length ≤ a.cap ∧ a.cap ≤ maxLen
  b : Rd W W.heap.size a.A (bytesV a.b)
  m : Inode.Oki a.m
  th : a.th < 18446744073709551616
theorem twenty_some {α : Type} {l : List α} (h : l.length = 20) : ∃ c0 c1 c2 c3 c4 c5 c6 c7 c8 c9 c10 c11 c12 c13 c14 c15 c16 c17 c18 c19, l = [c0, c1, c2, c3, c4, c5, c6, c7, c8, c9, c10, c11, c12, c13, c14, c15, c16, c17, c18, c19] := by
  match l, h with
  | [c0, c1, c2, c3, c4, c5, c6, c7, c8, c9, c10, c11, c12, c13, c14, c15, c16, c17, c18, c19], _ => exact ⟨c0, c1, c2, c3, c4, c5, c6, c7, c8, c9, c10, c11, c12, c13, c14, c15, c16, c17, c18, c19, rfl⟩
theorem u64_nat {n : Int} (h : (Lit.int .u64 n).wf = true) : ∃ m : Nat, n = (m : Int) ∧ m < 18446744073709551616 := by
  have := bounds_u64 h
  exact ⟨n.toNat, by omega, by omega⟩
theorem underA : Tryz.prog.underlying 43 = some (.struct (Tryz.prog.fieldsOf 43)) := by kernel_rfl
theorem cellsA : Tryz.prog.cellsOf 43 = 20 := by kernel_rfl
theorem cells64 : Tryz.prog.cellsOf 41 = 1 := by kernel_rfl
section
variable {H : Type} {enc : TypeId × Value → H} {W : World}
set_option maxRecDepth 100000 in
theorem one_act (fuel : Nat) (cs : List Value) (d : DataW H) (p : List MemPlace) (hcl : cs.length = 20) (hlt : ∀ y ∈ p, y.block < W.heap.size) (h : DataW.trod enc Tryz.prog W 0 (fun _ => true) true fuel 43 cs = some (d, p)) : ∃ x : VA, cs = actC x ∧ Oka W x := by
  have hl : (Tryz.prog.fieldsOf 43).toList.length = 7 := by kernel_rfl
  have hm : (Tryz.prog.fieldsOf 43).toList.map (fun f => (f.type, f.offset)) = [(5, 0), (3, 1), (36, 2), (5, 3), (37, 4), (40, 5), (41, 19)] := by kernel_rfl
  obtain ⟨f0, f1, f2, f3, f4, f5, f6, e⟩ := seven_some hl
  have e' : Tryz.prog.fieldsOf 43 = #[f0, f1, f2, f3, f4, f5, f6] := by rw [← Array.toList_inj]; exact e
  rw [e] at hm
  simp only [List.map_cons, List.map_nil, List.cons.injEq, Prod.mk.injEq, and_true] at hm
  obtain ⟨⟨t0, o0⟩, ⟨t1, o1⟩, ⟨t2, o2⟩, ⟨t3, o3⟩, ⟨t4, o4⟩, ⟨t5, o5⟩, t6, o6⟩ := hm
  have hs : Tryz.prog.underlying 43 = some (.struct #[f0, f1, f2, f3, f4, f5, f6]) := by rw [underA, e']
  have cells5 := cellsP.1
  have cells3 := cellsP.2.1
  have cells40 := cellsP.2.2.2.1
  have cells37 := cellsP.2.2.2.2.1
  have cells36 := cellsP.2.2.2.2.2.1
  obtain ⟨c0, c1, c2, c3, c4, c5, c6, c7, c8, c9, c10, c11, c12, c13, c14, c15, c16, c17, c18, c19, rfl⟩ := twenty_some hcl
  obtain ⟨xs, n, _, hx, _, hlen, hfs⟩ := DataW.trod_struct hs h
  obtain ⟨y0, y1, y2, y3, y4, y5, y6, rfl⟩ := seven_some (show xs.length = 7 by simpa using hlen)
  simp only [Prod.mk.injEq] at hx
  have h0 := hfs 0 f0 rfl
  have h1 := hfs 1 f1 rfl
  have h2 := hfs 2 f2 rfl
  have h3 := hfs 3 f3 rfl
  have h4 := hfs 4 f4 rfl
  have h5 := hfs 5 f5 rfl
  have h6 := hfs 6 f6 rfl
  rw [t0, o0, cells5] at h0
  rw [t1, o1, cells3] at h1
  rw [t2, o2, cells36] at h2
  rw [t3, o3, cells5] at h3
  rw [t4, o4, cells37] at h4
  rw [t5, o5, cells40] at h5
  rw [t6, o6, cells64] at h6
  have h0 : DataW.trod enc Tryz.prog W 0 (fun _ => true) true n 5 [c0] = some y0 := h0
  have h1 : DataW.trod enc Tryz.prog W 0 (fun _ => true) true n 3 [c1] = some y1 := h1
  have h2 : DataW.trod enc Tryz.prog W 0 (fun _ => true) true n 36 [c2] = some y2 := h2
  have h3 : DataW.trod enc Tryz.prog W 0 (fun _ => true) true n 5 [c3] = some y3 := h3
  have h4 : DataW.trod enc Tryz.prog W 0 (fun _ => true) true n 37 [c4] = some (y4.1, y4.2) := h4
  have h5 : DataW.trod enc Tryz.prog W 0 (fun _ => true) true n 40 [c5, c6, c7, c8, c9, c10, c11, c12, c13, c14, c15, c16, c17, c18] = some (y5.1, y5.2) := h5
  have h6 : DataW.trod enc Tryz.prog W 0 (fun _ => true) true n 41 [c19] = some y6 := h6
  obtain ⟨k, hk, _, wk⟩ := DataW.trod_int Tryz.underlying5 h0
  obtain ⟨a, ha, _, wa⟩ := DataW.trod_int Tryz.underlying3 h1
  obtain ⟨b, hb, _, wb⟩ := DataW.trod_int Tryz.underlying36 h2
  obtain ⟨c, hc, _, wc⟩ := DataW.trod_int Tryz.underlying5 h3
  obtain ⟨t, ht, _, wt⟩ := DataW.trod_int Tryz.underlying41 h6
  obtain ⟨A2, n2, cc2, l2, rfl, d1, d2, d3, d4, _, _⟩ := open_list Tryz.underlying37 cellsP.1 (by omega) (fun x : UInt8 => [byteV x]) 0 (fun _ => True) one_u8 h4 (fun x hx4 => hlt x (by rw [hx.2]; simp [hx4]))
  obtain ⟨mi, hmi, hoi⟩ := one_ino n _ _ _ rfl (fun x hx5 => hlt x (by rw [hx.2]; simp [hx5])) h5
  obtain ⟨k', rfl, bk⟩ := u8_nat wk
  obtain ⟨b', rfl, bb⟩ := u16_nat wb
  obtain ⟨c', rfl, bc⟩ := u8_nat wc
  obtain ⟨t', rfl, bt⟩ := u64_nat wt
  have ba := bounds_i64 wa
  have ba2 : -9223372036854775808 ≤ a ∧ a ≤ 9223372036854775807 := ⟨by omega, by omega⟩
  subst d1
  simp only [List.cons.injEq, and_true] at hk ha hb hc ht
  refine ⟨⟨k', a, b', c', A2, cc2, l2, mi, t'⟩, ?_, bk, ba2, bb, bc, ⟨d2, d3⟩, by rw [bytesV_flat]; exact d4, hoi, bt⟩
  unfold actC
  rw [← hmi, hk, ha, hb, hc, ht]
  rfl
set_option maxRecDepth 100000 in
/-- An act that came in. -/
theorem open_act {base : Nat} {v : Value} {d : DataW H} {p : List MemPlace} (hval : Value.okWide Tryz.prog W .any base 43 v) (h : DataW.Trod enc Tryz.prog W 0 (fun _ => true) true 43 v d p) (hlt : ∀ x ∈ p, x.block < W.heap.size) :
    ∃ x : VA, v = .agg (actC x).toArray ∧ Oka W x := by
  obtain ⟨cs, rfl, hsz⟩ := okWide_struct underA hval
  obtain ⟨fuel, hf⟩ := h
  rw [cellsA] at hsz
  obtain ⟨x, h1, h2⟩ := one_act fuel cs.toList d p (by simpa using hsz) hlt hf
  refine ⟨x, ?_, h2⟩
  rw [← h1]
end
end Go.Proofs.YtcjkbmmjpkghlaaGreat.Vol
