/-
  The document's example.
-/
import Derived.Test.YtcjkbmmjpkghlaaGreatQVolE
namespace Go.Proofs.YtcjkbmmjpkghlaaGreat.Vol
open Go.RowKit Keep Meta

theorem right_chk {l : List Intern.Rw} (h0 : l.length = 16) (h1 : ∀ i, i < 16 → Intern.fits (l.getD i .z) = true) (h2 : ∀ i, i < 16 → ∀ k, k < 16 → (l.getD i .z).refs ≠ 0 → (l.getD k .z).refs ≠ 0 → (l.getD i .z).lab = (l.getD k .z).lab → i = k) : Intern.Right l where
  len := h0
  fits i r hr := by
    have hlt := (List.getElem?_eq_some_iff.1 hr).1
    have := h1 i (by omega)
    rwa [List.getD_eq_getElem?_getD, hr] at this
  one i k r s hr hs a b c := by
    have hi := (List.getElem?_eq_some_iff.1 hr).1
    have hk := (List.getElem?_eq_some_iff.1 hs).1
    have := h2 i (by omega) k (by omega)
    rw [List.getD_eq_getElem?_getD, List.getD_eq_getElem?_getD, hr, hs] at this
    exact this a b c
theorem ret_new {l : List Intern.Rw} {a i : Nat} (h : Intern.Right l) (hf : Intern.fnd l a = none) (hg : Intern.freeAt l = some i) : Intern.retP l a = ⟨l.set i ⟨a, 1⟩, i, 0⟩ := by
  unfold Intern.retP
  rw [Intern.rightB_yes h, if_pos rfl, hf, hg]
theorem rel_last {l : List Intern.Rw} {r : Nat} (h : Intern.Right l) (hr : r < 16) (h1 : (l.getD r .z).refs = 1) : Intern.relP l (r : Int) = ⟨l.set r .z, 0, 0⟩ := by
  unfold Intern.relP
  have e : ((r : Int) : Int).toNat = r := by omega
  have d1 : decide (0 ≤ (r : Int)) = true := decide_eq_true (by omega)
  have d2 : decide ((r : Int) < 16) = true := decide_eq_true (by omega)
  rw [Intern.rightB_yes h, d1, d2]
  simp only [Bool.and_self, if_true, e, h1]
  rw [if_neg (by decide)]
  unfold Intern.Rw.less
  rw [h1, if_pos rfl]
def rowsN (a b : Intern.Rw) : List Intern.Rw := a :: b :: List.replicate 14 .z
def MM (a b : Intern.Rw) (o p : Int) (u : UInt8) : Meta.Met := ⟨rowsN a b, [o, p], u :: List.replicate 63 0, List.replicate 8 .z⟩
theorem mm0 : newM ⟨((130 : Nat) : Int), ((8 : Nat) : Int), ((2 : Nat) : Int), ((4 : Nat) : Int)⟩ = MM .z .z 0 0 0 := by kernel_rfl
theorem mm_own {a b : Intern.Rw} {o p : Int} {u : UInt8} (ho : o = 0 ∨ o = 1) (hp : p = 0 ∨ p = 2) : ∀ (q : Nat) (v : Int), (MM a b o p u).own[q]? = some v → v = 0 ∨ ∃ (r : Nat) (y : Intern.Rw), v = (r : Int) + 1 ∧ (MM a b o p u).rows[r]? = some y := by
  intro q v h
  match q, h with
  | 0, h =>
    have h : some o = some v := h
    cases h
    rcases ho with rfl | rfl
    · exact .inl rfl
    · exact .inr ⟨0, a, rfl, rfl⟩
  | 1, h =>
    have h : some p = some v := h
    cases h
    rcases hp with rfl | rfl
    · exact .inl rfl
    · exact .inr ⟨1, b, rfl, rfl⟩
  | n + 2, h => exact absurd h (by show ¬ (([] : List Int)[n]? = some v); simp)
theorem r0 : Intern.Right (rowsN .z .z) := right_chk rfl (by decide +kernel) (by decide +kernel)
theorem r1 : Intern.Right (rowsN ⟨2, 1⟩ .z) := right_chk rfl (by decide +kernel) (by decide +kernel)
theorem r2 : Intern.Right (rowsN ⟨2, 1⟩ ⟨4, 1⟩) := right_chk rfl (by decide +kernel) (by decide +kernel)
theorem r5 : Intern.Right (rowsN .z ⟨4, 1⟩) := right_chk rfl (by decide +kernel) (by decide +kernel)
theorem t1 : Intern.retP (rowsN .z .z) 2 = ⟨rowsN ⟨2, 1⟩ .z, 0, 0⟩ := ret_new (a := 2) (i := 0) r0 (by decide +kernel) (by decide +kernel)
theorem t2 : Intern.retP (rowsN ⟨2, 1⟩ .z) 4 = ⟨rowsN ⟨2, 1⟩ ⟨4, 1⟩, 1, 0⟩ := ret_new (a := 4) (i := 1) r1 (by decide +kernel) (by decide +kernel)
theorem t5 : Intern.relP (rowsN ⟨2, 1⟩ ⟨4, 1⟩) ((0 : Nat) : Int) = ⟨rowsN .z ⟨4, 1⟩, 0, 0⟩ := rel_last r2 (by decide) rfl
theorem t6 : Intern.retP (rowsN .z ⟨4, 1⟩) 8 = ⟨rowsN ⟨8, 1⟩ ⟨4, 1⟩, 0, 0⟩ := ret_new (a := 8) (i := 0) r5 (by decide +kernel) (by decide +kernel)
theorem c1 : takeU (claimM (MM .z .z 0 0 0) 2 0) (0 * 4) = MM ⟨2, 1⟩ .z 1 0 1 := by
  unfold takeU claimM
  rw [show (MM .z .z 0 0 0).rows = rowsN .z .z from rfl, t1]
  kernel_rfl
theorem c2 : takeU (claimM (MM ⟨2, 1⟩ .z 1 0 1) 4 1) (1 * 4) = MM ⟨2, 1⟩ ⟨4, 1⟩ 1 2 17 := by
  unfold takeU claimM
  rw [show (MM ⟨2, 1⟩ .z 1 0 1).rows = rowsN ⟨2, 1⟩ .z from rfl, t2]
  kernel_rfl
theorem c3 : takeU (MM ⟨2, 1⟩ ⟨4, 1⟩ 1 2 17) 1 = MM ⟨2, 1⟩ ⟨4, 1⟩ 1 2 19 := by kernel_rfl
theorem c4 : freeU (MM ⟨2, 1⟩ ⟨4, 1⟩ 1 2 19) 0 = MM ⟨2, 1⟩ ⟨4, 1⟩ 1 2 18 := by kernel_rfl
theorem c5 : freeL (MM ⟨2, 1⟩ ⟨4, 1⟩ 1 2 18) 4 1 0 = MM .z ⟨4, 1⟩ 0 2 16 := by
  unfold freeL
  rw [show (MM ⟨2, 1⟩ ⟨4, 1⟩ 1 2 18).rows = rowsN ⟨2, 1⟩ ⟨4, 1⟩ from rfl, t5]
  kernel_rfl
theorem c6 : takeU (claimM (MM .z ⟨4, 1⟩ 0 2 16) 8 0) (0 * 4) = MM ⟨8, 1⟩ ⟨4, 1⟩ 1 2 17 := by
  unfold takeU claimM
  rw [show (MM .z ⟨4, 1⟩ 0 2 16).rows = rowsN .z ⟨4, 1⟩ from rfl, t6]
  kernel_rfl
theorem u1 : unu 4 (MM .z .z 0 0 0) 2 = none := by decide +kernel
theorem u2 : unu 4 (MM ⟨2, 1⟩ .z 1 0 1) 4 = none := by decide +kernel
theorem u3 : unu 4 (MM ⟨2, 1⟩ ⟨4, 1⟩ 1 2 17) 2 = some 1 := by decide +kernel
theorem u6 : unu 4 (MM .z ⟨4, 1⟩ 0 2 16) 8 = none := by decide +kernel
theorem g4 : usedG 4 (Bits.wb (MM ⟨2, 1⟩ ⟨4, 1⟩ 1 2 19).used 0 false) (0 / 4) = true := by decide +kernel
theorem g5 : usedG 4 (Bits.wb (MM ⟨2, 1⟩ ⟨4, 1⟩ 1 2 18).used 1 false) (1 / 4) = false := by decide +kernel
end Go.Proofs.YtcjkbmmjpkghlaaGreat.Vol

/-
  shown.
-/
namespace Go.Proofs.YtcjkbmmjpkghlaaGreat.Vol
open Go.RowKit Keep Meta

theorem MapIs.move {β : Type} {R : Value → Option (DataW Unit × List MemPlace)} {dat : β → DataW Unit} {z : β} {w w' : World} {b b' m : Nat} {at_ : Int → β} {there : Int → Bool} (h : MapIs R dat z w b at_ there m) (hb : w'.heap[b']? = w.heap[b]?) : MapIs R dat z w' b' at_ there m := by
  obtain ⟨D, ⟨es, clock, h1, h2⟩, h3⟩ := h
  exact ⟨D, ⟨es, clock, hb.trans h1, h2⟩, h3⟩
theorem map_fresh {w : World} {bm : Nat} (h : w.heap[bm]? = some (.map #[] 0)) : MapIs conR conD zx w bm (fun _ => zx) (fun _ => false) 0 :=
  (MapIs.made w conR conD zx).move (h.trans (by show _ = (w.heap.push (.map #[] 0))[w.heap.size]?; exact Array.getElem?_push_size.symm))
theorem at_own {w : World} {base e k n c : Nat} {A : Option Addr} {xs : List Value} (h : w.ownsRow base e k (.slice A n c) n xs) : At (base ≤ ·) A := by
  obtain ⟨A2, c2, hv, hA⟩ := own_any h
  injection hv with hv
  subst hv
  exact hA
/-- A volume that was just mounted. -/
theorem vs_mounted {j i g pp b bv bj bm c : Nat} {w w' : World} {x : Meta.Mem} {m : Meta.Met} {A : Option Addr} (h1 : Bk w' bv 102 (volC j i g pp b bj bm x m (.pointer none) A c false)) (h2 : OwnM w' w.heap.size x m) (h3 : w.heap.size ≤ bv) : Vs (w.heap.size ≤ ·) w' bv x m bm (restC j i g pp b bj (.pointer none) A c false) :=
  ⟨h1, h2.base (Nat.zero_le _), h3, at_own h2.rows, at_own h2.own, at_own h2.used, at_own h2.ino⟩
/-- The example's volume, at a world since another. -/
def Sh (w W : World) (bv bm b bj : Nat) (A : Option Addr) (c : Nat) (M : Meta.Met) (B : Nat) (u : World) : Prop := ∃ x at_ there n, n ≤ B ∧ VM (w.heap.size ≤ ·) W u bv bm x M (restC 130 8 2 4 b bj (.pointer none) A c false) at_ there n
theorem vg8 : VG 130 8 2 4 := ⟨⟨by decide, by decide, by decide, by decide, by decide, by decide, by decide, by decide, by decide⟩, by decide⟩
section
variable {w W u : World} {bv bm b bj c : Nat} {A : Option Addr} {B : Nat}
theorem sh_new {M N : Meta.Met} {a q : Nat} (h : Sh w W bv bm b bj A c M B u) (hl : M.rows.length = 16) (hg : M.own.length = 2) (hu : M.used.length = 64) (hown : ∀ (q : Nat) (o : Int), M.own[q]? = some o → o = 0 ∨ ∃ (r : Nat) (y : Intern.Rw), o = (r : Int) + 1 ∧ M.rows[r]? = some y) (hun : unu 4 M a = none) (hq : idx0 M.own = some q) (h0 : (Intern.retP M.rows a).err = 0) (hat : (Intern.retP M.rows a).at_ ≤ 65536) (hN : takeU (claimM M a q) (q * 4) = N) :
    Calls Tryz.prog 33 #[.pointer (some ⟨bv, 0, none⟩), .int .u16 (a : Int)] u fun e w' => e = .returned (.tuple #[.int .i64 ((q * 4 : Nat) : Int), .int .i64 0]) ∧ Sh w W bv bm b bj A c N B w' := by
  obtain ⟨x, at_, there, n, hn, hv⟩ := h
  refine (alloc_new vg8 hv a q hl hg hu hown hun hq h0 hat).mono ?_
  rintro e w' ⟨he, x', h⟩
  rw [hN] at h
  exact ⟨he, x', at_, there, n, hn, h⟩
theorem sh_hit {M N : Meta.Met} {a n0 : Nat} (h : Sh w W bv bm b bj A c M B u) (hl : M.rows.length = 16) (hg : M.own.length = 2) (hu : M.used.length = 64) (hown : ∀ (q : Nat) (o : Int), M.own[q]? = some o → o = 0 ∨ ∃ (r : Nat) (y : Intern.Rw), o = (r : Int) + 1 ∧ M.rows[r]? = some y) (hun : unu 4 M a = some n0) (hn0 : n0 < 512) (hN : takeU M n0 = N) :
    Calls Tryz.prog 33 #[.pointer (some ⟨bv, 0, none⟩), .int .u16 (a : Int)] u fun e w' => e = .returned (.tuple #[.int .i64 (n0 : Int), .int .i64 0]) ∧ Sh w W bv bm b bj A c N B w' := by
  obtain ⟨x, at_, there, n, hn, hv⟩ := h
  refine (alloc_hit vg8 hv a n0 hl hg hu hown hun hn0).mono ?_
  rintro e w' ⟨he, x', h⟩
  rw [hN] at h
  exact ⟨he, x', at_, there, n, hn, h⟩
theorem sh_free {M N : Meta.Met} {a r : Nat} {y : Intern.Rw} (h : Sh w W bv bm b bj A c M B u) (hB : B < 1000) (ha : a < 8) (hbit : Bits.hb M.used a = true) (hq : M.own[a / 4]? = some ((r : Int) + 1)) (hy : M.rows[r]? = some y) (hyl : y.lab < 65536) (hl : M.rows.length = 16) (hg : M.own.length = 2) (hu : M.used.length = 64)
    (hrel : usedG 4 (Bits.wb M.used a false) (a / 4) = false → (Intern.relP M.rows (r : Int)).err = 0) (hN : (if usedG 4 (Bits.wb M.used a false) (a / 4) then freeU M a else freeL M 4 a r) = N) :
    Calls Tryz.prog 36 #[.pointer (some ⟨bv, 0, none⟩), .int .i64 (a : Int)] u fun e w' => e = .returned (.int .i64 0) ∧ Sh w W bv bm b bj A c N (B + 1) w' := by
  obtain ⟨x, at_, there, n, hn, hv⟩ := h
  have hv2 : VM (fun i => w.heap.size ≤ i ∨ W.heap.size ≤ i) u u bv bm x M (restC 130 8 2 4 b bj (.pointer none) A c false) at_ there n := .start hv.vs hv.map hv.pm
  refine (free_ok vg8 hv2 (by unfold maxLen; omega) a r y ha hbit hq hy hyl hl hg hu hrel).mono ?_
  rintro e w' ⟨he, x', h⟩
  rw [hN] at h
  refine ⟨he, x', _, _, _, ?_, ⟨h.vs.mono (fun i hi => ?_), h.map, ?_, hv.kept.trans h.kept (fun i hi => hi)⟩⟩
  · split <;> omega
  · rcases hi with hi | hi
    · exact hi
    · exact .inr (Nat.le_trans hv.kept.size hi)
  · rcases h.pm with hi | hi
    · exact hi
    · exact .inr (Nat.le_trans hv.kept.size hi)
end
set_option maxRecDepth 100000 in
set_option maxHeartbeats 6400000 in
theorem shown_any (w : World) : Calls Tryz.prog 9 #[] w fun e w' => e = .returned (.bool true) ∧ Below w.heap.size w w' := by
  have HBU : Hid (Calls Tryz.prog 10 #[.agg #[.int .i64 130, .int .i64 8, .int .i64 2, .int .i64 4]] w fun e w' => ∃ (b bv bj bm : Nat) (A : Option Addr) (c : Nat), e = .returned (.tuple #[.pointer (some ⟨b, 0, none⟩), .pointer (some ⟨bv, 0, none⟩), .bool true]) ∧ Sh w w' bv bm b bj A c (MM .z .z 0 0 0) 0 w' ∧ Below w.heap.size w w') := Lib.hid (by
    refine (built_ok vg8 w).mono ?_
    rintro e w' ⟨b, bv, bj, bm, S', k', x, A, c, L, he, h1, h2, h3, h4, h5, h6, h7, h8, h9, h10, h11⟩
    rw [mm0] at h1 h3
    exact ⟨b, bv, bj, bm, A, c, he, ⟨x, _, _, 0, Nat.le_refl _, .start (vs_mounted h1 h3 h9) (map_fresh h2) h10⟩, h11⟩)
  have HA1 : Hid (∀ (W u : World) (bv bm b bj : Nat) (A : Option Addr) (c : Nat) (h : Sh w W bv bm b bj A c (MM .z .z 0 0 0) 0 u), Calls Tryz.prog 33 #[.pointer (some ⟨bv, 0, none⟩), .int .u16 2] u fun e w' => e = .returned (.tuple #[.int .i64 0, .int .i64 0]) ∧ Sh w W bv bm b bj A c (MM ⟨2, 1⟩ .z 1 0 1) 0 w') := Lib.hid (fun W u bv bm b bj A c h => sh_new h rfl rfl rfl (mm_own (.inl rfl) (.inl rfl)) u1 (q := 0) (by decide +kernel) (by rw [show (MM .z .z 0 0 0).rows = rowsN .z .z from rfl, t1]) (by rw [show (MM .z .z 0 0 0).rows = rowsN .z .z from rfl, t1]; decide) c1)
  have HA2 : Hid (∀ (W u : World) (bv bm b bj : Nat) (A : Option Addr) (c : Nat) (h : Sh w W bv bm b bj A c (MM ⟨2, 1⟩ .z 1 0 1) 0 u), Calls Tryz.prog 33 #[.pointer (some ⟨bv, 0, none⟩), .int .u16 4] u fun e w' => e = .returned (.tuple #[.int .i64 4, .int .i64 0]) ∧ Sh w W bv bm b bj A c (MM ⟨2, 1⟩ ⟨4, 1⟩ 1 2 17) 0 w') := Lib.hid (fun W u bv bm b bj A c h => sh_new h rfl rfl rfl (mm_own (.inr rfl) (.inl rfl)) u2 (q := 1) (by decide +kernel) (by rw [show (MM ⟨2, 1⟩ .z 1 0 1).rows = rowsN ⟨2, 1⟩ .z from rfl, t2]) (by rw [show (MM ⟨2, 1⟩ .z 1 0 1).rows = rowsN ⟨2, 1⟩ .z from rfl, t2]; decide) c2)
  have HA3 : Hid (∀ (W u : World) (bv bm b bj : Nat) (A : Option Addr) (c : Nat) (h : Sh w W bv bm b bj A c (MM ⟨2, 1⟩ ⟨4, 1⟩ 1 2 17) 0 u), Calls Tryz.prog 33 #[.pointer (some ⟨bv, 0, none⟩), .int .u16 2] u fun e w' => e = .returned (.tuple #[.int .i64 1, .int .i64 0]) ∧ Sh w W bv bm b bj A c (MM ⟨2, 1⟩ ⟨4, 1⟩ 1 2 19) 0 w') := Lib.hid (fun W u bv bm b bj A c h => sh_hit h rfl rfl rfl (mm_own (.inr rfl) (.inr rfl)) u3 (by decide) c3)
  have HA4 : Hid (∀ (W u : World) (bv bm b bj : Nat) (A : Option Addr) (c : Nat) (h : Sh w W bv bm b bj A c (MM ⟨2, 1⟩ ⟨4, 1⟩ 1 2 19) 0 u), Calls Tryz.prog 36 #[.pointer (some ⟨bv, 0, none⟩), .int .i64 0] u fun e w' => e = .returned (.int .i64 0) ∧ Sh w W bv bm b bj A c (MM ⟨2, 1⟩ ⟨4, 1⟩ 1 2 18) 1 w') := Lib.hid (fun W u bv bm b bj A c h => sh_free h (a := 0) (r := 0) (y := ⟨2, 1⟩) (by decide) (by decide) (by decide +kernel) rfl rfl (by decide) rfl rfl rfl (fun h => by rw [g4] at h; cases h) (by rw [g4]; exact c4))
  have HA5 : Hid (∀ (W u : World) (bv bm b bj : Nat) (A : Option Addr) (c : Nat) (h : Sh w W bv bm b bj A c (MM ⟨2, 1⟩ ⟨4, 1⟩ 1 2 18) 1 u), Calls Tryz.prog 36 #[.pointer (some ⟨bv, 0, none⟩), .int .i64 1] u fun e w' => e = .returned (.int .i64 0) ∧ Sh w W bv bm b bj A c (MM .z ⟨4, 1⟩ 0 2 16) 2 w') := Lib.hid (fun W u bv bm b bj A c h => sh_free h (a := 1) (r := 0) (y := ⟨2, 1⟩) (by decide) (by decide) (by decide +kernel) rfl rfl (by decide) rfl rfl rfl (fun h => by rw [show (MM ⟨2, 1⟩ ⟨4, 1⟩ 1 2 18).rows = rowsN ⟨2, 1⟩ ⟨4, 1⟩ from rfl, t5]) (by rw [g5]; exact c5))
  have HA6 : Hid (∀ (W u : World) (bv bm b bj : Nat) (A : Option Addr) (c : Nat) (h : Sh w W bv bm b bj A c (MM .z ⟨4, 1⟩ 0 2 16) 2 u), Calls Tryz.prog 33 #[.pointer (some ⟨bv, 0, none⟩), .int .u16 8] u fun e w' => e = .returned (.tuple #[.int .i64 0, .int .i64 0]) ∧ Sh w W bv bm b bj A c (MM ⟨8, 1⟩ ⟨4, 1⟩ 1 2 17) 2 w') := Lib.hid (fun W u bv bm b bj A c h => sh_new h rfl rfl rfl (mm_own (.inl rfl) (.inr rfl)) u6 (q := 0) (by decide +kernel) (by rw [show (MM .z ⟨4, 1⟩ 0 2 16).rows = rowsN .z ⟨4, 1⟩ from rfl, t6]) (by rw [show (MM .z ⟨4, 1⟩ 0 2 16).rows = rowsN .z ⟨4, 1⟩ from rfl, t6]; decide) c6)
  go_enter Tryz.func9, Tryz.ntmps9
  go_wp2_with (first | (go_at_call 10; go_must (with_reducible refine HBU.out.mono ?_); rintro e w1 ⟨b, bv, bj, bm, A, c, he, hsh, hb⟩; obtain rfl := he; have HV := Lib.hid hsh; have HB := Lib.hid hb; clear hsh hb) | (go_at_call 33; (with_reducible refine (HA1.out _ _ _ _ _ _ _ _ HV.out).mono ?_); rintro e w2 ⟨he, h⟩; obtain rfl := he; replace HV := Lib.hid h; clear h) | (go_at_call 33; (with_reducible refine (HA2.out _ _ _ _ _ _ _ _ HV.out).mono ?_); rintro e w3 ⟨he, h⟩; obtain rfl := he; replace HV := Lib.hid h; clear h) | (go_at_call 33; (with_reducible refine (HA3.out _ _ _ _ _ _ _ _ HV.out).mono ?_); rintro e w4 ⟨he, h⟩; obtain rfl := he; replace HV := Lib.hid h; clear h) | (go_at_call 36; (with_reducible refine (HA4.out _ _ _ _ _ _ _ _ HV.out).mono ?_); rintro e w5 ⟨he, h⟩; obtain rfl := he; replace HV := Lib.hid h; clear h) | (go_at_call 36; (with_reducible refine (HA5.out _ _ _ _ _ _ _ _ HV.out).mono ?_); rintro e w6 ⟨he, h⟩; obtain rfl := he; replace HV := Lib.hid h; clear h) | (go_at_call 33; (with_reducible refine (HA6.out _ _ _ _ _ _ _ _ HV.out).mono ?_); rintro e w7 ⟨he, h⟩; obtain rfl := he; replace HV := Lib.hid h; clear h))
  go_ret
  refine ⟨rfl, ?_⟩
  obtain ⟨x, at_, there, n, -, hv⟩ := HV.out
  exact HB.out.trans ((hv.kept).below (fun i hi => hi) HB.out.size)
end Go.Proofs.YtcjkbmmjpkghlaaGreat.Vol

/-
  What a nil volume answers.
-/
namespace Go.Proofs.YtcjkbmmjpkghlaaGreat.Vol
open Go.RowKit Keep Meta

set_option maxRecDepth 100000 in
set_option maxHeartbeats 1600000 in
theorem nil_groupof (a : Int) (w : World) :
    Calls Tryz.prog 78 #[.pointer none, .int .i64 a] w fun e w' => e = .returned (.tuple #[.int .i64 0, .int .i64 2]) ∧ Below w.heap.size w w' := by
  go_enter Tryz.func78, Tryz.ntmps78
  have HB := Lib.hid (Below.refl w.heap.size w)
  go_wp2_with (fail)
  refine bodyPost_ret (v := .tuple #[.int .i64 0, .int .i64 2]) (by simp [results, Tryz.results78, go_sem]) rfl ?_
  exact ⟨rfl, HB.out⟩
set_option maxRecDepth 100000 in
set_option maxHeartbeats 1600000 in
theorem nil_alloc (a : Nat) (w : World) :
    Calls Tryz.prog 33 #[.pointer none, .int .u16 (a : Int)] w fun e w' => e = .returned (.tuple #[.int .i64 0, .int .i64 2]) ∧ Below w.heap.size w w' := by
  go_enter Tryz.func33, Tryz.ntmps33
  have HB := Lib.hid (Below.refl w.heap.size w)
  go_wp2_with (fail)
  refine bodyPost_ret (v := .tuple #[.int .i64 0, .int .i64 2]) (by simp [results, Tryz.results33, go_sem]) rfl ?_
  exact ⟨rfl, HB.out⟩
set_option maxRecDepth 100000 in
set_option maxHeartbeats 1600000 in
theorem nil_read (a : Int) (w : World) :
    Calls Tryz.prog 30 #[.pointer none, .int .i64 a] w fun e w' => e = .returned (.tuple #[.slice none 0 0, .int .i64 2]) ∧ Below w.heap.size w w' := by
  go_enter Tryz.func30, Tryz.ntmps30
  have HB := Lib.hid (Below.refl w.heap.size w)
  go_wp2_with ((go_at_call 78; go_must (with_reducible refine (nil_groupof a _).mono ?_); rintro e w1 ⟨he, hb⟩; obtain rfl := he; replace HB := Lib.hid (HB.out.trans (hb.mono HB.out.size)); clear hb))
  refine bodyPost_ret (v := .tuple #[.slice none 0 0, .int .i64 2]) (by simp [results, Tryz.results30, go_sem]) rfl ?_
  exact ⟨rfl, HB.out⟩
set_option maxRecDepth 100000 in
set_option maxHeartbeats 1600000 in
theorem nil_make (k a : Nat) (w : World) :
    Calls Tryz.prog 34 #[.pointer none, .int .u8 (k : Int), .int .u16 (a : Int)] w fun e w' => e = .returned (.tuple #[.int .i64 0, .int .i64 2]) ∧ Below w.heap.size w w' := by
  go_enter Tryz.func34, Tryz.ntmps34
  have HB := Lib.hid (Below.refl w.heap.size w)
  go_wp2_with (fail)
  refine bodyPost_ret (v := .tuple #[.int .i64 0, .int .i64 2]) (by simp [results, Tryz.results34, go_sem]) rfl ?_
  exact ⟨rfl, HB.out⟩
set_option maxRecDepth 100000 in
set_option maxHeartbeats 1600000 in
theorem nil_abort  (w : World) :
    Calls Tryz.prog 18 #[.pointer none] w fun e w' => e = .returned (.tuple #[]) ∧ Below w.heap.size w w' := by
  go_enter Tryz.func18, Tryz.ntmps18
  have HB := Lib.hid (Below.refl w.heap.size w)
  go_wp2_with (fail)
  refine bodyPost_ret (results_none rfl _ _ _) rfl ?_
  exact ⟨rfl, HB.out⟩
set_option maxRecDepth 100000 in
set_option maxHeartbeats 1600000 in
theorem nil_begin  (w : World) :
    Calls Tryz.prog 17 #[.pointer none] w fun e w' => e = .returned (.int .i64 2) ∧ Below w.heap.size w w' := by
  go_enter Tryz.func17, Tryz.ntmps17
  have HB := Lib.hid (Below.refl w.heap.size w)
  go_wp2_with (fail)
  go_ret
  exact ⟨rfl, HB.out⟩
set_option maxRecDepth 100000 in
set_option maxHeartbeats 1600000 in
theorem nil_sync  (w : World) :
    Calls Tryz.prog 19 #[.pointer none] w fun e w' => e = .returned (.int .i64 2) ∧ Below w.heap.size w w' := by
  go_enter Tryz.func19, Tryz.ntmps19
  have HB := Lib.hid (Below.refl w.heap.size w)
  go_wp2_with (fail)
  go_ret
  exact ⟨rfl, HB.out⟩
set_option maxRecDepth 100000 in
set_option maxHeartbeats 1600000 in
theorem nil_free (a : Int) (w : World) :
    Calls Tryz.prog 36 #[.pointer none, .int .i64 a] w fun e w' => e = .returned (.int .i64 2) ∧ Below w.heap.size w w' := by
  go_enter Tryz.func36, Tryz.ntmps36
  have HB := Lib.hid (Below.refl w.heap.size w)
  go_wp2_with ((go_at_call 78; go_must (with_reducible refine (nil_groupof a _).mono ?_); rintro e w1 ⟨he, hb⟩; obtain rfl := he; replace HB := Lib.hid (HB.out.trans (hb.mono HB.out.size)); clear hb))
  go_ret
  exact ⟨rfl, HB.out⟩
set_option maxRecDepth 100000 in
set_option maxHeartbeats 1600000 in
theorem nil_write (a : Int) (A : Option Addr) (n c : Nat) (w : World) :
    Calls Tryz.prog 37 #[.pointer none, .int .i64 a, .slice A n c] w fun e w' => e = .returned (.int .i64 2) ∧ Below w.heap.size w w' := by
  go_enter Tryz.func37, Tryz.ntmps37
  have HB := Lib.hid (Below.refl w.heap.size w)
  go_wp2_with ((go_at_call 78; go_must (with_reducible refine (nil_groupof a _).mono ?_); rintro e w1 ⟨he, hb⟩; obtain rfl := he; replace HB := Lib.hid (HB.out.trans (hb.mono HB.out.size)); clear hb))
  go_ret
  exact ⟨rfl, HB.out⟩
set_option maxRecDepth 100000 in
set_option maxHeartbeats 1600000 in
theorem nil_dirty  (w : World) :
    Calls Tryz.prog 40 #[.pointer none] w fun e w' => e = .returned (.int .i64 0) ∧ Below w.heap.size w w' := by
  go_enter Tryz.func40, Tryz.ntmps40
  have HB := Lib.hid (Below.refl w.heap.size w)
  go_wp2_with (fail)
  go_ret
  exact ⟨rfl, HB.out⟩
set_option maxRecDepth 100000 in
set_option maxHeartbeats 1600000 in
theorem nil_format (j i g p : Int) (w : World) :
    Calls Tryz.prog 41 #[.pointer none, .agg #[.int .i64 j, .int .i64 i, .int .i64 g, .int .i64 p]] w fun e w' => e = .returned (.int .i64 2) ∧ Below w.heap.size w w' := by
  go_enter Tryz.func41, Tryz.ntmps41
  have HB := Lib.hid (Below.refl w.heap.size w)
  have hal := al_below w (.cells #[.int .i64 j, .int .i64 i, .int .i64 g, .int .i64 p] 29)
  go_wp2_with (fail)
  go_ret
  exact ⟨rfl, hal⟩
set_option maxRecDepth 100000 in
set_option maxHeartbeats 1600000 in
theorem nil_geo  (w : World) :
    Calls Tryz.prog 35 #[.pointer none] w fun e w' => e = .returned (.agg #[.int .i64 0, .int .i64 0, .int .i64 0, .int .i64 0]) ∧ Below w.heap.size w w' := by
  have hb := Bk.new w 29 [.int .i64 0, .int .i64 0, .int .i64 0, .int .i64 0]
  have HB := Lib.hid hb
  have hal := al_below w (.cells #[.int .i64 0, .int .i64 0, .int .i64 0, .int .i64 0] 29)
  have HAL := Lib.hid hal
  have fz := fun q => hb.frozen q
  have z0 := hb.cell 0
  have z1 := hb.cell 1
  have z2 := hb.cell 2
  have z3 := hb.cell 3
  simp only [List.getElem?_cons_succ, List.getElem?_cons_zero] at z0 z1 z2 z3
  clear hb hal
  go_enter Tryz.func35, Tryz.ntmps35
  go_wp2
  refine bodyPost_ret (v := .agg #[.int .i64 0, .int .i64 0, .int .i64 0, .int .i64 0]) (by simp [results, Tryz.results35, go_sem, z0, z1, z2, z3]) rfl ⟨rfl, HAL.out⟩
set_option maxRecDepth 100000 in
set_option maxHeartbeats 1600000 in
theorem nil_meta  (w : World) :
    Calls Tryz.prog 29 #[.pointer none] w fun e w' => e = .returned (.agg #[.slice none 0 0, .slice none 0 0, .slice none 0 0, .slice none 0 0]) ∧ Below w.heap.size w w' := by
  have hb := Bk.new w 60 [.slice none 0 0, .slice none 0 0, .slice none 0 0, .slice none 0 0]
  have HB := Lib.hid hb
  have hal := al_below w (.cells #[.slice none 0 0, .slice none 0 0, .slice none 0 0, .slice none 0 0] 60)
  have HAL := Lib.hid hal
  have fz := fun q => hb.frozen q
  have z0 := hb.cell 0
  have z1 := hb.cell 1
  have z2 := hb.cell 2
  have z3 := hb.cell 3
  simp only [List.getElem?_cons_succ, List.getElem?_cons_zero] at z0 z1 z2 z3
  clear hb hal
  go_enter Tryz.func29, Tryz.ntmps29
  go_wp2
  refine bodyPost_ret (v := .agg #[.slice none 0 0, .slice none 0 0, .slice none 0 0, .slice none 0 0]) (by simp [results, Tryz.results29, go_sem, z0, z1, z2, z3]) rfl ⟨rfl, HAL.out⟩
set_option maxRecDepth 100000 in
set_option maxHeartbeats 1600000 in
theorem nil_inode (a : Int) (w : World) :
    Calls Tryz.prog 22 #[.pointer none, .int .i64 a] w fun e w' => e = .returned (.tuple #[.agg #[.int .u8 0, .int .u8 0, .int .i64 0, .int .i64 0, .int .i64 0, .int .i64 0, .int .i64 0, .int .i64 0, .int .i64 0, .int .i64 0, .int .i64 0, .int .i64 0, .int .i64 0, .int .i64 0], .int .u16 0, .int .i64 2]) ∧ Below w.heap.size w w' := by
  have hb := Bk.new w 40 [.int .u8 0, .int .u8 0, .int .i64 0, .int .i64 0, .int .i64 0, .int .i64 0, .int .i64 0, .int .i64 0, .int .i64 0, .int .i64 0, .int .i64 0, .int .i64 0, .int .i64 0, .int .i64 0]
  have HB := Lib.hid hb
  have hal := al_below w (.cells #[.int .u8 0, .int .u8 0, .int .i64 0, .int .i64 0, .int .i64 0, .int .i64 0, .int .i64 0, .int .i64 0, .int .i64 0, .int .i64 0, .int .i64 0, .int .i64 0, .int .i64 0, .int .i64 0] 40)
  have HAL := Lib.hid hal
  have fz := fun q => hb.frozen q
  have z0 := hb.cell 0
  have z1 := hb.cell 1
  have z2 := hb.cell 2
  have z3 := hb.cell 3
  have z4 := hb.cell 4
  have z5 := hb.cell 5
  have z6 := hb.cell 6
  have z7 := hb.cell 7
  have z8 := hb.cell 8
  have z9 := hb.cell 9
  have z10 := hb.cell 10
  have z11 := hb.cell 11
  have z12 := hb.cell 12
  have z13 := hb.cell 13
  simp only [List.getElem?_cons_succ, List.getElem?_cons_zero] at z0 z1 z2 z3 z4 z5 z6 z7 z8 z9 z10 z11 z12 z13
  clear hb hal
  go_enter Tryz.func22, Tryz.ntmps22
  go_wp2
  refine bodyPost_ret (v := .tuple #[.agg #[.int .u8 0, .int .u8 0, .int .i64 0, .int .i64 0, .int .i64 0, .int .i64 0, .int .i64 0, .int .i64 0, .int .i64 0, .int .i64 0, .int .i64 0, .int .i64 0, .int .i64 0, .int .i64 0], .int .u16 0, .int .i64 2]) (by simp [results, Tryz.results22, go_sem, z0, z1, z2, z3, z4, z5, z6, z7, z8, z9, z10, z11, z12, z13]) rfl ⟨rfl, HAL.out⟩
end Go.Proofs.YtcjkbmmjpkghlaaGreat.Vol

/-
  What a nil disk and a nil volume answer: find, Mount, Unmake, Set.
-/
namespace Go.Proofs.YtcjkbmmjpkghlaaGreat.Vol
open Go.RowKit Keep Meta

set_option maxRecDepth 100000 in
set_option maxHeartbeats 1600000 in
theorem nil_find (w : World) : Calls Tryz.prog 60 #[.pointer none] w fun e w' => e = .returned (.tuple #[.agg #[.int .i64 0, .int .i64 0, .int .i64 0, .int .i64 0], .agg #[.int .i64 0, .int .i64 0, .int .i64 0, .int .i64 0, .int .i64 0, .int .i64 0, .int .i64 0], .int .i64 2]) ∧ Below w.heap.size w w' := by
  have hb1 := bk_alloc (Bk.new w 29 [.int .i64 0, .int .i64 0, .int .i64 0, .int .i64 0]) (.cells #[.int .i64 0, .int .i64 0, .int .i64 0, .int .i64 0, .int .i64 0, .int .i64 0, .int .i64 0] 82)
  have hb2 := Bk.new (w.alloc (.cells #[.int .i64 0, .int .i64 0, .int .i64 0, .int .i64 0] 29)) 82 [.int .i64 0, .int .i64 0, .int .i64 0, .int .i64 0, .int .i64 0, .int .i64 0, .int .i64 0]
  rw [show (w.alloc (.cells #[.int .i64 0, .int .i64 0, .int .i64 0, .int .i64 0] 29)).heap.size = w.heap.size + 1 by simp] at hb2
  have HAL : Hid (Below w.heap.size w ((w.alloc (.cells #[.int .i64 0, .int .i64 0, .int .i64 0, .int .i64 0] 29)).alloc (.cells #[.int .i64 0, .int .i64 0, .int .i64 0, .int .i64 0, .int .i64 0, .int .i64 0, .int .i64 0] 82))) := Lib.hid (((Below.refl _ _).alloc (Nat.le_refl _) _).alloc (by simp) _)
  obtain ⟨g0, g1, g2, g3⟩ := four_cells hb1
  obtain ⟨l0, l1, l2, l3, l4, l5, l6⟩ := seven_cells hb2
  have f1 := fun q => hb1.frozen q
  have f2 := fun q => hb2.frozen q
  clear hb1 hb2
  go_enter Tryz.func60, Tryz.ntmps60
  go_wp2
  refine bodyPost_ret (v := .tuple #[.agg #[.int .i64 0, .int .i64 0, .int .i64 0, .int .i64 0], .agg #[.int .i64 0, .int .i64 0, .int .i64 0, .int .i64 0, .int .i64 0, .int .i64 0, .int .i64 0], .int .i64 2]) (by simp [results, Tryz.results60, go_sem, g0, g1, g2, g3, l0, l1, l2, l3, l4, l5, l6]) rfl ⟨rfl, HAL.out⟩
set_option maxRecDepth 100000 in
set_option maxHeartbeats 1600000 in
theorem nil_mount (w : World) : Calls Tryz.prog 20 #[.pointer none] w fun e w' => e = .returned (.tuple #[.pointer none, .int .i64 2]) ∧ Below w.heap.size w w' := by
  go_enter Tryz.func20, Tryz.ntmps20
  go_wp2_with (go_at_call 60; go_must (with_reducible refine (nil_find _).mono ?_); rintro e w1 ⟨he, hb⟩; obtain rfl := he; have HB := Lib.hid hb; clear hb)
  refine bodyPost_ret (v := .tuple #[.pointer none, .int .i64 2]) (by simp [results, Tryz.results20, go_sem]) rfl ⟨rfl, ?_⟩
  exact (HB.out.alloc HB.out.size _).alloc (by have := HB.out.size; simp; omega) _
set_option maxRecDepth 100000 in
set_option maxHeartbeats 1600000 in
theorem nil_unmake (a : Int) (w : World) : Calls Tryz.prog 38 #[.pointer none, .int .i64 a] w fun e w' => e = .returned (.int .i64 2) ∧ Below w.heap.size w w' := by
  go_enter Tryz.func38, Tryz.ntmps38
  go_wp2_with (go_at_call 22; go_must (with_reducible refine (nil_inode a _).mono ?_); rintro e w1 ⟨he, hb⟩; obtain rfl := he; have HB := Lib.hid hb; clear hb)
  go_ret
  exact ⟨rfl, HB.out.alloc HB.out.size _⟩
set_option maxRecDepth 100000 in
set_option maxHeartbeats 1600000 in
theorem nil_set (a : Int) (l : List Value) (w : World) : Calls Tryz.prog 39 #[.pointer none, .int .i64 a, .agg l.toArray] w fun e w' => e = .returned (.int .i64 2) ∧ Below w.heap.size w w' := by
  have HAL := Lib.hid (al_below w (.cells l.toArray 40))
  go_enter Tryz.func39, Tryz.ntmps39
  go_wp2
  go_ret
  exact ⟨rfl, HAL.out⟩
theorem parted_any (w : World) : Calls Tryz.prog 11 #[] w fun e w' => e = .returned (.agg #[.int .i64 130, .int .i64 6, .int .i64 4, .int .i64 4]) ∧ Below w.heap.size w w' := by
  have hb := Bk.new w 29 [.int .i64 130, .int .i64 6, .int .i64 4, .int .i64 4]
  have HAL := Lib.hid (al_below w (.cells #[.int .i64 130, .int .i64 6, .int .i64 4, .int .i64 4] 29))
  obtain ⟨g0, g1, g2, g3⟩ := four_cells hb
  clear hb
  go_enter Tryz.func11, Tryz.ntmps11
  go_wp2
  first
  | (refine bodyPost_ret (v := .agg #[.int .i64 130, .int .i64 6, .int .i64 4, .int .i64 4]) (by simp [results, Tryz.results11, go_sem, g0, g1, g2, g3]) rfl ⟨rfl, HAL.out⟩)
  | (go_ret; exact ⟨rfl, Below.refl _ _⟩)
end Go.Proofs.YtcjkbmmjpkghlaaGreat.Vol
