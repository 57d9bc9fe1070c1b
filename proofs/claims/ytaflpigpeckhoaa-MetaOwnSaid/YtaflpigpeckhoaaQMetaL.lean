/-
  The sectors of what is known, as the document answers.
-/
import Derived.Test.YtaflpigpeckhoaaQMetaR
import Derived.Test.YtaflpigpeckhoaaQMetaA
import Derived.Test.YtaflpigpeckhoaaQF
import Derived.Test.YtaflpigpeckhoaaQInternB
import Derived.Test.YtaflpigpeckhoaaQInodeB
namespace Go.Proofs.Ytaflpigpeckhoaa.Meta
open Go.Proofs.Ytaflpigpeckhoaa
open Go.RowKit

theorem rd_byte1 (w : World) (y : UInt8) (e : TypeId) : Rd (w.alloc (.cells #[.int .u8 (y.toNat : Int)] e)) (w.heap.size + 1) (some ⟨w.heap.size, 0, none⟩) (bytesV [y]) := by
  have h := (Bk.new w e (bytesV [y])).rd 1 0
  simpa [bytesV, byteV] using h
theorem ownL_step {l : List Int} {a : Nat} {x : Int} (h : l[a]? = some x) : ownL (l.take (a + 1)) = ownL (l.take a) ++ [UInt8.ofNat x.toNat] := by
  rw [List.take_add_one, h]
  simp [ownL]
theorem own_byte {x : Int} (h : 0 ≤ x ∧ x ≤ 16) : x = ((UInt8.ofNat x.toNat).toNat : Int) := by
  simp
  omega
theorem take_two {l : List Inode.Ino} {q : Nat} {a b : Inode.Ino} (ha : l[q]? = some a) (hb : l[q + 1]? = some b) : l.take (q + 2) = l.take q ++ [a, b] := by
  rw [List.take_add_one, List.take_add_one, ha, hb]
  simp
theorem pairs_two {l : List Inode.Ino} {q : Nat} {a b : Inode.Ino} (hq : q % 2 = 0) (ha : l[q]? = some a) (hb : l[q + 1]? = some b) : pairs (l.take (q + 2)) = pairs (l.take q) ++ [Inode.bytesI a ++ Inode.bytesI b] := by
  rw [take_two ha hb]
  have hl : (l.take q).length = q := by
    have := (List.getElem?_eq_some_iff.1 ha).1
    rw [List.length_take]
    omega
  exact pairs_snoc (by rw [hl]; exact hq)
/-- The first three sectors. -/
def heads (m : Met) : List (List UInt8) := [Intern.bytesOf m.rows, padl (ownL m.own) 64, m.used]
theorem secs_heads (m : Met) : secs m = heads m ++ pairs m.ino := rfl
theorem heads_own {w : World} {base g : Nat} {m : Met} {A0 A1 A2 : Option Addr} {c0 c1 c2 n0 n1 n2 : Nat} (l0 : (Intern.bytesOf m.rows).length = n0) (l1 : (padl (ownL m.own) 64).length = n1) (l2 : m.used.length = n2)
    (hg : Bk w g 26 [.slice A0 n0 c0, .slice A1 n1 c1, .slice A2 n2 c2]) (hb : base ≤ g)
    (h0 : w.ownsRow base 5 1 (.slice A0 n0 c0) n0 (bytesV (Intern.bytesOf m.rows))) (h1 : w.ownsRow base 5 1 (.slice A1 n1 c1) n1 (bytesV (padl (ownL m.own) 64))) (h2 : w.ownsRow base 5 1 (.slice A2 n2 c2) n2 (bytesV m.used)) :
    SecsOwn w base (.slice (some ⟨g, 0, none⟩) 3 3) [⟨A0, c0⟩, ⟨A1, c1⟩, ⟨A2, c2⟩] (heads m) := by
  subst l0 l1 l2
  refine ⟨rfl, hg.own 3 rfl hb (by decide), fun i s b e1 e2 => ?_⟩
  match i with
  | 0 =>
    obtain rfl : _ = s := Option.some.inj (show some (⟨A0, c0⟩ : Sc) = some s from e1)
    obtain rfl : _ = b := Option.some.inj (show some (Intern.bytesOf m.rows) = some b from e2)
    exact h0
  | 1 =>
    obtain rfl : _ = s := Option.some.inj (show some (⟨A1, c1⟩ : Sc) = some s from e1)
    obtain rfl : _ = b := Option.some.inj (show some (padl (ownL m.own) 64) = some b from e2)
    exact h1
  | 2 =>
    obtain rfl : _ = s := Option.some.inj (show some (⟨A2, c2⟩ : Sc) = some s from e1)
    obtain rfl : _ = b := Option.some.inj (show some m.used = some b from e2)
    exact h2
  | k + 3 => simp at e1
theorem bk_ne {w : World} {g base : Nat} {e1 e2 : TypeId} {s n : Nat} {v : Value} {xs ys : List Value} (h1 : Bk w g e1 xs) (h2 : w.ownsRow base e2 s v n ys) (hne : e1 ≠ e2) : some g ≠ v.ownBlock := by
  rcases h2.2 with ⟨rfl, _⟩ | ⟨g2, c2, cur2, rfl, _, hg2, _⟩
  · simp [Value.ownBlock]
  · intro h
    have e : g = g2 := by simpa [Value.ownBlock] using h
    subst e
    unfold Bk at h1
    rw [h1] at hg2
    simp only [Option.some.injEq, Obj.cells.injEq] at hg2
    exact hne hg2.2.1
theorem al_below (w : World) (o : Obj) : Below w.heap.size w (w.alloc o) := (Below.refl _ w).alloc (Nat.le_refl _) _
theorem lit_own (w : World) {base : Nat} (h : base ≤ w.heap.size) : (w.alloc (.cells #[] 5)).ownsRow base 5 1 (.slice (some ⟨w.heap.size, 0, none⟩) 0 0) 0 (bytesV []) := World.ownsRow_lit w #[] 0 h (by decide) rfl
theorem lit_grown {w w' : World} {o : Obj} (hg : (w.alloc o).grownBy w' (some w.heap.size)) : Below w.heap.size w w' :=
  ((Below.refl w.heap.size w).alloc (Nat.le_refl _) _).grown hg (by simp) (fun k hk => by injection hk with hk; omega)
theorem size_ino' (n : Inode.Ino) (h : Inode.Oki n) : (Try.prog.info? 52).map (·.size) = some (Inode.cellsI n).length := by rw [size_ino, Inode.length_cellsI h]
theorem own_slice {w : World} {base : Nat} {e : TypeId} {v : Value} {n : Nat} {xs : List Value} (h : w.ownsRow base e 1 v n xs) : ∃ A c, v = .slice A n c := by
  obtain ⟨_, A, c, hv, _⟩ := own_rd h
  exact ⟨A, c, hv⟩
set_option maxRecDepth 100000 in
set_option maxHeartbeats 3200000 in
theorem rlay_in (j i g p : Int) (m : Met) (ho : Okm m) (rA oA uA iA : Option Addr) (rn rc on_ oc un uc in_ ic : Nat) (w : World) (hrn : m.rows.length = rn) (hon : m.own.length = on_) (hun : m.used.length = un) (hin : m.ino.length = in_)
    (hl : Lies w w.heap.size ⟨rA, rc, oA, oc, uA, uc, iA, ic⟩ m) (hs : on_ ≤ 1000000 ∧ un ≤ 1000000 ∧ in_ ≤ 1000000) :
    Calls Try.prog 14 #[.agg #[.int .i64 j, .int .i64 i, .int .i64 g, .int .i64 p], .agg #[.slice rA rn rc, .slice oA on_ oc, .slice uA un uc, .slice iA in_ ic]] w fun e w' => HandsL w (layM ⟨j, i, g, p⟩ m) e w' := by
  have HL := Lib.hid hl
  have HO := Lib.hid ho
  obtain ⟨rb, hrb⟩ : ∃ rb, rightB ⟨j, i, g, p⟩ m = rb := ⟨_, rfl⟩
  have HRT : Hid (∀ u : World, Below w.heap.size w u → Calls Try.prog 17 #[.agg #[.int .i64 j, .int .i64 i, .int .i64 g, .int .i64 p], .agg #[.slice rA rn rc, .slice oA on_ oc, .slice uA un uc, .slice iA in_ ic]] u fun e w' => e = .returned (.bool rb) ∧ Below u.heap.size u w') := Lib.hid (fun u hu => by
    have := rright_in j i g p m HO.out rA oA uA iA rn rc on_ oc un uc in_ ic u hrn hon hun hin (HL.out.later hu) hs
    rwa [hrb] at this)
  obtain ⟨W, hW⟩ : ∃ W, W = (w.alloc (.cells #[.int .i64 j, .int .i64 i, .int .i64 g, .int .i64 p] 23)).alloc (.cells #[.slice rA rn rc, .slice oA on_ oc, .slice uA un uc, .slice iA in_ ic] 29) := ⟨_, rfl⟩
  have hbW : Below w.heap.size w W := by rw [hW]; exact (Below.refl _ _).alloc (Nat.le_refl _) _ |>.alloc (by simp) _
  have hG : Bk W w.heap.size 23 [.int .i64 j, .int .i64 i, .int .i64 g, .int .i64 p] := by rw [hW]; exact (Bk.new w 23 [.int .i64 j, .int .i64 i, .int .i64 g, .int .i64 p]).below ((Below.refl _ _).alloc (Nat.le_refl _) _) (by simp)
  have hM : Bk W (w.heap.size + 1) 29 [.slice rA rn rc, .slice oA on_ oc, .slice uA un uc, .slice iA in_ ic] := by
    rw [hW]
    have := Bk.new (w.alloc (.cells #[.int .i64 j, .int .i64 i, .int .i64 g, .int .i64 p] 23)) 29 [.slice rA rn rc, .slice oA on_ oc, .slice uA un uc, .slice iA in_ ic]
    simpa using this
  have HM := Lib.hid hM
  have HB := Lib.hid hbW
  have HW := Lib.hid hW
  obtain ⟨g0, g1, g2, g3⟩ := four_cells hG
  obtain ⟨m0, m1, m2, m3⟩ := four_cells hM
  clear hbW hG hM hW
  by_cases hR : Right ⟨j, i, g, p⟩ m
  rotate_left
  · rw [lay_no hR]
    rw [rightB_no hR] at hrb
    subst hrb
    clear hl hR hrn hon hun hin
    go_enter Try.func14, Try.ntmps14
    go_upto_region 1 with fail
    rw [← HW.out]
    go_wp2_with (go_at_call 17; (with_reducible refine (HRT.out _ HB.out).mono ?_); rintro e w1 ⟨he, hb⟩; obtain rfl := he; replace HB := Lib.hid (HB.out.trans (hb.mono HB.out.size)); clear hb)
    go_ret2
    exact ⟨_, [], rfl, SecsOwn.nil _ _, HB.out⟩
  rw [lay_yes hR]
  rw [rightB_yes hR] at hrb
  subst hrb
  have hun64 := hR.ulen
  have hon64 := hR.own64
  have hin64 := hR.ino64
  have hev := hR.even
  rw [hun] at hun64
  subst hun64
  rw [hon] at hon64
  rw [hin] at hin64 hev
  have HEV := Lib.hid hev
  have HON := Lib.hid hon
  have HUN := Lib.hid hun
  have HIN := Lib.hid hin
  have HR := Lib.hid hR
  have HRL : Hid (∀ u : World, Below w.heap.size w u → Calls Try.prog 29 #[.slice rA rn rc] u fun e w' => Intern.HandsB u (Intern.bytesOf m.rows) 0 e w') := Lib.hid (fun u hu => by
    have := Intern.rlay_rows m.rows rA rn rc u hrn ((HL.out.rows.below hu).more hu.size) HO.out.rows
    rwa [Intern.layR_yes HR.out.rows] at this)
  have HFI : Hid (∀ (u : World) (A : Option Addr) (c : Nat), Rd u u.heap.size A (bytesV (ownL m.own)) → Calls Try.prog 30 #[.slice A on_ c, .int .i64 64] u fun e w' => ∃ v, e = .returned (.tuple #[v, .int .i64 0]) ∧ Made u (padl (ownL m.own) 64) v w') := Lib.hid (fun u A c hr => rfill_ok (ownL m.own) A on_ c 64 u (by rw [length_ownL, hon]) hr hon64 (by omega))
  have HLR : Hid ((Intern.bytesOf m.rows).length = 64) := Lib.hid (by rw [Intern.length_bytesOf, HR.out.rows.len])
  have HLO : Hid ((padl (ownL m.own) 64).length = 64) := Lib.hid (length_padl _ _ (by rw [length_ownL, hon]; exact hon64))
  clear hl hR hrn hon hun hin hev
  go_enter Try.func14, Try.ntmps14
  go_upto_region 1 with fail
  rw [← HW.out]
  go_wp2_with (go_at_call 17; (with_reducible refine (HRT.out _ HB.out).mono ?_); rintro e w1 ⟨he, hb⟩; obtain rfl := he; replace HM := Lib.hid (HM.out.below hb HM.out.lt); replace HB := Lib.hid (HB.out.trans (hb.mono HB.out.size)); clear hb)
  clear g0 g1 g2 g3 m0 m1 m2 m3
  go_loopw [6, 7] (fun v k wr => ∃ a : Nat, k = .int .i64 (a : Int) ∧ a ≤ on_ ∧ Hid (wr.ownsRow w1.heap.size 5 1 v a (bytesV (ownL (m.own.take a)))) ∧ Hid (Below w1.heap.size w1 wr)) (fun _ k _ => on_ - (intOf k).toNat)
  case atStart => exact ⟨0, rfl, Nat.zero_le _, Lib.hid (World.ownsRow_nil _ _ _ _), Lib.hid (Below.refl _ _)⟩
  case round =>
    obtain ⟨a, rfl, ha, HV, HB1⟩ := hrel
    have HMr := Lib.hid (HM.out.below HB1.out HM.out.lt)
    obtain ⟨m0, m1, m2, m3⟩ := four_cells HMr.out
    have HBr := Lib.hid (HB.out.trans (HB1.out.mono HB.out.size))
    by_cases hlt : a < on_
    · obtain ⟨x, hx⟩ : ∃ x, m.own[a]? = some x := ⟨_, List.getElem?_eq_getElem (by rw [HON.out]; exact hlt)⟩
      obtain ⟨b, o, hoA, hbb⟩ := rd_first HL.out.own (by rw [Inode.length_intsV, HON.out]; omega)
      have hoA : oA = some ⟨b, o, none⟩ := hoA
      subst hoA
      have hcx := rd_int (HL.out.own.below HBr.out) hx
      have hst := ownL_step hx
      have hxy := own_byte (HR.out.own x (List.mem_of_getElem? hx))
      obtain ⟨y, hy⟩ : ∃ y : UInt8, UInt8.ofNat x.toNat = y := ⟨_, rfl⟩
      rw [hy] at hst hxy
      rw [hxy] at hcx
      have HST := Lib.hid hst
      have hlti : (a : Int) < (on_ : Int) := by omega
      have hyw : IntKind.u8.wrap (y.toNat : Int) = (y.toNat : Int) := by have := y.toNat_lt; rw [IntKind.wrap_u8]; omega
      clear hx hst hxy hy
      go_wp2_with (at_builtin; refine wpList_app5 _ rfl (.tmp 29) (.tmp 36) rfl w1.heap.size _ a (ownL (m.own.take a)) rfl (HV.out.alloc _) _ _ 1 1 [y] rfl rfl (rd_byte1 _ y 5) (by omega) (by simp; have := HB1.out.size; omega) ?_)
      intro v3 w3 hown3 hg3
      have HV3 := Lib.hid (show w3.ownsRow w1.heap.size 5 1 v3 (a + 1) (bytesV (ownL (m.own.take (a + 1)))) by rw [HST.out]; exact hown3)
      have HB3 := Lib.hid ((HB1.out.alloc HB1.out.size _).grown hg3 (by simp; have := HB1.out.size; omega) (fun k hk => (HV.out.lt k hk).1))
      clear hown3 hg3
      go_wp2
      go_roundw
      case rel => exact ⟨a + 1, by go_num, hlt, HV3, HB3⟩
      case measure => simp [intOf]; omega
    · obtain rfl : on_ = a := by omega
      have hta : m.own.take on_ = m.own := List.take_of_length_le (by rw [HON.out]; exact Nat.le_refl _)
      rw [hta] at HV
      obtain ⟨A6, c6, hv6⟩ := own_slice HV.out
      subst hv6
      have HRD6 := Lib.hid (own_rdp HV.out)
      clear hta
      go_wp2_with (first
        | (go_at_call 29; (with_reducible refine (HRL.out _ HBr.out).mono ?_); rintro e w2 ⟨v8, he, ho8, hb⟩; obtain rfl := he; rw [HLR.out] at ho8; obtain ⟨A8, c8, hv8⟩ := own_slice ho8; subst hv8; have HO8 := Lib.hid (own_mono ho8 HBr.out.size); replace HMr := Lib.hid (HMr.out.below hb HMr.out.lt); have HRD62 := Lib.hid ((HRD6.out.below hb).more hb.size); replace HBr := Lib.hid (HBr.out.trans (hb.mono HBr.out.size)); clear m0 m1 m2 m3 hb ho8; obtain ⟨m0, m1, m2, m3⟩ := four_cells HMr.out)
        | (go_at_call 30; (with_reducible refine (HFI.out _ A6 c6 HRD62.out).mono ?_); rintro e w3 ⟨v9, he, ho9, hb⟩; obtain rfl := he; rw [HLO.out] at ho9; obtain ⟨A9, c9, hv9⟩ := own_slice ho9; subst hv9; have HO9 := Lib.hid (own_mono ho9 HBr.out.size); replace HO8 := Lib.hid (own_below HO8.out hb); replace HMr := Lib.hid (HMr.out.below hb HMr.out.lt); replace HBr := Lib.hid (HBr.out.trans (hb.mono HBr.out.size)); clear m0 m1 m2 m3 hb ho9; obtain ⟨m0, m1, m2, m3⟩ := four_cells HMr.out; have hltM := HMr.out.lt)
        | (at_builtin; refine wpList_app5 _ rfl (.tmp 51) (.tmp 53) rfl w.heap.size _ 0 [] rfl (lit_own _ HBr.out.size) _ uA 64 uc m.used rfl HUN.out (HL.out.used.below (HBr.out.alloc HBr.out.size _)) (by omega) (by simp; have := HBr.out.size; omega) ?_; intro v10 w10 ho10 hg10; have hb10 := lit_grown hg10; rw [List.nil_append] at ho10; have HO10 := Lib.hid ho10; obtain ⟨A10, c10, hv10⟩ := own_slice ho10; subst hv10; replace HO8 := Lib.hid (own_below HO8.out hb10); replace HO9 := Lib.hid (own_below HO9.out hb10); replace HMr := Lib.hid (HMr.out.below hb10 HMr.out.lt); replace HBr := Lib.hid (HBr.out.trans (hb10.mono HBr.out.size)); clear m0 m1 m2 m3 hb10 hg10 ho10))
      have HB2 := Lib.hid (HBr.out.alloc HBr.out.size (.cells #[.slice A8 64 c8, .slice A9 64 c9, .slice A10 64 c10] 26))
      have HS0 := Lib.hid (heads_own (m := m) HLR.out HLO.out HUN.out (Bk.new w10 26 [.slice A8 64 c8, .slice A9 64 c9, .slice A10 64 c10]) HBr.out.size (HO8.out.alloc _) (HO9.out.alloc _) (HO10.out.alloc _))
      have HM2 := Lib.hid (HMr.out.below ((Below.refl w10.heap.size w10).alloc (Nat.le_refl _) (.cells #[.slice A8 64 c8, .slice A9 64 c9, .slice A10 64 c10] 26)) HMr.out.lt)
      go_loopw [12, 13] (fun v k wr => ∃ (q : Nat) (L : List Sc), k = .int .i64 (q : Int) ∧ q ≤ in_ ∧ q % 2 = 0 ∧ Hid (SecsOwn wr w.heap.size v L (heads m ++ pairs (m.ino.take q))) ∧ Hid (Bk wr (w.heap.size + 1) 29 [.slice rA rn rc, .slice oA on_ oc, .slice uA 64 uc, .slice iA in_ ic]) ∧ Hid (Below w.heap.size w wr)) (fun _ k _ => in_ - (intOf k).toNat)
      case atStart => exact ⟨0, _, rfl, Nat.zero_le _, rfl, Lib.hid (by rw [List.take_zero]; show SecsOwn _ _ _ _ (heads m ++ []); rw [List.append_nil]; exact HS0.out), HM2, HB2⟩
      case round =>
        obtain ⟨q, L, rfl, hq, hq2, HS, HMq, HBq⟩ := hrel
        obtain ⟨m0, m1, m2, m3⟩ := four_cells HMq.out
        have HQ2 := Lib.hid hq2
        clear hq2
        by_cases hlt : q < in_
        · have hlt1 : q + 1 < in_ := by have := HQ2.out; have := HEV.out; omega
          obtain ⟨x, hx⟩ : ∃ x, m.ino[q]? = some x := ⟨_, List.getElem?_eq_getElem (by rw [HIN.out]; exact hlt)⟩
          obtain ⟨y, hy⟩ : ∃ y, m.ino[q + 1]? = some y := ⟨_, List.getElem?_eq_getElem (by rw [HIN.out]; exact hlt1)⟩
          have hox := HO.out.ino x (List.mem_of_getElem? hx)
          have hoy := HO.out.ino y (List.mem_of_getElem? hy)
          have hrx := HR.out.ino x (List.mem_of_getElem? hx)
          have hry := HR.out.ino y (List.mem_of_getElem? hy)
          obtain ⟨b, o, hoA, hbb⟩ := rd_first HL.out.ino (by rw [length_inosV HO.out.ino, HIN.out]; omega)
          have hoA : iA = some ⟨b, o, none⟩ := hoA
          subst hoA
          have hax := Lib.hid (rd_ino (HL.out.ino.below HBq.out) HO.out.ino hx)
          have hay := Lib.hid (fun (u : World) (hu : Below w.heap.size w u) => rd_ino (HL.out.ino.below hu) HO.out.ino hy)
          have HLX : Hid (∀ u : World, Calls Try.prog 31 #[.agg (Inode.cellsI x).toArray] u fun e w' => Inode.HandsB u (Inode.bytesI x) 0 e w') := Lib.hid (fun u => by
            have := Inode.rlay_ino x hox u
            rwa [Inode.layI_yes hrx] at this)
          have HLY : Hid (∀ u : World, Calls Try.prog 31 #[.agg (Inode.cellsI y).toArray] u fun e w' => Inode.HandsB u (Inode.bytesI y) 0 e w') := Lib.hid (fun u => by
            have := Inode.rlay_ino y hoy u
            rwa [Inode.layI_yes hry] at this)
          have HSX := Lib.hid (size_ino' x hox)
          have HSY := Lib.hid (size_ino' y hoy)
          have HNX : Hid ((Inode.bytesI x).length = 32) := Lib.hid (Inode.length_bytesI hox)
          have HNY : Hid ((Inode.bytesI y).length = 32) := Lib.hid (Inode.length_bytesI hoy)
          have HPT := Lib.hid (pairs_two HQ2.out hx hy)
          have hlti : (q : Int) < (in_ : Int) := by omega
          have hlti1 : (q : Int) + 1 < (in_ : Int) := by omega
          have hq0 : (0 : Int) ≤ (q : Int) := by omega
          have HPL : Hid ((heads m ++ pairs (m.ino.take q)).length ≤ 100) := Lib.hid (by
            have h1 : (m.ino.take q).length = q := by rw [List.length_take, HIN.out]; omega
            rw [List.length_append, length_pairs (by rw [h1]; exact HQ2.out), h1]
            show 3 + q / 2 ≤ 100
            omega)
          obtain ⟨ls, hls⟩ : ∃ ls, heads m ++ pairs (m.ino.take q) = ls := ⟨_, rfl⟩
          rw [hls] at HS HPL
          have HLS := Lib.hid hls
          obtain ⟨A12, c12, hv12⟩ := HS.out.slice
          subst hv12
          clear hls
          clear hx hy hox hoy hrx hry
          generalize Inode.cellsI x = cx at *
          generalize Inode.cellsI y = cy at *
          go_wp2_with (first
            | (refine wpList_load_mid rfl 52 (.tmp 67) rfl b (o + q * 14) rfl cx _ hax.out Try.underlying52 rfl HSX.out ?_)
            | (refine wpList_load_mid rfl 52 (.tmp 77) rfl b (o + (q + 1) * 14) rfl cy _ (hay.out _ HBx.out) Try.underlying52 rfl HSY.out ?_)
            | (go_at_call 31; (with_reducible refine (HLX.out _).mono ?_); rintro e w4 ⟨v14, he, ho14, hb⟩; obtain rfl := he; rw [HNX.out] at ho14; obtain ⟨A14, c14, hv14⟩ := own_slice ho14; subst hv14; have HO14 := Lib.hid ho14; have HMx := Lib.hid (HMq.out.below hb HMq.out.lt); have HBq4 := Lib.hid hb; have HBx := Lib.hid (HBq.out.trans (hb.mono HBq.out.size)); clear m0 m1 m2 m3 hb ho14; obtain ⟨m0, m1, m2, m3⟩ := four_cells HMx.out)
            | (go_at_call 31; (with_reducible refine (HLY.out _).mono ?_); rintro e w5 ⟨v16, he, ho16, hb⟩; obtain rfl := he; rw [HNY.out] at ho16; obtain ⟨A16, c16, hv16⟩ := own_slice ho16; subst hv16; have HR16 := Lib.hid (own_rdp ho16); replace HO14 := Lib.hid (own_below HO14.out hb); replace HBq4 := Lib.hid (HBq4.out.trans (hb.mono HBq4.out.size)); clear m0 m1 m2 m3 hb ho16)
            | (at_builtin; refine wpList_app5 _ rfl (.tmp 83) (.tmp 84) rfl wr.heap.size _ 32 (Inode.bytesI x) rfl HO14.out _ A16 32 c16 (Inode.bytesI y) rfl HNY.out HR16.out (by omega) HBq4.out.size ?_; intro v17 w17 ho17 hg17; have hb17 := HBq4.out.grown hg17 HBq4.out.size (fun k hk => (HO14.out.lt k hk).1); obtain ⟨A17, c17, hv17⟩ := own_slice ho17; subst hv17; have HO17 := Lib.hid ho17; have HB17 := Lib.hid hb17; clear ho17 hg17 hb17)
            | (at_builtin; refine wpList_sec _ rfl (.tmp 82) (.tmp 86) rfl w.heap.size _ L ls rfl ((HS.out.below HB17.out).below (al_below _ _)) w17.heap.size ⟨A17, c17⟩ (Inode.bytesI x ++ Inode.bytesI y) 64 (by rw [List.length_append, HNX.out, HNY.out]) rfl (by rw [World.cell?_alloc_at _ _ _ _ rfl]; rfl) (own_mono (HO17.out.alloc _) HBq.out.size) (by have := HPL.out; omega) (by simp; have := HB17.out.size; have := HBq.out.size; omega) ?_; intro v18 w18 hs18 hg18))
          have HS2 : Hid (SecsOwn w18 w.heap.size v18 (L ++ [⟨A17, c17⟩]) (heads m ++ pairs (m.ino.take (q + 2)))) := Lib.hid (by rw [HPT.out, ← List.append_assoc, HLS.out]; exact hs18)
          have HS12 := Lib.hid ((HS.out.below HB17.out).below (al_below w17 (.cells #[.slice A17 64 c17] 26)))
          have HMq2 := Lib.hid ((HMq.out.below (HB17.out.trans ((al_below w17 (.cells #[.slice A17 64 c17] 26)).mono HB17.out.size)) HMq.out.lt).grown hg18 (bk_ne (HMq.out.below (HB17.out.trans ((al_below w17 (.cells #[.slice A17 64 c17] 26)).mono HB17.out.size)) HMq.out.lt) HS12.out.row (by decide)))
          have HBq2 := Lib.hid (((HBq.out.trans (HB17.out.mono HBq.out.size)).alloc (by have := HB17.out.size; have := HBq.out.size; omega) (.cells #[.slice A17 64 c17] 26)).grown hg18 (by simp; have := HB17.out.size; have := HBq.out.size; omega) (fun k hk => (HS12.out.row.lt k hk).1))
          clear hs18 hg18
          go_wp2
          go_roundw
          case rel => exact ⟨q + 2, _, by go_num, by omega, by have := HQ2.out; omega, HS2, HMq2, HBq2⟩
          case measure => simp [intOf]; omega
        · obtain rfl : in_ = q := by omega
          have hti : m.ino.take in_ = m.ino := List.take_of_length_le (by rw [HIN.out]; exact Nat.le_refl _)
          rw [hti] at HS
          have hse : secs m = heads m ++ pairs m.ino := rfl
          have HSE := Lib.hid hse
          clear hti hse
          go_wp2
          go_ret2
          exact ⟨_, L, rfl, by rw [HSE.out]; exact HS.out, HBq.out⟩
theorem rlay_any (G : Geo) (m : Met) (ho : Okm m) (x : Mem) (w : World) (hl : Lies w w.heap.size x m) (hs : m.own.length ≤ 1000000 ∧ m.used.length ≤ 1000000 ∧ m.ino.length ≤ 1000000) :
    Calls Try.prog 14 #[.agg #[.int .i64 G.j, .int .i64 G.i, .int .i64 G.g, .int .i64 G.p], x.v m] w fun e w' => HandsL w (layM G m) e w' :=
  rlay_in G.j G.i G.g G.p m ho x.rA x.oA x.uA x.iA _ x.rc _ x.oc _ x.uc _ x.ic w rfl rfl rfl rfl hl hs
end Go.Proofs.Ytaflpigpeckhoaa.Meta
