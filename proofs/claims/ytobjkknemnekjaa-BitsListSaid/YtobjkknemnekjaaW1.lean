/-
  Package bits' With and the document's own With: what each call returns, and what it leaves.
-/
import Derived.Test.YtobjkknemnekjaaW0
import Derived.Lib.AppendZeros
import Derived.Deep.DeepAppendRoom
namespace Go.Proofs.Ytobjkknemnekjaa
open Go.RowKit

theorem info5 : (Try.prog.info? 5).map (fun i => (i.zero, i.size, i.bytes)) = some (some (.int .u8 0), 1, 1) := by kernel_rfl
/-- A new row of bytes is handed back, and nothing that was there is changed. -/
def Made (w : World) (l : List UInt8) (v : Value) (w' : World) : Prop := w'.ownsRow w.heap.size 5 1 v l.length (bytesV l) ∧ Below w.heap.size w w'

/-- append onto an own row of bytes. -/
theorem wpList_app5 (w : World) {ops : Array Oper} {rest : List Oper} {o : Oper} {a : Act} {Q : Exit → Act → World → Prop} (hgd : o.guard = none) (s x : Operand)
    (ho : o.op = .call { callee := .builtin .append, args := #[s, x], argTypes := #[22, 22] })
    (base : Nat) (v : Value) (n : Nat) (l : List UInt8) (hs : a.eval s = v) (hown : w.ownsRow base 5 1 v n (bytesV l))
    (B : Nat) (A : Option Addr) (m c : Nat) (k : List UInt8) (hx : a.eval x = .slice A m c) (hm : k.length = m) (hr : Rd w B A (bytesV k))
    (hbytes : n + m ≤ 140737488355328) (hbase : base ≤ w.heap.size)
    (h : ∀ v' w', w'.ownsRow base 5 1 v' (n + m) (bytesV (l ++ k)) → w.grownBy w' v.ownBlock → wpList Try.prog ops Q rest (a.put o.dst v') w') : wpList Try.prog ops Q (o :: rest) a w := by
  obtain ⟨i0, hi, hz0, hz1, hz2⟩ := info_parts info5
  rw [bytesV_append] at h
  exact wpList_app w hgd s x 22 ho base 5 i0 _ 1 Try.underlying22 hi hz0 hz1 hz2 rfl v n _ hs hown B A m c _ hx (by rw [length_bytesV, hm]) hr (bytesV_one _) (by simp only [maxLen]; omega) (by omega) hbase h

theorem clone_some (l : List UInt8) (ad : Addr) (n c : Nat) (w : World) (hn : l.length = n) (hr : Rd w w.heap.size (some ad) (bytesV l)) (hm : n ≤ 140737488355328) :
    Calls Try.prog 24 #[.slice (some ad) n c] w fun e w' => ∃ v, e = .returned v ∧ w'.ownsRow w.heap.size 5 1 v n (bytesV l) ∧ Below w.heap.size w w' := by
  have Hn := Lib.hid hn
  clear hn
  have hne := fun (u : World) => Lib.run_eql_slice_nil (P := Try.prog) u 22 5 ad n c 0 0 Try.underlying22
  have hlit : (w.alloc (.cells #[] 5)).ownsRow w.heap.size 5 1 (.slice (some ⟨w.heap.size, 0, none⟩) 0 0) 0 (bytesV []) := World.ownsRow_lit w #[] 0 (Nat.le_refl _) (Nat.zero_le _) rfl
  have hr1 := hr.below ((Below.refl _ w).alloc (Nat.le_refl _) (.cells #[] 5))
  go_enter Try.func24, Try.ntmps24
  go_wp2_with (at_builtin; refine wpList_app5 _ rfl (.tmp 5) (.tmp 6) rfl w.heap.size _ 0 [] rfl hlit w.heap.size (some ad) n c l rfl Hn.out hr1 (by omega) (by simp) ?_; intro v w1 hown hgrow)
  go_ret
  rw [Nat.zero_add, List.nil_append] at hown
  exact ⟨_, rfl, hown, ((Below.refl _ w).alloc (Nat.le_refl _) _).grown hgrow (by simp) (fun k hk => (hlit.lt k hk).1)⟩

theorem with_arg (A : Option Addr) (n c : Nat) (x : Int) (on : Bool) (w : World) (hm : n ≤ 100000000) (h : ¬ (0 ≤ x ∧ x < 8 * (n : Int))) :
    Calls Try.prog 11 #[.slice A n c, .int .i64 x, .bool on] w fun e w' => e = .returned (.tuple #[.slice none 0 0, .int .i64 1]) ∧ w = w' := by
  have H := Lib.hid (decide_eq_false h)
  clear h
  go_enter Try.func11, Try.ntmps11
  go_wp2_with (go_at_call 22; refine (exists_any _ _ _ _ _ hm).mono ?_; rintro e w' ⟨rfl, rfl⟩; rw [H.out])
  go_ret2
  exact ⟨rfl, rfl⟩
theorem with_long (A : Option Addr) (n c i : Nat) (on : Bool) (w : World) (hm : n ≤ 100000000) (h : i < 8 * n) (hl : 512 < n) :
    Calls Try.prog 11 #[.slice A n c, .int .i64 (i : Int), .bool on] w fun e w' => e = .returned (.tuple #[.slice none 0 0, .int .i64 4]) ∧ w = w' := by
  have H := Lib.hid (decide_eq_true (show 0 ≤ (i : Int) ∧ (i : Int) < 8 * (n : Int) by omega))
  go_enter Try.func11, Try.ntmps11
  go_wp2_with (first
    | (go_at_call 22; refine (exists_any _ _ _ _ _ hm).mono ?_; rintro e w' ⟨rfl, rfl⟩; rw [H.out])
    | (go_at_call 23; refine (size_any _ _ _ _ hm).mono ?_; rintro e w' ⟨rfl, rfl⟩))
  go_ret2
  exact ⟨rfl, rfl⟩
theorem with_made {w w1 : World} {l : List UInt8} {g n c1 i q : Nat} (hn : l.length = n) (hq : q = i / 8) (hown : w1.ownsRow w.heap.size 5 1 (.slice (some ⟨g, 0, none⟩) n c1) n (bytesV l)) (hb1 : Below w.heap.size w w1) (on : Bool) :
    Made w (wb l i on) (.slice (some ⟨g, 0, none⟩) n c1) (w1.setCell ⟨g, q, none⟩ (.int .u8 ((setb (l.getD q 0) (i % 8) on).toNat : Int))).drew := by
  have h1 := (hown.stored q (byteV (setb (l.getD q 0) (i % 8) on))).1
  have e : (bytesV l).set q (byteV (setb (l.getD q 0) (i % 8) on)) = bytesV (wb l i on) := by
    subst hq; simp [bytesV, wb, List.map_set]
  rw [e] at h1
  refine ⟨?_, (hb1.setCell (hown.lt g rfl).1 _).drew⟩
  rw [length_wb, hn]
  exact h1
set_option maxHeartbeats 800000 in
theorem with_on (l : List UInt8) (A : Option Addr) (n c i : Nat) (w : World) (hn : l.length = n) (hr : Rd w w.heap.size A (bytesV l)) (h : i < 8 * n) (hl : n ≤ 512) :
    Calls Try.prog 11 #[.slice A n c, .int .i64 (i : Int), .bool true] w fun e w' => ∃ v, e = .returned (.tuple #[v, .int .i64 0]) ∧ Made w (wb l i true) v w' := by
  have H := Lib.hid (decide_eq_true (show 0 ≤ (i : Int) ∧ (i : Int) < 8 * (n : Int) by omega))
  obtain ⟨ad, rfl⟩ : ∃ ad, A = some ad := by
    obtain ⟨b, o, h1, _⟩ := rd_byte hn hr h
    exact ⟨_, h1⟩
  have Hn := Lib.hid hn
  have Hr := Lib.hid hr
  clear hn hr
  go_enter Try.func11, Try.ntmps11
  go_wp2_with (first
    | (go_at_call 22; refine (exists_any _ _ _ _ _ (by omega)).mono ?_; rintro e w' ⟨rfl, rfl⟩; rw [H.out])
    | (go_at_call 23; refine (size_any _ _ _ _ (by omega)).mono ?_; rintro e w' ⟨rfl, rfl⟩)
    | (go_at_call 24; refine (clone_some l ad n c _ Hn.out Hr.out (by omega)).mono ?_; rintro e w1 ⟨v, rfl, hown, hb1⟩))
  obtain ⟨g, c1, rfl, hc1⟩ := own_pos hown (show 0 < n by omega)
  obtain ⟨q, hq⟩ : ∃ q, q = i / 8 := ⟨_, rfl⟩
  have hqi : (i : Int) / 8 = (q : Int) := by omega
  have hqn : q < n := by omega
  have hcell : w1.cell? ⟨g, q, none⟩ = some (.int .u8 ((l.getD q 0).toNat : Int)) := by
    rw [hown.cellAt q (by omega)]
    have := Hn.out
    simp [bytesV, byteV, List.getD_eq_getElem?_getD, show q < l.length by omega]
  have hfr := hown.frozenAt q
  have hw8 : IntKind.i64.wrap (q : Int) = (q : Int) := by rw [IntKind.wrap_i64]; omega
  have hi0 : (0 : Int) ≤ (q : Int) := Int.natCast_nonneg _
  have hi1 : (q : Int) < (n : Int) := by omega
  have Hown := Lib.hid hown
  have HY := Lib.hid (setb_true (l.getD q 0) (i % 8) (by omega))
  have Hq := Lib.hid hq
  have hlt := (l.getD q 0).toNat_lt
  clear hown hq
  generalize hy : (l.getD q 0).toNat = y at *
  have Hy := Lib.hid hy
  clear hy
  have e : bits .or .u8 (y : Int) (2 ^ (i % 8)) = ((setb (l.getD q 0) (i % 8) true).toNat : Int) := by
    have := u8_or_nat y (2 ^ (i % 8)) (by omega) (pow_lt8 _ (by omega))
    rw [HY.out, ← this]
    simp
  have E := Lib.hid e
  clear e
  go_region_with (go_at_call 25; refine (mask_any _ _ (by omega)).mono ?_; rintro e w' ⟨rfl, rfl⟩)
  all_goals
    have hm := with_made Hn.out Hq.out Hown.out hb1 true
    rw [← E.out] at hm
    generalize bits BinOp.or IntKind.u8 (y : Int) (2 ^ (i % 8)) = u at hm
    go_wp2_with fail
    go_ret2
    exact ⟨_, rfl, hm⟩
set_option maxHeartbeats 800000 in
theorem with_off (l : List UInt8) (A : Option Addr) (n c i : Nat) (w : World) (hn : l.length = n) (hr : Rd w w.heap.size A (bytesV l)) (h : i < 8 * n) (hl : n ≤ 512) :
    Calls Try.prog 11 #[.slice A n c, .int .i64 (i : Int), .bool false] w fun e w' => ∃ v, e = .returned (.tuple #[v, .int .i64 0]) ∧ Made w (wb l i false) v w' := by
  have H := Lib.hid (decide_eq_true (show 0 ≤ (i : Int) ∧ (i : Int) < 8 * (n : Int) by omega))
  obtain ⟨ad, rfl⟩ : ∃ ad, A = some ad := by
    obtain ⟨b, o, h1, _⟩ := rd_byte hn hr h
    exact ⟨_, h1⟩
  have Hn := Lib.hid hn
  have Hr := Lib.hid hr
  clear hn hr
  go_enter Try.func11, Try.ntmps11
  go_wp2_with (first
    | (go_at_call 22; refine (exists_any _ _ _ _ _ (by omega)).mono ?_; rintro e w' ⟨rfl, rfl⟩; rw [H.out])
    | (go_at_call 23; refine (size_any _ _ _ _ (by omega)).mono ?_; rintro e w' ⟨rfl, rfl⟩)
    | (go_at_call 24; refine (clone_some l ad n c _ Hn.out Hr.out (by omega)).mono ?_; rintro e w1 ⟨v, rfl, hown, hb1⟩))
  obtain ⟨g, c1, rfl, hc1⟩ := own_pos hown (show 0 < n by omega)
  obtain ⟨q, hq⟩ : ∃ q, q = i / 8 := ⟨_, rfl⟩
  have hqi : (i : Int) / 8 = (q : Int) := by omega
  have hqn : q < n := by omega
  have hcell : w1.cell? ⟨g, q, none⟩ = some (.int .u8 ((l.getD q 0).toNat : Int)) := by
    rw [hown.cellAt q (by omega)]
    have := Hn.out
    simp [bytesV, byteV, List.getD_eq_getElem?_getD, show q < l.length by omega]
  have hfr := hown.frozenAt q
  have hw8 : IntKind.i64.wrap (q : Int) = (q : Int) := by rw [IntKind.wrap_i64]; omega
  have hi0 : (0 : Int) ≤ (q : Int) := Int.natCast_nonneg _
  have hi1 : (q : Int) < (n : Int) := by omega
  have Hown := Lib.hid hown
  have HY := Lib.hid (setb_false (l.getD q 0) (i % 8))
  have Hq := Lib.hid hq
  have hlt := (l.getD q 0).toNat_lt
  clear hown hq
  generalize hy : (l.getD q 0).toNat = y at *
  have Hy := Lib.hid hy
  clear hy
  have e : bits .andNot .u8 (y : Int) (2 ^ (i % 8)) = ((setb (l.getD q 0) (i % 8) false).toNat : Int) := by
    have := u8_andNot_nat y (2 ^ (i % 8)) (by omega) (pow_lt8 _ (by omega))
    rw [HY.out, ← this]
    simp
  have E := Lib.hid e
  clear e
  go_region_with (go_at_call 25; refine (mask_any _ _ (by omega)).mono ?_; rintro e w' ⟨rfl, rfl⟩)
  all_goals
    have hm := with_made Hn.out Hq.out Hown.out hb1 false
    rw [← E.out] at hm
    generalize bits BinOp.andNot IntKind.u8 (y : Int) (2 ^ (i % 8)) = u at hm
    go_wp2_with fail
    go_ret2
    exact ⟨_, rfl, hm⟩
theorem with_ok (l : List UInt8) (A : Option Addr) (n c i : Nat) (on : Bool) (w : World) (hn : l.length = n) (hr : Rd w w.heap.size A (bytesV l)) (h : i < 8 * n) (hl : n ≤ 512) :
    Calls Try.prog 11 #[.slice A n c, .int .i64 (i : Int), .bool on] w fun e w' => ∃ v, e = .returned (.tuple #[v, .int .i64 0]) ∧ Made w (wb l i on) v w' := by
  cases on
  · exact with_off l A n c i w hn hr h hl
  · exact with_on l A n c i w hn hr h hl

theorem rwith_arg (A : Option Addr) (n c : Nat) (x : Int) (on : Bool) (w : World) (hm : n ≤ 100000000) (h : ¬ (0 ≤ x ∧ x < 8 * (n : Int))) :
    Calls Try.prog 12 #[.slice A n c, .int .i64 x, .bool on] w fun e w' => e = .returned (.tuple #[.slice none 0 0, .int .i64 1]) ∧ w = w' := by
  by_cases h0 : x < 0
  · clear h
    go_enter Try.func12, Try.ntmps12
    go_wp2
    go_ret2
    exact ⟨rfl, rfl⟩
  · have h1 : 8 * (n : Int) ≤ x := by omega
    clear h
    go_enter Try.func12, Try.ntmps12
    go_wp2
    go_ret2
    exact ⟨rfl, rfl⟩
theorem rwith_long (A : Option Addr) (n c i : Nat) (on : Bool) (w : World) (hm : n ≤ 100000000) (h : i < 8 * n) (hl : 512 < n) :
    Calls Try.prog 12 #[.slice A n c, .int .i64 (i : Int), .bool on] w fun e w' => e = .returned (.tuple #[.slice none 0 0, .int .i64 4]) ∧ w = w' := by
  go_enter Try.func12, Try.ntmps12
  go_wp2
  go_ret2
  exact ⟨rfl, rfl⟩

/-- What stands while the bytes are made. -/
def Making (w : World) (l : List UInt8) (k : Nat) (v : Value) (wr : World) : Prop := wr.ownsRow w.heap.size 5 1 v k (bytesV (l.take k)) ∧ Below w.heap.size w wr
theorem Making.start (w : World) (l : List UInt8) : Making w l 0 (.slice none 0 0) w := ⟨World.ownsRow_nil _ _ _ _, Below.refl _ _⟩
theorem Making.step {w wr w1 : World} {l : List UInt8} {k x : Nat} {v v' : Value} (hk : k < l.length) (hx : l[k].toNat = x) (h : Making w l k v wr)
    (hown' : w1.ownsRow w.heap.size 5 1 v' (k + 1) (bytesV (l.take k ++ [UInt8.ofNat x]))) (hg' : (wr.alloc (.cells #[.int .u8 (x : Int)] 5)).grownBy w1 v.ownBlock) : Making w l (k + 1) v' w1 := by
  have hsz := h.2.size
  have e : l.take (k + 1) = l.take k ++ [UInt8.ofNat x] := by rw [List.take_succ_eq_append_getElem hk, ← hx]; simp
  refine ⟨by rw [e]; exact hown', ?_⟩
  exact (h.2.alloc hsz _).grown hg' (by simp; omega) (fun j hj => (h.1.lt j hj).1)
theorem rd_byte1 (w : World) (x : Nat) (hx : x < 256) (t : TypeId) : Rd (w.alloc (.cells #[.int .u8 (x : Int)] t)) (w.heap.size + 1) (some ⟨w.heap.size, 0, none⟩) (bytesV [UInt8.ofNat x]) := by
  refine .inr ⟨w.heap.size, 0, rfl, by omega, fun i u hu => ?_⟩
  rw [World.cell?_alloc_at _ _ _ _ rfl]
  cases i with
  | zero =>
    simp [bytesV, byteV] at hu ⊢
    rw [← hu, show (x : Int) % 256 = (x : Int) by omega]
  | succ i => simp [bytesV] at hu

/-- One of the worth of bits, as it goes round behind the last. -/
def worth (m : Nat) : Nat := 2 ^ m % 256
theorem worth_lt (m : Nat) (h : m < 8) : worth m = 2 ^ m := Nat.mod_eq_of_lt (pow_lt8 m h)
theorem worth_next (m : Nat) (_h : m < 8) : worth m * 2 % 256 = worth (m + 1) := by unfold worth; rw [Nat.pow_succ]; omega

set_option maxHeartbeats 1600000 in
theorem rwith_ok (l : List UInt8) (A : Option Addr) (n c i : Nat) (on : Bool) (w : World) (hn : l.length = n) (hr : Rd w w.heap.size A (bytesV l)) (h : i < 8 * n) (hl : n ≤ 512) :
    Calls Try.prog 12 #[.slice A n c, .int .i64 (i : Int), .bool on] w fun e w' => ∃ v, e = .returned (.tuple #[v, .int .i64 0]) ∧ Made w (wb l i on) v w' := by
  obtain ⟨L, hL⟩ : ∃ L, L = wb l i on := ⟨_, rfl⟩
  have hLn : L.length = n := by rw [hL, length_wb, hn]
  have HL : Hid (∀ k j, (hk : k < L.length) → j < 8 → L[k].toNat.testBit j = (if 8 * k + j = i then on else hb l (8 * k + j))) := Lib.hid (by subst hL; intro k j hk hj; exact wb_byte l i k j on (by omega) hk hj)
  rw [← hL]
  have Hn := Lib.hid hn
  have HLn := Lib.hid hLn
  have Hr := Lib.hid hr
  clear hL hLn hn hr
  go_enter Try.func12, Try.ntmps12
  go_wp2
  go_loopw [8, 9] (fun v i wr => ∃ k : Nat, k ≤ n ∧ i = .int .i64 (k : Int) ∧ Making w L k v wr) (fun _ i _ => n - (intOf i).toNat)
  case atStart => exact ⟨0, Nat.zero_le _, rfl, Making.start w L⟩
  case round =>
    obtain ⟨k, hk, rfl, hM⟩ := hrel
    by_cases hlt : k < n
    · obtain ⟨f, hf⟩ : ∃ f : Nat → Bool, f = fun j => if 8 * k + j = i then on else hb l (8 * k + j) := ⟨_, rfl⟩
      go_wp2
      go_loop [10, 11, 12] (fun x p z => ∃ m : Nat, m ≤ 8 ∧ z = .int .i64 (m : Int) ∧ ∃ u : Nat, x = .int .u8 (u : Int) ∧ p = .int .u8 (worth m : Nat) ∧ Mk f m u) (fun _ _ z => 8 - (intOf z).toNat)
      case atStart => exact ⟨0, by omega, rfl, 0, rfl, rfl, Mk.start f⟩
      case round =>
        obtain ⟨m, hm, rfl, u, rfl, rfl, hK⟩ := hrel
        have hu := hK.lt hm
        have hbel := hM.2
        by_cases hm8 : m < 8
        · have Hw := Lib.hid (worth_next m hm8)
          have hwl : worth m + u < 256 := by
            have h1 := hK.1
            have h2 : 2 ^ (m + 1) ≤ 2 ^ 8 := Nat.pow_le_pow_right (by omega) (by omega)
            rw [Nat.pow_succ] at h2
            rw [worth_lt m hm8]
            omega
          have hwi : 0 ≤ (worth m : Int) := Int.natCast_nonneg _
          have hX : hbI l (8 * (k : Int) + (m : Int)) = hb l (8 * k + m) := by
            have e : 8 * (k : Int) + (m : Int) = ((8 * k + m : Nat) : Int) := by omega
            rw [e, hbI_nat]
          have hfe : f m = if 8 * k + m = i then on else hb l (8 * k + m) := by rw [hf]
          generalize hb l (8 * k + m) = t at hX hfe
          clear hf
          by_cases hki : 8 * k + m = i
          · rw [if_pos hki] at hfe
            have hki' : 8 * (k : Int) + (m : Int) = (i : Int) := by omega
            rw [hki'] at hX
            have HX := Lib.hid hX
            clear hX
            cases on with
            | false =>
              have Hf := Lib.hid hfe
              clear hfe
              go_wp2_with (go_at_call 14; refine (rhas_any l A n c _ _ _ Hn.out (Hr.out.below hbel) (by omega)).mono ?_; rintro e w' ⟨rfl, rfl⟩; rw [HX.out])
              go_round
              case rel => exact ⟨m + 1, by omega, by go_num, u, rfl, by rw [← Hw.out]; go_num, hK.skip Hf.out⟩
              case measure => simp [intOf]; omega
            | true =>
              have Hf := Lib.hid hfe
              clear hfe
              go_wp2_with (go_at_call 14; refine (rhas_any l A n c _ _ _ Hn.out (Hr.out.below hbel) (by omega)).mono ?_; rintro e w' ⟨rfl, rfl⟩; rw [HX.out])
              go_round
              case rel => exact ⟨m + 1, by omega, by go_num, u + worth m, by go_num, by rw [← Hw.out]; go_num, by rw [worth_lt m hm8]; exact hK.add Hf.out⟩
              case measure => simp [intOf]; omega
          · rw [if_neg hki] at hfe
            have hki' : ¬ (8 * (k : Int) + (m : Int) = (i : Int)) := by omega
            have hkb : (8 * (k : Int) + (m : Int) == (i : Int)) = false := by simp [hki']
            have HX := Lib.hid hX
            clear hX
            cases t with
            | false =>
              have Hf := Lib.hid hfe
              clear hfe
              go_wp2_with (go_at_call 14; refine (rhas_any l A n c _ _ _ Hn.out (Hr.out.below hbel) (by omega)).mono ?_; rintro e w' ⟨rfl, rfl⟩; rw [HX.out])
              go_round
              case rel => exact ⟨m + 1, by omega, by go_num, u, rfl, by rw [← Hw.out]; go_num, hK.skip Hf.out⟩
              case measure => simp [intOf]; omega
            | true =>
              have Hf := Lib.hid hfe
              clear hfe
              go_wp2_with (go_at_call 14; refine (rhas_any l A n c _ _ _ Hn.out (Hr.out.below hbel) (by omega)).mono ?_; rintro e w' ⟨rfl, rfl⟩; rw [HX.out])
              go_round
              case rel => exact ⟨m + 1, by omega, by go_num, u + worth m, by go_num, by rw [← Hw.out]; go_num, by rw [worth_lt m hm8]; exact hK.add Hf.out⟩
              case measure => simp [intOf]; omega
        · obtain rfl : m = 8 := by omega
          have hkl : k < L.length := by rw [HLn.out]; exact hlt
          have Hx := Lib.hid (hK.done L[k] fun j hj => by rw [hf]; exact HL.out k j hkl hj)
          clear hf hK
          obtain ⟨hown, hb1⟩ := hM
          have hsz := hb1.size
          go_wp2_with (at_builtin; refine wpList_app5 _ rfl (.tmp 55) (.tmp 57) rfl w.heap.size _ k (L.take k) rfl (hown.alloc _) (wr.heap.size + 1) _ 1 1 [UInt8.ofNat u] rfl rfl (rd_byte1 wr u hu 5) (by omega) (by simp; omega) ?_)
          intro v' w1 hown' hg'
          go_wp2
          go_roundw
          case rel => exact ⟨k + 1, by omega, by go_num, Making.step hkl Hx.out ⟨hown, hb1⟩ hown' hg'⟩
          case measure => simp [intOf]; omega
    · obtain rfl : k = n := by omega
      go_wp2
      go_ret2
      have h1 := hM.1
      rw [List.take_of_length_le (by rw [HLn.out]; omega)] at h1
      exact ⟨_, rfl, by rw [HLn.out]; exact h1, hM.2⟩
end Go.Proofs.Ytobjkknemnekjaa
