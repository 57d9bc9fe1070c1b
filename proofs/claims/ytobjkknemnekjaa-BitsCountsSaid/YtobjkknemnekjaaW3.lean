/-
  Package bits' List and the document's own, and whether two lists are the same: what each call returns, and what it leaves.
-/
import Derived.Test.YtobjkknemnekjaaW1
import Derived.Test.YtobjkknemnekjaaW2
namespace Go.Proofs.Ytobjkknemnekjaa
open Go.RowKit

def natsV (l : List Nat) : List Value := l.map fun (n : Nat) => .int .i64 (n : Int)
theorem length_natsV (l : List Nat) : (natsV l).length = l.length := by simp [natsV]
theorem natsV_append (l m : List Nat) : natsV (l ++ m) = natsV l ++ natsV m := by simp [natsV]
theorem info3 : (Try.prog.info? 3).map (fun i => (i.zero, i.size, i.bytes)) = some (some (.int .i64 0), 1, 8) := by kernel_rfl
/-- append onto an own row of numbers. -/
theorem wpList_app34 (w : World) {ops : Array Oper} {rest : List Oper} {o : Oper} {a : Act} {Q : Exit → Act → World → Prop} (hgd : o.guard = none) (s x : Operand)
    (ho : o.op = .call { callee := .builtin .append, args := #[s, x], argTypes := #[34, 34] })
    (base : Nat) (v : Value) (n : Nat) (l : List Nat) (hs : a.eval s = v) (hown : w.ownsRow base 3 1 v n (natsV l))
    (B : Nat) (A : Option Addr) (m c : Nat) (k : List Nat) (hx : a.eval x = .slice A m c) (hm : k.length = m) (hr : Rd w B A (natsV k))
    (hbytes : n + m ≤ 1000000) (hbase : base ≤ w.heap.size)
    (h : ∀ v' w', w'.ownsRow base 3 1 v' (n + m) (natsV (l ++ k)) → w.grownBy w' v.ownBlock → wpList Try.prog ops Q rest (a.put o.dst v') w') : wpList Try.prog ops Q (o :: rest) a w := by
  obtain ⟨i0, hi, hz0, hz1, hz2⟩ := info_parts info3
  rw [natsV_append] at h
  exact wpList_app w hgd s x 34 ho base 3 i0 _ 8 Try.underlying34 hi hz0 hz1 hz2 rfl v n _ hs hown B A m c _ hx (by rw [length_natsV, hm]) hr (by
    intro u hu
    simp only [natsV, List.mem_map] at hu
    obtain ⟨b, _, rfl⟩ := hu
    rfl) (by simp only [maxLen]; omega) (by omega) hbase h
/-- A new block of one number, read. -/
theorem rd_one (w : World) (j : Nat) (t : TypeId) : Rd (w.alloc (.cells #[.int .i64 (j : Int)] t)) (w.heap.size + 1) (some ⟨w.heap.size, 0, none⟩) (natsV [j]) := by
  refine .inr ⟨w.heap.size, 0, rfl, by omega, fun i u hu => ?_⟩
  rw [World.cell?_alloc_at _ _ _ _ rfl]
  cases i with
  | zero => simpa [natsV] using hu
  | succ i => simp [natsV] at hu

/-- What a list of categories leaves: a new row. -/
def Listed (w : World) (l : List Nat) (v : Value) (w' : World) : Prop := w'.ownsRow w.heap.size 3 1 v l.length (natsV l) ∧ Below w.heap.size w w'
theorem below_drewN {B : Nat} {w wr : World} (h : Below B w wr) (m : Nat) : Below B w (wr.drewN m) := ⟨h.os, h.tape, h.output, h.size, h.block⟩
theorem rd_nat {w : World} {B : Nat} {A : Option Addr} {l : List Nat} (h : Rd w B A (natsV l)) : l = [] ∨ ∃ b o, A = some ⟨b, o, none⟩ ∧ b < B ∧ ∀ (j : Nat) (x : Nat), l[j]? = some x → w.cell? ⟨b, o + j, none⟩ = some (.int .i64 (x : Int)) := by
  rcases h with h | ⟨b, o, h1, h2, h3⟩
  · exact .inl (by simpa [natsV] using h)
  · exact .inr ⟨b, o, h1, h2, fun j x hx => h3 j _ (by simp [natsV, hx])⟩

/-- What stands while a list grows. -/
def Listing (w : World) (l : List UInt8) (j : Nat) (x : Value) (wr : World) : Prop := ∃ n : Nat, n = (onesTo l j).length ∧ wr.ownsRow w.heap.size 3 1 x n (natsV (onesTo l j)) ∧ Below w.heap.size w wr
theorem Listing.start (w : World) (l : List UInt8) : Listing w l 0 (.slice none 0 0) w := ⟨0, rfl, World.ownsRow_nil _ _ _ _, Below.refl _ _⟩
theorem Listing.below {w wr : World} {l : List UInt8} {j : Nat} {x : Value} (h : Listing w l j x wr) : Below w.heap.size w wr := by
  obtain ⟨n, _, _, h3⟩ := h
  exact h3
theorem Listing.drewN {w wr : World} {l : List UInt8} {j : Nat} {x : Value} (h : Listing w l j x wr) (m : Nat) : Listing w l j x (wr.drewN m) := by
  obtain ⟨n, h1, h2, h3⟩ := h
  exact ⟨n, h1, h2, below_drewN h3 m⟩
theorem Listing.skip {w wr : World} {l : List UInt8} {j : Nat} {x : Value} (h : Listing w l j x wr) (hb' : hb l j = false) : Listing w l (j + 1) x wr := by
  unfold Listing
  rw [onesTo_no hb']
  exact h
theorem Listing.add {w wr w1 : World} {l : List UInt8} {j n : Nat} {x b' : Value} (hb' : hb l j = true) (hn : n = (onesTo l j).length) (hown : wr.ownsRow w.heap.size 3 1 x n (natsV (onesTo l j))) (hbel : Below w.heap.size w wr)
    (hown' : w1.ownsRow w.heap.size 3 1 b' (n + 1) (natsV (onesTo l j ++ [j]))) (hg' : (wr.alloc (.cells #[.int .i64 (j : Int)] 3)).grownBy w1 x.ownBlock) : Listing w l (j + 1) b' w1 := by
  have hsz := hbel.size
  refine ⟨n + 1, ?_, ?_, ?_⟩
  · rw [onesTo_yes hb', hn]; simp
  · rw [onesTo_yes hb']; exact hown'
  · exact (hbel.alloc hsz _).grown hg' (by simp; omega) (fun k hk => (hown.lt k hk).1)
theorem Listing.done {w wr : World} {l : List UInt8} {x : Value} {n : Nat} (h : Listing w l (8 * n) x wr) (hn : l.length = n) : Listed w (ones l) x wr := by
  subst hn
  obtain ⟨n, rfl, h1, h2⟩ := h
  exact ⟨h1, h2⟩

set_option maxHeartbeats 800000 in
theorem list_any (l : List UInt8) (A : Option Addr) (n c : Nat) (w : World) (hn : l.length = n) (hr : Rd w w.heap.size A (bytesV l)) (hm : n ≤ 100000) :
    Calls Try.prog 20 #[.slice A n c] w fun e w' => ∃ v, e = .returned v ∧ Listed w (ones l) v w' := by
  have Hn := Lib.hid hn
  have Hr := Lib.hid hr
  clear hn hr
  go_enter Try.func20, Try.ntmps20
  go_wp2_with (go_at_call 23; refine (size_any _ _ _ _ (by omega)).mono ?_; rintro e w' ⟨rfl, rfl⟩)
  go_loopw [3, 7] (fun x i wr => ∃ j : Nat, j ≤ 8 * n ∧ i = .int .i64 (j : Int) ∧ Listing w l j x wr) (fun _ i _ => 8 * n - (intOf i).toNat)
  case atStart => exact ⟨0, by omega, rfl, Listing.start w l⟩
  case round =>
    obtain ⟨j, hj, rfl, hL⟩ := hrel
    by_cases hlt : j < 8 * n
    · have hX : hbI l (j : Int) = hb l j := hbI_nat l j
      have Hb0 := Lib.hid hL.below
      cases hb' : hb l j
      · rw [hb'] at hX
        have HX := Lib.hid hX
        have HL' := Lib.hid (hL.skip hb')
        clear hL hb' hX
        go_wp2_with (go_at_call 13; refine (has_any l A n c _ _ _ Hn.out (Hr.out.below Hb0.out) (by omega)).mono ?_; rintro e w' ⟨rfl, m2, rfl⟩; rw [HX.out])
        go_roundw
        case rel => exact ⟨j + 1, by omega, by go_num, HL'.out.drewN m2⟩
        case measure => simp [intOf]; omega
      · rw [hb'] at hX
        have HX := Lib.hid hX
        have Hb := Lib.hid hb'
        clear hb' hX
        obtain ⟨k, hk, hown, hbel⟩ := hL
        have hsz := hbel.size
        have hkl : k ≤ 800000 := by rw [hk]; have := onesTo_len l j; omega
        have Hk := Lib.hid hk
        clear hk
        go_wp2_with (first
          | (at_builtin; refine wpList_app34 _ rfl (.tmp 13) (.tmp 15) rfl w.heap.size _ k (onesTo l j) rfl (hown2.alloc _) (wq.heap.size + 1) _ 1 1 [j] rfl rfl (rd_one wq j 3) (by omega) (by simp; omega) ?_)
          | (go_at_call 13; refine (has_any l A n c _ _ _ Hn.out (Hr.out.below Hb0.out) (by omega)).mono ?_; rintro e w' ⟨rfl, m2, rfl⟩; rw [HX.out]; obtain ⟨wq, hwq⟩ : ∃ wq, wq = wr.drewN m2 := ⟨_, rfl⟩; have hbel2 := below_drewN hbel m2; have hown2 : (wr.drewN m2).ownsRow w.heap.size 3 1 u3 k (natsV (onesTo l j)) := hown; rw [← hwq] at hbel2 hown2 ⊢; have hsz2 := hbel2.size; clear hwq hsz))
        intro b' w1 hown' hg'
        go_wp2
        go_roundw
        case rel => exact ⟨j + 1, by omega, by go_num, Listing.add Hb.out Hk.out hown2 hbel2 hown' hg'⟩
        case measure => simp [intOf]; omega
    · obtain rfl : j = 8 * n := by omega
      go_wp2
      go_ret
      exact ⟨_, rfl, hL.done Hn.out⟩

set_option maxHeartbeats 800000 in
theorem rlist_any (l : List UInt8) (A : Option Addr) (n c : Nat) (w : World) (hn : l.length = n) (hr : Rd w w.heap.size A (bytesV l)) (hm : n ≤ 100000) :
    Calls Try.prog 21 #[.slice A n c] w fun e w' => ∃ v, e = .returned v ∧ Listed w (ones l) v w' := by
  have Hn := Lib.hid hn
  have Hr := Lib.hid hr
  clear hn hr
  go_enter Try.func21, Try.ntmps21
  go_wp2
  go_loopw [3, 4] (fun x i wr => ∃ j : Nat, j ≤ 8 * n ∧ i = .int .i64 (j : Int) ∧ Listing w l j x wr) (fun _ i _ => 8 * n - (intOf i).toNat)
  case atStart => exact ⟨0, by omega, rfl, Listing.start w l⟩
  case round =>
    obtain ⟨j, hj, rfl, hL⟩ := hrel
    by_cases hlt : j < 8 * n
    · have hX : hbI l (j : Int) = hb l j := hbI_nat l j
      have Hb0 := Lib.hid hL.below
      cases hb' : hb l j
      · rw [hb'] at hX
        have HX := Lib.hid hX
        have HL' := Lib.hid (hL.skip hb')
        clear hL hb' hX
        go_wp2_with (go_at_call 14; refine (rhas_any l A n c _ _ _ Hn.out (Hr.out.below Hb0.out) (by omega)).mono ?_; rintro e w' ⟨rfl, rfl⟩; rw [HX.out])
        go_roundw
        case rel => exact ⟨j + 1, by omega, by go_num, HL'.out⟩
        case measure => simp [intOf]; omega
      · rw [hb'] at hX
        have HX := Lib.hid hX
        have Hb := Lib.hid hb'
        clear hb' hX
        obtain ⟨k, hk, hown, hbel⟩ := hL
        have hsz := hbel.size
        have hkl : k ≤ 800000 := by rw [hk]; have := onesTo_len l j; omega
        have Hk := Lib.hid hk
        clear hk
        go_wp2_with (first | (at_builtin; refine wpList_app34 _ rfl (.tmp 15) (.tmp 17) rfl w.heap.size _ k (onesTo l j) rfl (hown.alloc _) (wr.heap.size + 1) _ 1 1 [j] rfl rfl (rd_one wr j 3) (by omega) (by simp; omega) ?_) | (go_at_call 14; refine (rhas_any l A n c _ _ _ Hn.out (Hr.out.below Hb0.out) (by omega)).mono ?_; rintro e w' ⟨rfl, rfl⟩; rw [HX.out]))
        intro b' w1 hown' hg'
        go_wp2
        go_roundw
        case rel => exact ⟨j + 1, by omega, by go_num, Listing.add Hb.out Hk.out hown hbel hown' hg'⟩
        case measure => simp [intOf]; omega
    · obtain rfl : j = 8 * n := by omega
      go_wp2
      go_ret
      exact ⟨_, rfl, hL.done Hn.out⟩

set_option maxHeartbeats 400000 in
theorem same_true (l : List Nat) (A A2 : Option Addr) (n c c2 : Nat) (B B2 : Nat) (w : World) (hn : l.length = n) (hr : Rd w B A (natsV l)) (hr2 : Rd w B2 A2 (natsV l)) (hm : n ≤ 9223372036854775807) :
    Calls Try.prog 19 #[.slice A n c, .slice A2 n c2] w fun e w' => e = .returned (.bool true) ∧ ∃ q, w' = w.drewN q := by
  have Hn := Lib.hid hn
  have h0 : l = [] → n = 0 := fun h => by rw [← hn, h]; rfl
  clear hn
  rcases rd_nat hr with h | ⟨b1, o1, rfl, _, hcc1⟩
  · obtain rfl := h0 h
    clear h h0 hr hr2
    go_enter Try.func19, Try.ntmps19
    go_wp2
    go_loop [5] (fun i => i = .int .i64 0) (fun _ => 0)
    case atStart => exact rfl
    case round =>
      obtain rfl := hrel
      go_wp2
      go_ret
      exact ⟨rfl, 0, rfl⟩
  rcases rd_nat hr2 with h | ⟨b2, o2, rfl, _, hcc2⟩
  · obtain rfl := h0 h
    clear h h0 hr hr2 hcc1
    go_enter Try.func19, Try.ntmps19
    go_wp2
    go_loop [5] (fun i => i = .int .i64 0) (fun _ => 0)
    case atStart => exact rfl
    case round =>
      obtain rfl := hrel
      go_wp2
      go_ret
      exact ⟨rfl, 0, rfl⟩
  have Hc1 := Lib.hid hcc1
  have Hc2 := Lib.hid hcc2
  clear hcc1 hcc2 hr hr2 h0
  have hnn : ((n : Int) != (n : Int)) = false := by simp
  go_enter Try.func19, Try.ntmps19
  go_wp2
  go_loopw [5] (fun i wr => ∃ k : Nat, k ≤ n ∧ i = .int .i64 (k : Int) ∧ ∃ q, wr = w.drewN q) (fun i _ => n - (intOf i).toNat)
  case atStart => exact ⟨0, Nat.zero_le _, rfl, 0, rfl⟩
  case round =>
    obtain ⟨k, hk, rfl, q, rfl⟩ := hrel
    by_cases hlt : k < n
    · have h1 : k < l.length := by rw [Hn.out]; exact hlt
      have hcell := Hc1.out k _ (List.getElem?_eq_getElem h1)
      have hcell2 := Hc2.out k _ (List.getElem?_eq_getElem h1)
      generalize l[k] = x at hcell hcell2
      have hxx : ((x : Int) != (x : Int)) = false := by simp
      have hk0 : (0 : Int) ≤ (k : Int) := Int.natCast_nonneg _
      have hk1 : (k : Int) < (n : Int) := by omega
      go_wp2
      go_quiet (fail)
      go_wp2
      go_roundw
      case rel => exact ⟨k + 1, by omega, by go_num, q + nq, rfl⟩
      case measure => simp [intOf]; omega
    · go_wp2
      go_ret
      exact ⟨rfl, q, rfl⟩
end Go.Proofs.Ytobjkknemnekjaa
