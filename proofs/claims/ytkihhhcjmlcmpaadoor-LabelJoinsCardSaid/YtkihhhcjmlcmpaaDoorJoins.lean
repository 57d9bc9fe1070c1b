/-
  LabelJoins: whatever numbers (the first 100) and label, the label of categories is the join of each one's, and what flows to it has no others.
-/
import Derived.Test.YtkihhhcjmlcmpaaDoorD
import Derived.Test.YtkihhhcjmlcmpaaDoorO
namespace Go.Proofs.YtkihhhcjmlcmpaaDoor
open Go.ChangeShapes Go.WideShapes Go.ChangeAt Go.RowKit

theorem of_nats (L : List Nat) (hL : ∀ m ∈ L, m < 16) : ofA (L.map fun (k : Nat) => (k : Int)) = labOf L 0 ∧ ofE (L.map fun (k : Nat) => (k : Int)) = 0 := by
  have h : (L.map fun (k : Nat) => (k : Int)).all goodB = true := by
    rw [List.all_eq_true]
    intro x hx
    simp only [List.mem_map] at hx
    obtain ⟨k, hk, rfl⟩ := hx
    have := hL k hk
    simp [goodB]; omega
  have e : (L.map fun (k : Nat) => (k : Int)).map Int.toNat = L := by
    rw [List.map_map]
    conv => rhs; rw [← List.map_id L]
    apply List.map_congr_left
    intro k _
    simp
  unfold ofA ofE
  rw [h, e, if_pos rfl, if_pos rfl]
  exact ⟨rfl, rfl⟩
theorem one_lt {m : Nat} (hm : m < 16) : wth 0 m < 65536 := wth_lt (by omega) hm
theorem join_one (j m : Nat) : j ||| wth 0 m = wth j m := by simp [wth]
theorem flow_one (m b : Nat) : flowB (wth 0 m) b = b.testBit m := by
  rw [Bool.eq_iff_iff, flowB_iff]
  constructor
  · intro h
    exact h m (by rw [wth_bit]; simp)
  · intro h k hk
    rw [wth_bit, Nat.zero_testBit, Bool.false_or, decide_eq_true_eq] at hk
    rw [← hk]; exact h
theorem flow_cats {a b : Nat} (ha : a < 65536) : (cats a).all (b.testBit ·) = flowB a b := by
  rw [Bool.eq_iff_iff, flowB_iff, List.all_eq_true]
  constructor
  · intro h k hk
    by_cases h16 : k < 16
    · exact h k (mem_cats.2 ⟨h16, hk⟩)
    · rw [lab_bit ha (by omega)] at hk; cases hk
  · intro h k hk
    exact h k (mem_cats.1 hk).2

/-- Of, of a new block of one number. -/
theorem of_one (x : Int) (w : World) : Calls Tryd.prog 10 #[.slice (some ⟨w.heap.size, 0, none⟩) 1 1] (w.alloc (.cells #[.int .i64 x] 3))
    fun e w' => e = .returned (.tuple #[.int .u16 (ofA [x] : Nat), .int .i64 (ofE [x])]) ∧ w.alloc (.cells #[.int .i64 x] 3) = w' :=
  of_any [x] (some ⟨w.heap.size, 0, none⟩) 1 1 _ _ rfl ((Bk.new w 3 (intsV [x])).rd 1 0) (by omega)
theorem of_good (m : Nat) (hm : m < 16) (w : World) : Calls Tryd.prog 10 #[.slice (some ⟨w.heap.size, 0, none⟩) 1 1] (w.alloc (.cells #[.int .i64 (m : Int)] 3))
    fun e w' => e = .returned (.tuple #[.int .u16 (wth 0 m : Nat), .int .i64 0]) ∧ w.alloc (.cells #[.int .i64 (m : Int)] 3) = w' := by
  have h := of_one (m : Int) w
  have e := of_nats [m] (by simpa using hm)
  simp only [List.map_cons, List.map_nil] at e
  rw [e.1, e.2] at h
  exact h
theorem of_bad (x : Int) (hx : goodB x = false) (w : World) : Calls Tryd.prog 10 #[.slice (some ⟨w.heap.size, 0, none⟩) 1 1] (w.alloc (.cells #[.int .i64 x] 3))
    fun e w' => e = .returned (.tuple #[.int .u16 0, .int .i64 1]) ∧ w.alloc (.cells #[.int .i64 x] 3) = w' := by
  have h := of_one x w
  have e := ofA_bad [x] 0 (by simp) hx
  rw [e.1, e.2] at h
  exact h

/-- What stands while categories are gathered. -/
def Gath (w1 : World) (k jv : Nat) (x : Value) (wr : World) : Prop :=
  ∃ (L : List Nat) (n : Nat), n = L.length ∧ (∀ m ∈ L, m < 16) ∧ jv = labOf L 0 ∧ n ≤ k ∧ wr.ownsRow w1.heap.size 3 1 x n (natsV L) ∧ Below w1.heap.size w1 wr
theorem Gath.start (w1 : World) : Gath w1 0 0 (.slice none 0 0) w1 := ⟨[], 0, rfl, by simp, rfl, by omega, World.ownsRow_nil _ _ _ _, Below.refl _ _⟩
theorem Gath.skip {w1 wr : World} {k jv : Nat} {x : Value} (h : Gath w1 k jv x wr) (o : Obj) : Gath w1 (k + 1) jv x (wr.alloc o) := by
  obtain ⟨L, n, h1, h2, h3, h4, h5, h6⟩ := h
  exact ⟨L, n, h1, h2, h3, by omega, h5.alloc _, h6.alloc h6.size _⟩
theorem Gath.lt {w1 wr : World} {k jv : Nat} {x : Value} (h : Gath w1 k jv x wr) : jv < 65536 := by
  obtain ⟨L, n, h1, h2, rfl, _⟩ := h
  exact labOf_lt L 0 (by omega) h2
theorem rd_one' (w : World) (g : Nat) (hg : g = w.heap.size) (j : Nat) (t : TypeId) : Rd (w.alloc (.cells #[.int .i64 (j : Int)] t)) (w.heap.size + 1) (some ⟨g, 0, none⟩) (natsV [j]) := by
  subst hg
  exact rd_one w j t

set_option maxRecDepth 100000 in
set_option maxHeartbeats 1600000 in
theorem joins_walk (l : List Int) (A : Option Addr) (n c : Nat) (a : Int) (w : World) (hn : l.length = n) (hr : Rd w w.heap.size A (intsV l)) 
    (ha : 0 ≤ a ∧ a ≤ 65535) (hM : MaxAt w) :
    Calls Tryd.prog 9 #[.slice A n c, .int .u16 a] w fun e w' => e = .returned (.bool true) ∧ Below w.heap.size w w' := by
  obtain ⟨a, rfl⟩ := Int.eq_ofNat_of_zero_le ha.1
  have ha' : a < 65536 := by omega
  clear ha
  have Hn := Lib.hid hn
  clear hn
  go_enter Tryd.func9, Tryd.ntmps9
  go_wp2_with fail
  refine (shown_any _ hM).mono ?_
  rintro e w1 ⟨rfl, hB1⟩
  have hr1 := (hr.below hB1).more hB1.size
  clear hr hM
  go_wp2
  go_loopw [6, 7, 22] (fun x s i wr => ∃ k : Nat, k ≤ n ∧ k ≤ 100 ∧ i = .int .i64 (k : Int) ∧ ∃ jv : Nat, x = .int .u16 (jv : Int) ∧ Gath w1 k jv s wr) (fun _ _ i _ => n - (intOf i).toNat)
  case atStart => exact ⟨0, Nat.zero_le _, by omega, rfl, 0, rfl, Gath.start w1⟩
  case round =>
    obtain ⟨k, hk, hk100, rfl, jv, rfl, hG⟩ := hrel
    have hjv := hG.lt
    by_cases hlt : k < n
    · have hkl : k < l.length := by rw [Hn.out]; exact hlt
      obtain ⟨L, sn, hsn, hL, hjL, hsk, hown, hbel⟩ := hG
      have hsz := hbel.size
      have hr2 := hr1.below hbel
      rcases hr2 with h | ⟨b, o, rfl, hbb, hcc⟩
      · exfalso
        have : l = [] := by simpa [intsV] using h
        rw [this] at hkl; simp at hkl
      have hcell : wr.cell? ⟨b, o + k, none⟩ = some (.int .i64 l[k]) := hcc k _ (by simp [intsV, intV, hkl])
      clear hcc
      by_cases h100 : k < 100
      · by_cases hg : goodB l[k] = true
        · have hg0 : 0 ≤ l[k] := by simp [goodB] at hg; omega
          obtain ⟨m, hm'⟩ : ∃ m : Nat, l[k] = (m : Int) := Int.eq_ofNat_of_zero_le hg0
          have h16 : m < 16 := by rw [hm'] at hg; simp [goodB] at hg; omega
          rw [hm'] at hcell
          clear hg hg0 hm'
          have Hj := Lib.hid hjL
          have HL := Lib.hid hL
          have Hs := Lib.hid hsn
          clear hjL hL hsn
          go_wp2_with (first
            | (go_at_call 10; (with_reducible refine (of_good m h16 _).mono ?_); rintro e w' ⟨rfl, rfl⟩)
            | (at_builtin; refine wpList_app3 _ rfl (.tmp 37) (.tmp 39) rfl w1.heap.size _ sn L rfl ((hown.alloc _).alloc _) _ _ 1 1 [m] rfl rfl (rd_one' _ _ (by simp) m 3) (by omega) (by simp; omega) ?_)
            | (go_at_call 18; refine (join_any _ _ _ hjv (one_lt h16)).mono ?_; rintro e w' ⟨rfl, rfl⟩; rw [join_one]))
          intro b' w2 hown' hg'
          go_wp2_with (go_at_call 18; refine (join_any _ _ _ hjv (one_lt h16)).mono ?_; rintro e w' ⟨rfl, rfl⟩; rw [join_one])
          go_roundw
          case rel => exact ⟨k + 1, by omega, by omega, by go_num, wth jv m, rfl, L ++ [m], sn + 1, by rw [Hs.out]; simp, fun x hx => by
              rcases List.mem_append.1 hx with hx | hx
              · exact HL.out x hx
              · simp only [List.mem_singleton] at hx; rw [hx]; exact h16, by rw [labOf_append, ← Hj.out]; rfl, by omega, hown', ((hbel.alloc hsz _).alloc (by simp; omega) _).grown hg' (by simp; omega) (fun k hk => (hown.lt k hk).1)⟩
          case measure => simp [intOf]; omega
        · have hg' : goodB l[k] = false := by simpa using hg
          have HG := Lib.hid (⟨L, sn, hsn, hL, hjL, hsk, hown, hbel⟩ : Gath w1 k jv _ wr)
          have Hb := Lib.hid hg'
          clear hg hg' hsn hL hjL hown
          generalize l[k] = x at hcell Hb
          go_wp2_with (go_at_call 10; (with_reducible refine (of_bad x Hb.out _).mono ?_); rintro e w' ⟨rfl, rfl⟩)
          go_roundw
          case rel => exact ⟨k + 1, by omega, by omega, by go_num, jv, rfl, Gath.skip HG.out _⟩
          case measure => simp [intOf]; omega
      · clear hr1
        obtain ⟨_, A2, c2, rfl, hc2, hm2, hr3⟩ := own_rd hown
        rw [natsV_ints] at hr3
        have e := of_nats L hL
        rw [← hjL] at e
        have E := Lib.hid e
        have Hl := Lib.hid ((List.length_map _).trans hsn.symm : (L.map fun (k : Nat) => (k : Int)).length = sn)
        have hB2 := hB1.trans (hbel.mono hB1.size)
        clear e hown hsn hL hjL hbel
        go_wp2_with (go_at_call 10; refine (of_any _ A2 sn c2 _ _ Hl.out hr3 (by unfold maxLen at hm2; omega)).mono ?_; rintro e w' ⟨rfl, rfl⟩; rw [E.out.1, E.out.2])
        refine (list_any a _ ha').mono ?_
        rintro e w4 ⟨v4, rfl, hL4⟩
        obtain ⟨A4, n4, c4, rfl, hn4, hc4, hm4, hr4, hb4⟩ := hL4.slice
        have Hn4 := Lib.hid hn4
        have hB4 := hB2.trans (hb4.mono hB2.size)
        clear hL4 hn4 hr3 hb4 hcell
        go_wp2
        go_loopw [14, 60] (fun x i wq => ∃ j : Nat, j ≤ n4 ∧ i = .int .i64 (j : Int) ∧ ∃ okv : Bool, x = .bool okv ∧ Hid (okv = ((cats a).take j).all (jv.testBit ·)) ∧ Below w4.heap.size w4 wq) (fun _ i _ => n4 - (intOf i).toNat)
        case atStart => exact ⟨0, Nat.zero_le _, rfl, true, rfl, rfl, Below.refl _ _⟩
        case round =>
          obtain ⟨j, hj, rfl, okv, rfl, Hok, hbq⟩ := hrel
          by_cases hlj : j < n4
          · have hjl : j < (cats a).length := by rw [Hn4.out]; exact hlj
            have hr5 := hr4.below hbq
            have hsq := hbq.size
            rcases rd_nat hr5 with h | ⟨b5, o5, rfl, hbb5, hcc5⟩
            · exfalso; rw [h] at hjl; simp at hjl
            have hcell := hcc5 j _ (List.getElem?_eq_getElem hjl)
            have h16 : (cats a)[j] < 16 := cats_lt (List.getElem_mem hjl)
            have Hnew : Hid (((cats a).take (j + 1)).all (jv.testBit ·) = (okv && jv.testBit (cats a)[j])) := Lib.hid (by
              rw [List.take_succ_eq_append_getElem hjl, List.all_append, ← Hok.out]; simp)
            clear hcc5 hr5
            generalize (cats a)[j] = m at hcell h16 Hnew
            have hm1 := one_lt h16
            cases okv
            · go_wp2_with (go_at_call 10; (with_reducible refine (of_good m h16 _).mono ?_); rintro e w' ⟨rfl, rfl⟩)
              go_roundw
              case rel => exact ⟨j + 1, by omega, by go_num, false, rfl, by rw [Hnew.out]; rfl, hbq.alloc hsq _⟩
              case measure => simp [intOf]; omega
            · go_wp2_with (first
                | (go_at_call 10; (with_reducible refine (of_good m h16 _).mono ?_); rintro e w' ⟨rfl, rfl⟩)
                | (go_at_call 16; refine (flows_any _ _ _ hm1 hjv).mono ?_; rintro e w' ⟨rfl, rfl⟩; rw [flow_one]))
              go_roundw
              case rel => exact ⟨j + 1, by omega, by go_num, _, rfl, by rw [Hnew.out]; rfl, hbq.alloc hsq _⟩
              case measure => simp [intOf]; omega
          · have Hf : Hid (flowB a jv = okv) := Lib.hid (by rw [Hok.out, List.take_of_length_le (by rw [Hn4.out]; omega), flow_cats ha'])
            go_wp2_with (go_at_call 16; refine (flows_any _ _ _ ha' hjv).mono ?_; rintro e w' ⟨rfl, rfl⟩; rw [Hf.out])
            go_ret
            exact ⟨by simp, hB4.trans (hbq.mono hB4.size)⟩
    · obtain ⟨L, sn, hsn, hL, hjL, hsk, hown, hbel⟩ := hG
      have hsz := hbel.size
      clear hr1
      obtain ⟨_, A2, c2, rfl, hc2, hm2, hr3⟩ := own_rd hown
      rw [natsV_ints] at hr3
      have e := of_nats L hL
      rw [← hjL] at e
      have E := Lib.hid e
      have Hl := Lib.hid ((List.length_map _).trans hsn.symm : (L.map fun (k : Nat) => (k : Int)).length = sn)
      have hB2 := hB1.trans (hbel.mono hB1.size)
      clear e hown hsn hL hjL hbel
      go_wp2_with (go_at_call 10; refine (of_any _ A2 sn c2 _ _ Hl.out hr3 (by unfold maxLen at hm2; omega)).mono ?_; rintro e w' ⟨rfl, rfl⟩; rw [E.out.1, E.out.2])
      refine (list_any a _ ha').mono ?_
      rintro e w4 ⟨v4, rfl, hL4⟩
      obtain ⟨A4, n4, c4, rfl, hn4, hc4, hm4, hr4, hb4⟩ := hL4.slice
      have Hn4 := Lib.hid hn4
      have hB4 := hB2.trans (hb4.mono hB2.size)
      clear hL4 hn4 hr3 hb4
      go_wp2
      go_loopw [14, 60] (fun x i wq => ∃ j : Nat, j ≤ n4 ∧ i = .int .i64 (j : Int) ∧ ∃ okv : Bool, x = .bool okv ∧ Hid (okv = ((cats a).take j).all (jv.testBit ·)) ∧ Below w4.heap.size w4 wq) (fun _ i _ => n4 - (intOf i).toNat)
      case atStart => exact ⟨0, Nat.zero_le _, rfl, true, rfl, rfl, Below.refl _ _⟩
      case round =>
        obtain ⟨j, hj, rfl, okv, rfl, Hok, hbq⟩ := hrel
        by_cases hlj : j < n4
        · have hjl : j < (cats a).length := by rw [Hn4.out]; exact hlj
          have hr5 := hr4.below hbq
          have hsq := hbq.size
          rcases rd_nat hr5 with h | ⟨b5, o5, rfl, hbb5, hcc5⟩
          · exfalso; rw [h] at hjl; simp at hjl
          have hcell := hcc5 j _ (List.getElem?_eq_getElem hjl)
          have h16 : (cats a)[j] < 16 := cats_lt (List.getElem_mem hjl)
          have Hnew : Hid (((cats a).take (j + 1)).all (jv.testBit ·) = (okv && jv.testBit (cats a)[j])) := Lib.hid (by
            rw [List.take_succ_eq_append_getElem hjl, List.all_append, ← Hok.out]; simp)
          clear hcc5 hr5
          generalize (cats a)[j] = m at hcell h16 Hnew
          have hm1 := one_lt h16
          cases okv
          · go_wp2_with (go_at_call 10; (with_reducible refine (of_good m h16 _).mono ?_); rintro e w' ⟨rfl, rfl⟩)
            go_roundw
            case rel => exact ⟨j + 1, by omega, by go_num, false, rfl, by rw [Hnew.out]; rfl, hbq.alloc hsq _⟩
            case measure => simp [intOf]; omega
          · go_wp2_with (first
              | (go_at_call 10; (with_reducible refine (of_good m h16 _).mono ?_); rintro e w' ⟨rfl, rfl⟩)
              | (go_at_call 16; refine (flows_any _ _ _ hm1 hjv).mono ?_; rintro e w' ⟨rfl, rfl⟩; rw [flow_one]))
            go_roundw
            case rel => exact ⟨j + 1, by omega, by go_num, _, rfl, by rw [Hnew.out]; rfl, hbq.alloc hsq _⟩
            case measure => simp [intOf]; omega
        · have Hf : Hid (flowB a jv = okv) := Lib.hid (by rw [Hok.out, List.take_of_length_le (by rw [Hn4.out]; omega), flow_cats ha'])
          go_wp2_with (go_at_call 16; refine (flows_any _ _ _ ha' hjv).mono ?_; rintro e w' ⟨rfl, rfl⟩; rw [Hf.out])
          go_ret
          exact ⟨by simp, hB4.trans (hbq.mono hB4.size)⟩

theorem joins_contract (H : Type) (enc : TypeId × Value → H) (W : World) (base : Nat) (args : Array Value) (ds gs : List (DataW H)) (before : List MemPlace)
    (hval : ∀ (j : Nat) t v, Tryd.f9.params[j]? = some t → args[j]? = some v → Value.okWide Tryd.prog W .any base t v)
    (hW : DataW.Whole enc Tryd.prog Tryd.f9.params.toList Rows.labelJoinsSpec.vars false W args.toList ds gs before) (hsh : W.ShapedOpen Tryd.prog) :
    Calls Tryd.prog 9 args W fun e W' => ∃ v, e = .returned v ∧ Rows.labelJoinsSpec.post enc Tryd.prog Tryd.f9 false true false false W args v W' := by
  have hW' := hW
  have hlt : ∀ x ∈ before, x.block < W.heap.size := fun x hx => hW.lt x hx
  have hMax := maxAt hsh
  clear hsh
  obtain ⟨p, q, hA0, hV, rfl, _, _⟩ := hW
  have hA : DataW.TrodAll enc Tryd.prog W 0 (fun _ => true) true Tryd.f9.params.toList args.toList ds p := hA0
  rw [Tryd.params9] at hA hval
  obtain ⟨v0, vs0, d0, ds0, p0, q0, hargs, rfl, rfl, h0, r0⟩ := trodAll_cons hA
  obtain ⟨v1, vs1, d1, ds1, p1, q1, rfl, rfl, rfl, h1, r1⟩ := trodAll_cons r0
  obtain ⟨rfl, rfl, rfl⟩ := trodAll_nil r1
  obtain rfl : args = #[v0, v1] := by cases args; simp_all
  obtain ⟨rfl, rfl⟩ := trodVars_none hV
  clear hA0
  obtain ⟨A0, n0, c0, l0, rfl, hn0, hc0, hm0, hr0⟩ := open_intsL Tryd.underlying22 Tryd.underlying3 cells3 (hval 0 22 v0 rfl rfl) h0 (fun x hx => hlt x (by simp [hx]))
  unfold maxLen at hm0
  obtain ⟨a1, rfl, rfl, rfl, wa1⟩ := open_int Tryd.underlying24 (hval 1 24 v1 rfl rfl) h1
  have bd1 := bounds_u16 wa1
  refine (joins_walk l0 A0 n0 c0 a1 W hn0 hr0 bd1 hMax).mono fun e W' ⟨he, hb⟩ => ?_
  subst he
  exact ⟨_, rfl, law_post laid (by kernel_rfl) Tryd.underlying4 (by rw [Tryd.params9]; decide +kernel) rfl hW' ⟨rfl, rfl, rfl⟩ hb⟩

theorem joins_reads (os : Os) {H : Type} (enc : TypeId × Value → H) : ∃ x, DataW.whole enc Tryd.prog ((laidWorld os).forCall (fun _ _ => 0) ⟨#[], #[.slice none 0 0, .int .u16 0], []⟩).memory Tryd.f9.params.toList Rows.labelJoinsSpec.vars false (#[.slice none 0 0, .int .u16 0] : Array Value).toList 8 = some x :=
  Option.isSome_iff_exists.1 (by kernel_rfl)

set_option maxRecDepth 100000 in
theorem joins_lifted (os : Os) (started : os.Started) (H : Type) (enc : TypeId × Value → H) (F : Stop.Interp) :
    ReturnsInHanded {} Tryd.checked os 9 .any ((OpenSpec.ofChange Rows.labelJoinsSpec).preRow enc Tryd.prog Tryd.f9 Rows.labelJoinsRow.domain false Rows.labelJoinsRow.laid) (((OpenSpec.ofChange Rows.labelJoinsSpec).at F).post enc Tryd.prog Tryd.f9 false true false false) := by
  obtain ⟨x, hx⟩ := joins_reads os enc
  refine returnsInHanded_of_row (C := Tryd.checked) (s := OpenSpec.ofChange Rows.labelJoinsSpec) own started (by kernel_rfl) Tryd.func9
    (witness_row_at (enc := enc) (C := Tryd.checked) false (laidWorld os) #[.slice none 0 0, .int .u16 0] rfl (by kernel_rfl) (by kernel_rfl) (by kernel_rfl)
      (OpenSpec.preRow_of_cond 8 hx rfl (fun k hk => by cases hk) (by kernel_rfl) (laid_met os _))) ?_
  intro W base args ds gs before hval hW _ _ _ _ hsh _
  exact joins_contract H enc W base args ds gs before hval hW hsh

theorem joins_said : Rows.LabelJoinsSaid :=
  OpenClaim.holds_of_cond 9 Tryd.f9 rfl rfl rfl rfl rfl rfl rfl ⟨rfl, rfl, rfl, rfl, rfl⟩ rfl rfl rfl rfl rfl (by kernel_rfl) Tryd.func9 (by kernel_rfl)
    (of_decide_eq_true (by kernel_rfl)) (by unfold Func.isWrapper; first | (rw [if_pos (by decide +kernel)]; kernel_rfl) | (rw [if_neg (by decide +kernel)]; exact ⟨rfl, rfl⟩))
    (fun os started H enc _ F => by rw [OpenClaim.pre_eq_preRow]; exact joins_lifted os started H enc F)

/-- LabelJoins is true for every input; what its row lists is tied to the program's text. -/
theorem joins_holds : Rows.LabelJoinsCardSaid :=
  Claim7.holds_tied_plain_at .later [] _ _ _ _ joins_said (fun _ h => by cases h) (by kernel_rfl) (fun _ h => by cases h) labelJoins_row_tie rfl ⟨rfl, rfl⟩ (by kernel_rfl) rfl
    (plain_of (by kernel_rfl) Tryd.func9 no_looks (by kernel_rfl)) (by kernel_rfl)
end Go.Proofs.YtkihhhcjmlcmpaaDoor
