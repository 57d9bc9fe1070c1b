/-
  The texts of labels, by package label and by the document: what each call returns, and what it leaves.
-/
import Derived.Test.YtkihhhcjmlcmpaaDoorW2
import Derived.Test.YtkihhhcjmlcmpaaDoorShelf
namespace Go.Proofs.YtkihhhcjmlcmpaaDoor
open Go.RowKit

theorem conv_one (W : World) (g : Nat) (x : Int) (b : UInt8) (hg : g = W.heap.size) (hx : x = (b.toNat : Int)) :
    (convert 52 9 (.slice (some ⟨g, 0, none⟩) 1 1)).run Tryd.prog (W.alloc (.cells #[.int .u8 x] 5)) = .ok (.string ⟨#[b]⟩) (W.alloc (.cells #[.int .u8 x] 5)) := by
  subst hg hx
  refine run_str _ 52 9 5 Tryd.underlying52 Tryd.underlying5 Tryd.underlying9 (W.heap.size + 1) _ 1 1 [b] rfl ?_
  refine .inr ⟨W.heap.size, 0, rfl, by omega, fun i u hu => ?_⟩
  rw [World.cell?_alloc_at _ _ _ _ rfl]
  cases i with
  | zero => simpa [bytesV, byteV] using hu
  | succ i => simp [bytesV] at hu
theorem ret_str {a b : ByteArray} (h : a = b) : Ending.returned (.string a) = .returned (.string b) := by rw [h]
theorem str_ext {a : ByteArray} {l : List UInt8} (h : a.data.toList = l) : a = ⟨l.toArray⟩ := by
  subst h
  cases a
  simp
theorem str_size (l : List UInt8) : (⟨l.toArray⟩ : ByteArray).size = l.length := by simp [ByteArray.size]
theorem comma_size : (⟨#[44]⟩ : ByteArray).size = 1 := rfl
theorem str_cat (a b : ByteArray) : (a ++ b).data.toList = a.data.toList ++ b.data.toList := by
  rw [ByteArray.data_append, Array.toList_append]

set_option maxRecDepth 20000 in
theorem digits_any (k : Nat) (w : World) (hk : k < 16) :
    Calls Tryd.prog 36 #[.int .i64 (k : Int)] w fun e w' => e = .returned (.string ⟨(dg k).toArray⟩) ∧ Below w.heap.size w w' := by
  have h1 := conv_one w w.heap.size (48 + (k : Int) % 10) (UInt8.ofNat (48 + k % 10)) rfl (by simp; omega)
  by_cases h : k < 10
  · go_enter Tryd.func36, Tryd.ntmps36
    go_wp2
    go_ret
    refine ⟨ret_str ?_, (Below.refl _ _).alloc (Nat.le_refl _) _⟩
    have hd : ∀ k, k < 10 → (#[48 + UInt8.ofNat (k % 10)] : Array UInt8) = (dg k).toArray := by decide
    rw [← hd k h]
  · have h2 := conv_one (w.alloc (.cells #[.int .u8 (48 + (k : Int) % 10)] 5)) (w.heap.size + 1) (48 + (k : Int) / 10 % 10) (UInt8.ofNat (48 + k / 10 % 10)) (by simp) (by simp; omega)
    go_enter Tryd.func36, Tryd.ntmps36
    go_wp2
    go_ret
    refine ⟨ret_str (str_ext ?_), ((Below.refl _ _).alloc (Nat.le_refl _) _).alloc (by simp) _⟩
    have hd : ∀ k, k < 16 → ¬ k < 10 → [48 + UInt8.ofNat (k / 10 % 10)] ++ [48 + UInt8.ofNat (k % 10)] = dg k := by decide
    rw [str_cat]
    exact hd k hk h

theorem itoa_any (k : Nat) (w : World) (hk : k < 16) :
    Calls Tryd.prog 34 #[.int .i64 (k : Int)] w fun e w' => e = .returned (.string ⟨(dg k).toArray⟩) ∧ w = w' :=
  (Any.strconv_Itoa_small Tryd.lays171 k (by omega) w).mono fun e w' ⟨he, hw⟩ => ⟨by rw [he, decDigits_dg k (by omega)], hw.symm⟩

def strsV (l : List (List UInt8)) : List Value := l.map fun d => .string ⟨d.toArray⟩
theorem strsV_append (l m : List (List UInt8)) : strsV (l ++ m) = strsV l ++ strsV m := by simp [strsV]
theorem info9 : (Tryd.prog.info? 9).map (fun i => (i.zero, i.size, i.bytes)) = some (some (.string .empty), 1, 16) := by kernel_rfl
/-- append onto an own row of strings. -/
theorem wpList_app9 (w : World) {ops : Array Oper} {rest : List Oper} {o : Oper} {a : Act} {Q : Exit → Act → World → Prop} (hgd : o.guard = none) (s x : Operand)
    (ho : o.op = .call { callee := .builtin .append, args := #[s, x], argTypes := #[44, 44] })
    (base : Nat) (v : Value) (n : Nat) (l : List (List UInt8)) (hs : a.eval s = v) (hown : w.ownsRow base 9 1 v n (strsV l))
    (B : Nat) (A : Option Addr) (m c : Nat) (k : List (List UInt8)) (hx : a.eval x = .slice A m c) (hm : k.length = m) (hr : Rd w B A (strsV k))
    (hbytes : n + m ≤ 1000000) (hbase : base ≤ w.heap.size)
    (h : ∀ v' w', w'.ownsRow base 9 1 v' (n + m) (strsV (l ++ k)) → w.grownBy w' v.ownBlock → wpList Tryd.prog ops Q rest (a.put o.dst v') w') : wpList Tryd.prog ops Q (o :: rest) a w := by
  obtain ⟨i0, hi, hz0, hz1, hz2⟩ := info_parts info9
  rw [strsV_append] at h
  exact wpList_app w hgd s x 44 ho base 9 i0 _ 16 Tryd.underlying44 hi hz0 hz1 hz2 rfl v n _ hs hown B A m c _ hx (by simp [strsV, hm]) hr (by
    intro u hu
    simp only [strsV, List.mem_map] at hu
    obtain ⟨b, _, rfl⟩ := hu
    rfl) (by simp only [maxLen]; omega) (by omega) hbase h
theorem rd_str (w : World) (d : List UInt8) (t : TypeId) : Rd (w.alloc (.cells #[.string ⟨d.toArray⟩] t)) (w.heap.size + 1) (some ⟨w.heap.size, 0, none⟩) (strsV [d]) := by
  refine .inr ⟨w.heap.size, 0, rfl, by omega, fun i u hu => ?_⟩
  rw [World.cell?_alloc_at _ _ _ _ rfl]
  cases i with
  | zero => simpa [strsV] using hu
  | succ i => simp [strsV] at hu

/-- Join, of any list of strings that a slice holds. -/
theorem joins_any (l : List (List UInt8)) (A : Option Addr) (n c : Nat) (w : World) (hn : l.length = n) (hc : n ≤ c) (hr : Rd w w.heap.size A (strsV l)) (hl : (Lib.join l [44]).length ≤ 1000000) (hm : n ≤ 1000000) :
    Calls Tryd.prog 35 #[.slice A n c, .string ⟨#[44]⟩] w fun e w' => e = .returned (.string ⟨(Lib.join l [44]).toArray⟩) ∧ Below w.heap.size w w' := by
  subst hn
  rcases hr with h | ⟨b, o, rfl, hb, hcell⟩
  · have h0 : l = [] := by simpa [strsV] using h
    subst h0
    exact (Any.strings_Join_none Tryd.lays156 Tryd.Builder_Extra_156 A c ⟨#[44]⟩ w).mono fun e w' ⟨he, hw⟩ => ⟨he, hw ▸ Below.refl _ _⟩
  · have e : (l.map fun d => (⟨d.toArray⟩ : ByteArray)).map (·.data.toList) = l := by
      rw [List.map_map]
      conv => rhs; rw [← List.map_id l]
      apply List.map_congr_left
      intro d _
      simp
    have hJ := Any.strings_Join Tryd.lays156 Tryd.Builder_Extra_156 b o c (l.map fun d => (⟨d.toArray⟩ : ByteArray)) ⟨#[44]⟩ w (fun j x hx => by
      refine hcell j _ ?_
      simp only [List.getElem?_map, Option.map_eq_some_iff, strsV] at hx ⊢
      obtain ⟨d, hd, rfl⟩ := hx
      exact ⟨d, hd, rfl⟩) hb (by rw [List.length_map]; omega) (by rw [List.length_map]; exact hc) (by rw [e]; show (Lib.join l [44]).length ≤ _; omega)
    rw [List.length_map, e] at hJ
    exact hJ

/-- What stands while the words of a text are gathered. -/
def Wording (w : World) (l : List Nat) (k : Nat) (x : Value) (wr : World) : Prop := wr.ownsRow w.heap.size 9 1 x k (strsV ((l.take k).map dg)) ∧ Below w.heap.size w wr
theorem Wording.add {w wr w1 : World} {l : List Nat} {k m : Nat} {x b' : Value} (h : Wording w l k x wr) (hm : l[k]? = some m)
    (hown' : w1.ownsRow w.heap.size 9 1 b' (k + 1) (strsV ((l.take k).map dg ++ [dg m]))) (hg' : (wr.alloc (.cells #[.string ⟨(dg m).toArray⟩] 9)).grownBy w1 x.ownBlock) : Wording w l (k + 1) b' w1 := by
  obtain ⟨hown, hbel⟩ := h
  have hsz := hbel.size
  refine ⟨?_, (hbel.alloc hsz _).grown hg' (by simp; omega) (fun k hk => (hown.lt k hk).1)⟩
  rw [List.take_add_one, hm, List.map_append]
  exact hown'
theorem join_len (a : Nat) : (Lib.join ((cats a).map dg) [44]).length ≤ 100 := by
  have := textL_length a
  simp only [textL, List.length_cons, List.length_append] at this
  omega

set_option maxHeartbeats 400000 in
theorem text_any (a : Nat) (w : World) (ha : a < 65536) :
    Calls Tryd.prog 26 #[.int .u16 (a : Int)] w fun e w' => e = .returned (.string ⟨(textL a).toArray⟩) ∧ Below w.heap.size w w' := by
  go_enter Tryd.func26, Tryd.ntmps26
  go_wp2_with fail
  refine (list_any a _ ha).mono ?_
  rintro e w1 ⟨v1, rfl, hL1⟩
  obtain ⟨A1, n, c1, rfl, hn1, hc1, hm1, hr1, hb1⟩ := hL1.slice
  have Hn := Lib.hid hn1
  have hn16 : n ≤ 16 := by rw [← hn1]; exact catsTo_length a 16
  clear hL1 hn1
  go_wp2
  go_loopw [3, 9] (fun x i wr => ∃ k : Nat, k ≤ n ∧ i = .int .i64 (k : Int) ∧ Wording w1 (cats a) k x wr) (fun _ i _ => n - (intOf i).toNat)
  case atStart => exact ⟨0, Nat.zero_le _, rfl, World.ownsRow_nil _ _ _ _, Below.refl _ _⟩
  case round =>
    obtain ⟨k, hk, rfl, hW⟩ := hrel
    by_cases hlt : k < n
    · have hkl : k < (cats a).length := by rw [Hn.out]; exact hlt
      have h16 : (cats a)[k] < 16 := cats_lt (List.getElem_mem hkl)
      have Hm := Lib.hid (List.getElem?_eq_getElem hkl)
      have hr2 := hr1.below hW.2
      have hsz := hW.2.size
      generalize (cats a)[k] = m at h16 Hm
      rcases rd_nat hr2 with h | ⟨b, o, rfl, hbb, hcc⟩
      · rw [h] at hkl; simp at hkl
      have hcell := hcc k _ Hm.out
      clear hcc hr2
      go_wp2_with (first | (go_at_call 34; refine (itoa_any m _ h16).mono ?_; rintro e w' ⟨rfl, rfl⟩) | (at_builtin; refine wpList_app9 _ rfl (.tmp 13) (.tmp 16) rfl w1.heap.size _ k _ rfl (hW.1.alloc _) _ _ 1 1 [dg m] rfl rfl (rd_str _ (dg m) 9) (by omega) (by simp; omega) ?_))
      intro b' w2 hown' hg'
      go_wp2
      go_roundw
      case rel => exact ⟨k + 1, by omega, by go_num, hW.add Hm.out (by rw [List.map_take]; exact hown') hg'⟩
      case measure => simp [intOf]; omega
    · obtain rfl : k = n := by omega
      obtain ⟨hown, hbel⟩ := hW
      have et : (cats a).take k = cats a := List.take_of_length_le (by rw [Hn.out]; omega)
      rw [et] at hown
      have HlJ := join_len a
      obtain ⟨_, A2, c2, rfl, hc2, hm2, hr2⟩ := own_rd hown
      have hsz := hbel.size
      have hB := hb1.trans (hbel.mono hb1.size)
      clear et hown
      go_wp2_with (go_at_call 35; refine (joins_any ((cats a).map dg) A2 _ c2 _ (by rw [List.length_map, Hn.out]) hc2 hr2 (by omega) (by omega)).mono ?_; rintro e w3 ⟨rfl, hb3⟩)
      go_ret
      refine ⟨ret_str (str_ext ?_), hB.trans (hb3.mono (by have := hb1.size; omega))⟩
      rw [str_cat, str_cat]
      simp [textL]

/-- A text's first words. -/
def headL (l : List Nat) (k : Nat) : List UInt8 := 91 :: Lib.join ((l.take k).map dg) [44]
theorem headL_first {l : List Nat} {m : Nat} (hm : l[0]? = some m) : headL l 1 = headL l 0 ++ dg m := by
  unfold headL
  rw [List.take_add_one, hm]
  simp [Lib.join_one, Lib.join_nil]
theorem headL_more {l : List Nat} {k m : Nat} (hk : 0 < k) (hm : l[k]? = some m) : headL l (k + 1) = headL l k ++ [44] ++ dg m := by
  unfold headL
  rw [List.take_add_one, hm]
  cases l with
  | nil => simp at hm
  | cons x l =>
    obtain ⟨k, rfl⟩ : ∃ j, k = j + 1 := ⟨k - 1, by omega⟩
    simp [Lib.join_cons, Lib.joinTail]

set_option maxHeartbeats 400000 in
theorem rtext_any (a : Nat) (w : World) (ha : a < 65536) :
    Calls Tryd.prog 27 #[.int .u16 (a : Int)] w fun e w' => e = .returned (.string ⟨(textL a).toArray⟩) ∧ Below w.heap.size w w' := by
  go_enter Tryd.func27, Tryd.ntmps27
  go_wp2_with fail
  refine (rlist_any a _ ha).mono ?_
  rintro e w1 ⟨v1, rfl, hL1⟩
  obtain ⟨A1, n, c1, rfl, hn1, hc1, hm1, hr1, hb1⟩ := hL1.slice
  have Hn := Lib.hid hn1
  have hn16 : n ≤ 16 := by rw [← hn1]; exact catsTo_length a 16
  clear hL1 hn1
  go_wp2
  go_loopw [3, 5] (fun x i wr => ∃ k : Nat, k ≤ n ∧ i = .int .i64 (k : Int) ∧ (∃ T : ByteArray, x = .string T ∧ T.size ≤ 1 + 3 * k ∧ Hid (T.data.toList = headL (cats a) k)) ∧ Below w1.heap.size w1 wr) (fun _ i _ => n - (intOf i).toNat)
  case atStart => exact ⟨0, Nat.zero_le _, rfl, ⟨_, rfl, Nat.le_refl 1, (by simp [headL, Lib.join_nil] : ([91] : List UInt8) = headL (cats a) 0)⟩, Below.refl _ _⟩
  case round =>
    obtain ⟨k, hk, rfl, ⟨T, rfl, hT, HT⟩, hW⟩ := hrel
    by_cases hlt : k < n
    · have hkl : k < (cats a).length := by rw [Hn.out]; exact hlt
      have h16 : (cats a)[k] < 16 := cats_lt (List.getElem_mem hkl)
      have Hm := Lib.hid (List.getElem?_eq_getElem hkl)
      have hr2 := hr1.below hW
      have hsz := hW.size
      generalize (cats a)[k] = m at h16 Hm
      have hdl := (dg_len m h16).2
      rcases rd_nat hr2 with h | ⟨b, o, rfl, hbb, hcc⟩
      · rw [h] at hkl; simp at hkl
      have hcell := hcc k _ Hm.out
      clear hcc hr2
      by_cases h0 : k = 0
      · subst h0
        have hcell : wr.cell? ⟨b, o, none⟩ = some (.int .i64 (m : Int)) := hcell
        go_wp2_with (go_at_call 36; refine (digits_any m _ h16).mono ?_; rintro e w2 ⟨rfl, hb2⟩)
        go_roundw
        case rel => exact ⟨1, by omega, by go_num, ⟨_, rfl, by have h1 := str_size (dg m); rw [ByteArray.size_append]; omega, (by rw [str_cat, HT.out, headL_first Hm.out] : _ = headL (cats a) 1)⟩, hW.trans (hb2.mono hsz)⟩
        case measure => simp [intOf]; omega
      · have hp : 0 < k := by omega
        go_wp2_with (go_at_call 36; refine (digits_any m _ h16).mono ?_; rintro e w2 ⟨rfl, hb2⟩)
        go_roundw
        case rel => exact ⟨k + 1, by omega, by go_num, ⟨_, rfl, by have h1 := str_size (dg m); have h2 := comma_size; rw [ByteArray.size_append, ByteArray.size_append]; omega, (by rw [str_cat, str_cat, HT.out, headL_more hp Hm.out] : _ = headL (cats a) (k + 1))⟩, hW.trans (hb2.mono hsz)⟩
        case measure => simp [intOf]; omega
    · obtain rfl : k = n := by omega
      have hB := hb1.trans (hW.mono hb1.size)
      go_wp2
      go_ret
      refine ⟨ret_str (str_ext ?_), hB⟩
      rw [str_cat, HT.out, headL, List.take_of_length_le (by rw [Hn.out]; omega)]
      simp [textL]

/-- The cell of the library's own that a search reads. -/
def MaxAt (w : World) : Prop := 0 < w.heap.size ∧ ∃ m : Int, w.cell? ⟨0, 0, none⟩ = some (.int .i64 m)
theorem MaxAt.below {w w' : World} (h : MaxAt w) (hb : Below w.heap.size w w') : MaxAt w' := by
  obtain ⟨h0, m, hm⟩ := h
  refine ⟨by have := hb.size; omega, m, ?_⟩
  rw [hb.cell (p := ⟨0, 0, none⟩) h0]
  exact hm
theorem contains_any (s sub : ByteArray) (w : World) (hm : MaxAt w) (hs : s.size < 4294967281) :
    Calls Tryd.prog 39 #[.string s, .string sub] w fun e w' => e = .returned (.bool (Lib.contains s.data.toList sub.data.toList)) ∧ w = w' := by
  obtain ⟨_, m, hm⟩ := hm
  exact (Any.strings_Contains Tryd.lays144 s sub m w hs hm).mono fun e w' ⟨he, hw⟩ => ⟨he, hw.symm⟩
theorem trim_any (s : ByteArray) (w : World) (hs : s.size ≤ 1000000) :
    Calls Tryd.prog 38 #[.string s, .string ⟨#[91, 93]⟩] w fun e w' => e = .returned (.string ⟨(Lib.trimS s.data.toList [91, 93]).toArray⟩) ∧ Below w.heap.size w w' :=
  Any.strings_Trim_laid Tryd.lays160 (by kernel_rfl) s ⟨#[91, 93]⟩ w (by omega) (by decide) (ascii_of_all (by decide))
theorem trimS_len (l cs : List UInt8) : (Lib.trimS l cs).length ≤ l.length := by
  have hd : ∀ (p : UInt8 → Bool) (l : List UInt8), (l.dropWhile p).length ≤ l.length := fun p l => (List.dropWhile_suffix p).length_le
  unfold Lib.trimS Lib.trimLeftS Lib.trimRightS
  refine Nat.le_trans (hd _ _) ?_
  rw [List.length_reverse]
  refine Nat.le_trans (hd _ _) ?_
  rw [List.length_reverse]
  exact Nat.le_refl _

/-- What stands of the named ones. -/
def Naming (p : Nat → Bool) (j x : Nat) : Prop := x < 65536 ∧ x = labOf ((List.range j).filter p) 0
theorem Naming.skip {p : Nat → Bool} {j x : Nat} (h : Naming p j x) (hp : p j = false) : Naming p (j + 1) x := by
  refine ⟨h.1, ?_⟩
  rw [List.range_succ, List.filter_append, h.2]
  simp [hp]
theorem Naming.add {p : Nat → Bool} {j x : Nat} (h : Naming p j x) (hj : j < 16) (hp : p j = true) : Naming p (j + 1) (wth x j) := by
  refine ⟨wth_lt h.1 hj, ?_⟩
  rw [List.range_succ, List.filter_append, labOf_append, ← h.2]
  simp [hp, labOf]
theorem Naming.new {p : Nat → Bool} {j x : Nat} (h : Naming p j x) : x.testBit j = false := by
  rw [h.2, labOf_bit]
  simp
theorem Naming.start (p : Nat → Bool) : Naming p 0 0 := ⟨by omega, rfl⟩

set_option maxHeartbeats 400000 in
theorem named_any (s : ByteArray) (w : World) (hs : s.size ≤ 1000000) (hm : MaxAt w) :
    Calls Tryd.prog 32 #[.string s] w fun e w' => e = .returned (.int .u16 (nmd s.data.toList : Nat)) ∧ Below w.heap.size w w' := by
  have hl := trimS_len s.data.toList [91, 93]
  have hl2 : (Lib.trimS s.data.toList [91, 93]).length ≤ 1000000 := by
    have : s.data.toList.length = s.size := by simp
    omega
  clear hl
  go_enter Tryd.func32, Tryd.ntmps32
  go_wp2_with (go_at_call 38; refine (trim_any s _ hs).mono ?_; rintro e w1 ⟨rfl, hb1⟩)
  have hm1 := hm.below hb1
  clear hm
  obtain ⟨t, ht, hts⟩ : ∃ t : ByteArray, t = (⟨#[44]⟩ : ByteArray) ++ ⟨(Lib.trimS s.data.toList [91, 93]).toArray⟩ ++ ⟨#[44]⟩ ∧ t.size < 4294967281 := ⟨_, rfl, by have h1 := str_size (Lib.trimS s.data.toList [91, 93]); have h2 := comma_size; rw [ByteArray.size_append, ByteArray.size_append]; omega⟩
  rw [← ht]
  have Ht : Hid (∀ k, Lib.contains t.data.toList (44 :: (dg k ++ [44])) = hitB s.data.toList k) := Lib.hid (fun k => by rw [ht, str_cat, str_cat]; rfl)
  clear ht hl2
  go_loop [3, 9] (fun x i => ∃ j : Nat, j ≤ 16 ∧ i = .int .i64 (j : Int) ∧ ∃ m : Nat, x = .int .u16 (m : Int) ∧ Naming (hitB s.data.toList) j m) (fun _ i => 16 - (intOf i).toNat)
  case atStart => exact ⟨0, by omega, rfl, 0, rfl, Naming.start _⟩
  case round =>
    obtain ⟨j, hj, rfl, m, rfl, hN⟩ := hrel
    by_cases hlt : j < 16
    · have hmlt := hN.1
      have hdl := (dg_len j hlt).2
      have hct : ∀ w, MaxAt w → Calls Tryd.prog 39 #[.string t, .string ((⟨#[44]⟩ : ByteArray) ++ ⟨(dg j).toArray⟩ ++ ⟨#[44]⟩)] w fun e w' => e = .returned (.bool (hitB s.data.toList j)) ∧ w = w' := fun w hw =>
        (contains_any t _ w hw hts).mono fun e w' ⟨he, hw⟩ => ⟨by rw [he, str_cat, str_cat, ← Ht.out]; rfl, hw⟩
      have Hct := Lib.hid hct
      clear hct
      cases hb : hitB s.data.toList j
      · have HN := Lib.hid (hN.skip hb)
        have Hb := Lib.hid hb
        clear hb hN
        go_wp2_with (first | (go_at_call 34; refine (itoa_any j _ hlt).mono ?_; rintro e w' ⟨rfl, rfl⟩) | (go_at_call 39; refine (Hct.out _ hm1).mono ?_; rintro e w' ⟨rfl, rfl⟩; rw [Hb.out]))
        go_round
        case rel => exact ⟨j + 1, by omega, by go_num, _, rfl, HN.out⟩
        case measure => simp [intOf]; omega
      · have HN := Lib.hid (hN.add hlt hb)
        have Hb := Lib.hid hb
        clear hb hN
        go_wp2_with (first | (go_at_call 34; refine (itoa_any j _ hlt).mono ?_; rintro e w' ⟨rfl, rfl⟩) | (go_at_call 39; refine (Hct.out _ hm1).mono ?_; rintro e w' ⟨rfl, rfl⟩; rw [Hb.out]) | (go_at_call 28; refine (with_any _ _ _ hmlt hlt).mono ?_; rintro e w' ⟨rfl, rfl⟩))
        go_round
        case rel => exact ⟨j + 1, by omega, by go_num, _, rfl, HN.out⟩
        case measure => simp [intOf]; omega
    · obtain rfl : j = 16 := by omega
      go_wp2
      go_ret
      exact ⟨ret_u16 (by rw [hN.2]; rfl), hb1⟩
end Go.Proofs.YtkihhhcjmlcmpaaDoor
