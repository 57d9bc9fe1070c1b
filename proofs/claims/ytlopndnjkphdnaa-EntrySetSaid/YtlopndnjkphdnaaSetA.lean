/-
  EntrySet: the state: a directory's bytes, and a map of its names, as they lie.
-/
import Derived.Test.YtlopndnjkphdnaaK
import Derived.Test.YtlopndnjkphdnaaOA
import Derived.Test.YtlopndnjkphdnaaEntryS
import Derived.Carry
import Derived.Deep.AppendLies
namespace Go.Proofs.Ytlopndnjkphdnaa
open Go.ChangeShapes Go.WideShapes Go.ChangeAt Go.RowKit Entry

theorem MapIs.look2 {β : Type} {e t : TypeId} {R : Value → Option (DataW Unit × List MemPlace)} {enc : β → Value} {dat : β → DataW Unit} {ok : β → Prop} {z : β} {w : World} {b m : Nat} {at_ : ByteArray → β} {there : ByteArray → Bool}
    (E : Elem e R enc dat ok z) (ht : Try.prog.underlying t = some (.map 9 e)) (h : MapIs R dat z w b at_ there m) {s : ByteArray} (hs : Sok s) :
    (Instr.lookup t (.map (some b)) (.string s) true).run Try.prog w = .ok (.tuple #[enc (at_ s), .bool (there s)]) w := by
  obtain ⟨D, h1, h2, h3, _⟩ := h
  obtain ⟨v, ps, hrun, hv⟩ := h1.look_ok key9 ht (E.zero w) (E.make z E.okz) (key9_of hs)
  obtain ⟨x, rfl, hx, _⟩ := E.inv _ _ hv
  have e1 := h2 s
  rw [Prod.mk.injEq] at hx
  obtain rfl := E.inj _ _ (hx.1.symm.trans e1)
  rw [h3 s] at hrun
  exact hrun

/-- What a map has of a directory. -/
def atS (S : List Slot) (s : ByteArray) : Int := (((fnd S s.data.toList).getD 0 : Nat) : Int)
def thS (S : List Slot) (s : ByteArray) : Bool := (fnd S s.data.toList).isSome
def Need (w : World) (b : Nat) (at_ : ByteArray → Int) (there : ByteArray → Bool) (m : Nat) : Prop := MapIs (plainElem (H := Unit) Try.prog 3) (fun x => .lit (.int .i64 x)) 0 w b at_ there m
theorem arr_ne {s t : ByteArray} (h : s ≠ t) : s.data.toList ≠ t.data.toList := fun e => h (by
  apply ByteArray.ext
  exact Array.toList_inj.1 e)
theorem length_put_ents (S : List Slot) (x : Ent) : (ents (Entry.put S x)).length = (ents S).length + 1 := by
  induction S with
  | nil => rfl
  | cons s l ih =>
    cases s with
    | none => rfl
    | some y =>
      show (y :: ents (Entry.put l x)).length = (y :: ents l).length + 1
      rw [List.length_cons, List.length_cons, ih]
theorem length_less {E : List Ent} (h : (E.map (·.n)).Nodup) {x : Ent} (hx : x ∈ E) : (E.filter fun y => !(y.n == x.n)).length + 1 = E.length := by
  induction E with
  | nil => simp at hx
  | cons y E ih =>
    rw [List.map_cons, List.nodup_cons] at h
    rcases List.mem_cons.1 hx with rfl | hx
    · rw [List.filter_cons_of_neg (by simp), List.filter_eq_self.2]
      · rfl
      · intro z hz
        have : z.n ≠ x.n := fun he => h.1 (he ▸ List.mem_map.2 ⟨z, hz, rfl⟩)
        simpa using this
    · have hne : y.n ≠ x.n := fun he => h.1 (he ▸ List.mem_map.2 ⟨x, hx, rfl⟩)
      rw [List.filter_cons_of_pos (by simpa using hne), List.length_cons, List.length_cons, ih h.2 hx]
theorem need_put {w : World} {b : Nat} {S : List Slot} {s : ByteArray} {i : Int} (hS : Dir S) (h0 : 0 ≤ i) (hf : fnd S s.data.toList = none)
    (h : Need w b (fun k => if k = s then i else atS S k) (fun k => decide (k = s) || thS S k) (if thS S s then (ents S).length else (ents S).length + 1)) :
    Need w b (atS (Entry.put S ⟨s.data.toList, i.toNat⟩)) (thS (Entry.put S ⟨s.data.toList, i.toNat⟩)) (ents (Entry.put S ⟨s.data.toList, i.toNat⟩)).length := by
  have hnm : s.data.toList ∉ names S := fun hm => by
    obtain ⟨x, hx, hn⟩ := mem_names.1 hm
    have := fnd_of hS.once hx
    rw [hn, hf] at this
    cases this
  have hth : thS S s = false := by unfold thS; rw [hf]; rfl
  refine MapIs.as h (fun k => ?_) (fun k => ?_) (by rw [hth, length_put_ents]; rfl)
  · unfold atS
    rw [fnd_put hS.once hnm]
    by_cases hk : k = s
    · subst hk
      rw [if_pos rfl, if_pos rfl]
      simp
      omega
    · rw [if_neg hk, if_neg (arr_ne hk)]
  · unfold thS
    rw [fnd_put hS.once hnm]
    by_cases hk : k = s
    · subst hk
      rw [if_pos rfl]
      simp
    · rw [if_neg (arr_ne hk), decide_eq_false hk, Bool.false_or]
theorem need_del {w : World} {b : Nat} {S : List Slot} {s : ByteArray} {k : Nat} (hS : Dir S) (hf : fnd S s.data.toList = some k)
    (h : Need w b (fun k => if k = s then 0 else atS S k) (fun k => !decide (k = s) && thS S k) (if thS S s then (ents S).length - 1 else (ents S).length)) :
    Need w b (atS (del S s.data.toList)) (thS (del S s.data.toList)) (ents (del S s.data.toList)).length := by
  have hth : thS S s = true := by unfold thS; rw [hf]; rfl
  obtain ⟨x, hx, hn, _⟩ := fnd_some hf
  have hl := length_less hS.once (mem_ents.2 hx)
  rw [hn, ← ents_del] at hl
  refine MapIs.as h (fun k => ?_) (fun k => ?_) (by rw [hth, if_pos rfl]; omega)
  · unfold atS
    rw [fnd_del hS.once]
    by_cases hk : k = s
    · subst hk
      rw [if_pos rfl, if_pos rfl]
      rfl
    · rw [if_neg hk, if_neg (arr_ne hk)]
  · unfold thS
    rw [fnd_del hS.once]
    by_cases hk : k = s
    · subst hk
      rw [if_pos rfl]
      simp
    · rw [if_neg (arr_ne hk), decide_eq_false hk]
      rfl
theorem rd_far {W W' : World} {bm B : Nat} {A : Option Addr} {xs : List Value} (h : Rd W B A xs) (hmap : ∃ es clock, W.heap[bm]? = some (.map es clock)) (hg : W.grownBy W' (some bm)) (hB : B ≤ W.heap.size) : Rd W' B A xs := by
  rcases h with h | ⟨b, o, h1, h2, h3⟩
  · exact .inl h
  · refine .inr ⟨b, o, h1, h2, fun j u hu => ?_⟩
    have hc := h3 j u hu
    refine (hg.cell_far _ (Nat.lt_of_lt_of_le h2 hB) ?_).trans hc
    intro e
    injection e with e
    obtain ⟨es, clock, hm⟩ := hmap
    have e : b = bm := e
    subst e
    simp [World.cell?, hm] at hc
/-- The directory and the map. -/
structure St (w wr : World) (bm : Nat) (S M : List Slot) (A : Option Addr) (q c : Nat) : Prop where
  rd : Rd wr wr.heap.size A (bytesV (dirB hsh S))
  dir : Dir S
  tight : Tight S
  len : q = S.length * 16
  cap : q ≤ c ∧ c ≤ maxLen
  map : Need wr bm (atS M) (thS M) (ents M).length
  bel : Below w.heap.size w wr
  bw : w.heap.size ≤ bm
section
variable {w wr w' : World} {bm : Nat} {S M S' M' : List Slot} {A A' : Option Addr} {q c q' c' : Nat}
theorem St.below (h : St w wr bm S M A q c) (hb : Below wr.heap.size wr w') : St w w' bm S M A q c :=
  ⟨(h.rd.below hb).more hb.size, h.dir, h.tight, h.len, h.cap, h.map.keep (hb.block bm h.map.lt), h.bel.trans (hb.mono h.bel.size), h.bw⟩
theorem St.bytes (h : St w wr bm S M A q c) (hb : Below wr.heap.size wr w') (hd : Dir S') (ht : Tight S') (hr : Rd w' w'.heap.size A' (bytesV (dirB hsh S'))) (hq : q' = S'.length * 16) (hc : q' ≤ c' ∧ c' ≤ maxLen) : St w w' bm S' M A' q' c' :=
  ⟨hr, hd, ht, hq, hc, (h.below hb).map, (h.below hb).bel, h.bw⟩
theorem St.put (h : St w wr bm S M A q c) (hm : Need w' bm (atS M') (thS M') (ents M').length) (hg : wr.grownBy w' (some bm)) : St w w' bm S M' A q c :=
  ⟨(rd_far h.rd (MapIs.isMap h.map) hg (Nat.le_refl _)).more hg.size, h.dir, h.tight, h.len, h.cap, hm, h.bel.grown hg h.bel.size (fun k hk => by cases hk; exact h.bw), h.bw⟩
theorem St.look (h : St w wr bm S M A q c) {s : ByteArray} (hs : Sok s) : (Instr.lookup 45 (.map (some bm)) (.string s) true).run Try.prog wr = .ok (.tuple #[.int .i64 (atS M s), .bool (thS M s)]) wr := MapIs.look2 intE Try.underlying45 h.map hs
theorem St.lenm (h : St w wr bm S M A q c) {n : Nat} (hn : (ents M).length = n) : (Builtin.len_ #[45] 3 #[.map (some bm)]).run Try.prog wr = .ok (.int .i64 (n : Int)) wr := by
  subst hn
  exact MapIs.len Try.underlying45 h.map 3
theorem St.bytesLen (h : St w wr bm S M A q c) : (dirB hsh S).length = q := by rw [length_dirB h.dir.ok, h.len]
end

theorem Acts.more {w : World} {B B' : Nat} {A : Option Addr} {l : List Ac} (h : Acts w B A l) (hB : B ≤ B') : Acts w B' A l := by
  rcases h with h | ⟨b, o, h1, h2, h3⟩
  · exact .inl h
  · exact .inr ⟨b, o, h1, Nat.lt_of_lt_of_le h2 hB, h3⟩
theorem Acts.lies {w : World} {B : Nat} {A : Option Addr} {l : List Ac} (h : Acts w B A l) {j : Nat} {a : Ac} (ha : l[j]? = some a) : ∃ b o, A = some ⟨b, o, none⟩ ∧ a.Good ∧ w.cell? ⟨b, o + j * 3, none⟩ = some (.bool a.gone) ∧ w.cell? ⟨b, o + j * 3 + 1, none⟩ = some (.string a.s) ∧ w.cell? ⟨b, o + j * 3 + 2, none⟩ = some (.int .i64 a.i) := by
  rcases h with rfl | ⟨b, o, h1, _, h3⟩
  · simp at ha
  · exact ⟨b, o, h1, h3 j a ha⟩
theorem length_put_le (S : List Slot) (x : Ent) : (Entry.put S x).length ≤ S.length + 1 := by
  by_cases hf : none ∈ S
  · rw [length_put_free hf]; omega
  · rw [put_full hf, List.length_append, List.length_singleton]; omega
theorem length_del_le (S : List Slot) (n : List UInt8) : (del S n).length ≤ S.length := by
  have := length_cutEnd (clr S n)
  rw [length_clr] at this
  exact this
/-- What a call hands back: an error alone; bytes, and OK. -/
def Refused (W : World) (k : Int) (e : Ending) (w' : World) : Prop := ∃ v, e = .returned (.tuple #[v, .int .i64 k]) ∧ Below W.heap.size W w'
def Given (W : World) (l : List UInt8) (n : Nat) (e : Ending) (w' : World) : Prop := ∃ A c, e = .returned (.tuple #[.slice A n c, .int .i64 0]) ∧ n ≤ c ∧ c ≤ maxLen ∧ Rd w' w'.heap.size A (bytesV l) ∧ Below W.heap.size W w'
theorem hands_ref {W w' : World} {l : List UInt8} {k : Nat} {e : Ending} (h : Hands W (l, k) e w') : Refused W (k : Int) e w' := by
  obtain ⟨v, he, -, hb⟩ := h
  exact ⟨v, he, hb⟩
theorem hands_giv {W w' : World} {l : List UInt8} {n : Nat} {e : Ending} (h : Hands W (l, 0) e w') (hn : l.length = n) : Given W l n e w' := Hands.got h hn
section
variable {w W : World} {bm : Nat} {S M : List Slot} {A : Option Addr} {q c : Nat}
theorem St.all (h : St w W bm S M A q c) {m : Nat} (hm : (ents S).length = m) : Calls Try.prog 18 #[.slice A q c] W fun e w' => ∃ A8 c8, e = .returned (.tuple #[.slice A8 m c8, .int .i64 0]) ∧ Rd w' w'.heap.size A8 (rowsG entC (ents S)) ∧ Below W.heap.size W w' := by
  have := all_any _ A q c W h.bytesLen h.rd h.cap.1 h.cap.2
  rw [allE_some (dirP_dir h.dir)] at this
  refine this.mono fun e w' ⟨v, he, hown, hb⟩ => ?_
  obtain ⟨A8, c8, hv, -, -, hr⟩ := own_rdk (by omega) hown
  subst hm hv
  exact ⟨A8, c8, he, hr, hb⟩
theorem St.find (h : St w W bm S M A q c) {x : Ent} (hx : some x ∈ S) : Calls Try.prog 20 #[.slice A q c, .string ⟨x.n.toArray⟩] W fun e w' => e = .returned (.tuple #[.int .i64 (x.i : Int), .bool true]) ∧ Below W.heap.size W w' := by
  have hl := name_len (h.dir.ok _ hx x rfl).name
  have := find_any _ A q c ⟨x.n.toArray⟩ W h.bytesLen h.rd h.cap.1 h.cap.2 (by rw [Lib.size_eq]; show x.n.toArray.toList.length ≤ _; simp; omega)
  rw [findE_some (dirP_dir h.dir)] at this
  have e : fnd S (⟨x.n.toArray⟩ : ByteArray).data.toList = some x.i := fnd_of h.dir.once hx
  rw [e] at this
  exact this
theorem not_names {S : List Slot} {n : List UInt8} (hd : Dir S) (hf : fnd S n = none) : n ∉ names S := fun hm => by
  obtain ⟨x, hx, rfl⟩ := mem_names.1 hm
  have := fnd_of hd.once hx
  rw [hf] at this
  cases this
theorem is_names {S : List Slot} {n : List UInt8} {k : Nat} (hf : fnd S n = some k) : n ∈ names S := by
  obtain ⟨x, hx, hn, _⟩ := fnd_some hf
  exact mem_names.2 ⟨x, hx, hn⟩
theorem St.remove_yes (h : St w W bm S M A q c) {s : ByteArray} {k : Nat} (hs : s.size ≤ 100) (hf : fnd S s.data.toList = some k) : Calls Try.prog 25 #[.slice A q c, .string s] W fun e w' => Given W (dirB hsh (del S s.data.toList)) ((del S s.data.toList).length * 16) e w' := by
  have hdd := dir_del h.dir s.data.toList
  have := remove_any _ A q c s W h.bytesLen h.rd h.cap.1 h.cap.2 (by omega)
  rw [rem_dir h.dir (is_names hf)] at this
  exact this.mono fun e w' h => hands_giv h (length_dirB hdd.ok)
theorem St.remove_no (h : St w W bm S M A q c) {s : ByteArray} (hs : s.size ≤ 100) (hf : fnd S s.data.toList = none) : Calls Try.prog 25 #[.slice A q c, .string s] W fun e w' => Refused W 2 e w' := by
  have := remove_any _ A q c s W h.bytesLen h.rd h.cap.1 h.cap.2 (by omega)
  rw [rem_not h.dir (not_names h.dir hf)] at this
  exact this.mono fun e w' h => hands_ref h
theorem St.add_yes (h : St w W bm S M A q c) {s : ByteArray} {i : Int} (hs : s.size ≤ 100) (hN : nameB s.data.toList = true) (h0 : 0 ≤ i) (h1 : i < 64) (hf : fnd S s.data.toList = none) (hl : S.length < 240) : Calls Try.prog 23 #[.slice A q c, .agg #[.string s, .int .i64 i]] W fun e w' => Given W (dirB hsh (Entry.put S ⟨s.data.toList, i.toNat⟩)) ((Entry.put S ⟨s.data.toList, i.toNat⟩).length * 16) e w' := by
  have hdd := dir_put h.dir (x := ⟨s.data.toList, i.toNat⟩) ⟨hN, show i.toNat < 64 by omega⟩ (not_names h.dir hf) (.inr hl)
  have := add_any _ A q c s i W h.bytesLen h.rd h.cap.1 h.cap.2 (by omega)
  have e := add_dir h.dir (n := s.data.toList) (i := i.toNat) ⟨hN, show i.toNat < 64 by omega⟩ (not_names h.dir hf) (by rw [Bool.or_eq_true]; exact .inr (decide_eq_true hl))
  rw [show ((i.toNat : Nat) : Int) = i by omega] at e
  rw [e] at this
  exact this.mono fun e w' h => hands_giv h (length_dirB hdd.ok)
theorem St.add_there (h : St w W bm S M A q c) {s : ByteArray} {i : Int} {k : Nat} (hs : s.size ≤ 100) (hN : nameB s.data.toList = true) (h0 : 0 ≤ i) (h1 : i < 64) (hf : fnd S s.data.toList = some k) : Calls Try.prog 23 #[.slice A q c, .agg #[.string s, .int .i64 i]] W fun e w' => Refused W 3 e w' := by
  have := add_any _ A q c s i W h.bytesLen h.rd h.cap.1 h.cap.2 (by omega)
  rw [addE_there (dirP_dir h.dir) hN ⟨h0, h1⟩ (isN_mem.2 (is_names hf))] at this
  exact this.mono fun e w' h => hands_ref h
theorem St.add_name (h : St w W bm S M A q c) {s : ByteArray} {i : Int} (hs : s.size ≤ 100) (hN : nameB s.data.toList = false) : Calls Try.prog 23 #[.slice A q c, .agg #[.string s, .int .i64 i]] W fun e w' => Refused W 120 e w' := by
  have := add_any _ A q c s i W h.bytesLen h.rd h.cap.1 h.cap.2 (by omega)
  rw [addE_lay (dirP_dir h.dir) (layE_name (H := hsh) (i := i) hN) (by decide)] at this
  exact this.mono fun e w' h => hands_ref h
theorem St.add_ino (h : St w W bm S M A q c) {s : ByteArray} {i : Int} (hs : s.size ≤ 100) (hN : nameB s.data.toList = true) (hi : ¬ (0 ≤ i ∧ i < 64)) : Calls Try.prog 23 #[.slice A q c, .agg #[.string s, .int .i64 i]] W fun e w' => Refused W 1 e w' := by
  have := add_any _ A q c s i W h.bytesLen h.rd h.cap.1 h.cap.2 (by omega)
  rw [addE_lay (dirP_dir h.dir) (layE_ino (H := hsh) hN hi) (by decide)] at this
  exact this.mono fun e w' h => hands_ref h
theorem fnd_valid {S : List Slot} {n : List UInt8} (hd : Dir S) (hN : nameB n = false) : fnd S n = none := fnd_none fun hm => by
  obtain ⟨x, hx, rfl⟩ := mem_names.1 hm
  rw [(hd.ok _ hx x rfl).name] at hN
  cases hN
theorem fnd_lt {S : List Slot} {n : List UInt8} {k : Nat} (hd : Dir S) (hf : fnd S n = some k) : k < 64 := by
  obtain ⟨x, hx, _, rfl⟩ := fnd_some hf
  exact (hd.ok _ hx x rfl).ino
theorem look_of (h : St w W bm S S A q c) {x : Ent} (hx : some x ∈ S) : (Instr.lookup 45 (.map (some bm)) (.string ⟨x.n.toArray⟩) true).run Try.prog W = .ok (.tuple #[.int .i64 (x.i : Int), .bool true]) W := by
  have hl := name_len (h.dir.ok _ hx x rfl).name
  have h2 := h.look (s := ⟨x.n.toArray⟩) (by unfold Sok; rw [Lib.size_eq]; show x.n.toArray.toList.length ≤ _; unfold maxLen; simp; omega)
  have e : fnd S (⟨x.n.toArray⟩ : ByteArray).data.toList = some x.i := fnd_of h.dir.once hx
  unfold atS thS at h2
  rw [e] at h2
  exact h2
theorem act_cells {w : World} {g : Nat} {a b d : Value} (h : Bk w g 48 [a, b, d]) : w.cell? ⟨g, 0, none⟩ = some a ∧ w.cell? ⟨g, 1, none⟩ = some b ∧ w.cell? ⟨g, 2, none⟩ = some d := ⟨h.cell 0, h.cell 1, h.cell 2⟩
end

set_option maxHeartbeats 800000 in
theorem acts_any (l : List Ac) (A : Option Addr) (n c : Nat) (w : World) (hn : l.length = n) (hc : n ≤ c) (_hm : c ≤ maxLen) (hr : Acts w w.heap.size A l) :
    Calls Try.prog 27 #[.slice A n c] w fun e w' => ∃ p, e = .returned (.slice A p c) ∧ p ≤ n ∧ p ≤ 60 ∧ (∀ (i : Nat) a, i < p → l[i]? = some a → a.s.size ≤ 100) ∧ w = w' := by
  have Hn := Lib.hid hn
  have Hr := Lib.hid hr

  clear hn hr
  go_enter Try.func27, Try.ntmps27
  go_wp2
  go_loopw [6] (fun z wr => ∃ j : Nat, z = .int .i64 (j : Int) ∧ j ≤ n ∧ j ≤ 60 ∧ Hid (∀ (i : Nat) a, i < j → l[i]? = some a → a.s.size ≤ 100) ∧ wr = w) (fun z _ => n - (intOf z).toNat)
  case atStart => exact ⟨0, rfl, Nat.zero_le _, by omega, Lib.hid (fun i a h => absurd h (Nat.not_lt_zero _)), rfl⟩
  case round =>
    obtain ⟨j, rfl, hj, hj60, HJ, rfl⟩ := hrel
    by_cases hlt : j < n
    · have hlti : (j : Int) < (n : Int) := by omega
      have hj0 : (0 : Int) ≤ (j : Int) := by omega
      have hjc : (j : Int) ≤ (c : Int) := by omega
      have hjw : IntKind.i64.wrap ((j : Int) + 1) = ((j + 1 : Nat) : Int) := by rw [IntKind.wrap_i64]; omega
      obtain ⟨a, ha⟩ : ∃ a, l[j]? = some a := ⟨_, List.getElem?_eq_getElem (by rw [Hn.out]; exact hlt)⟩
      obtain ⟨b, o, rfl, d0, d1, d2⟩ : ∃ b o, A = some ⟨b, o, none⟩ ∧ wr.cell? ⟨b, o + j * 3, none⟩ = some (.bool a.gone) ∧ wr.cell? ⟨b, o + j * 3 + 1, none⟩ = some (.string a.s) ∧ wr.cell? ⟨b, o + j * 3 + 2, none⟩ = some (.int .i64 a.i) := by
        rcases Hr.out with rfl | ⟨b, o, h1, _, h3⟩
        · simp at ha
        · exact ⟨b, o, h1, (h3 j a ha).2⟩
      by_cases h60 : j < 60
      · have h60i : ¬ (60 : Int) ≤ (j : Int) := by omega
        by_cases hs : a.s.size ≤ 100
        · have hsi : ¬ (100 : Int) < (a.s.size : Int) := by omega
          have HJ2 : Hid (∀ (i : Nat) a, i < j + 1 → l[i]? = some a → a.s.size ≤ 100) := Lib.hid fun i a' hi ha' => by
            by_cases e : i = j
            · subst e; rw [ha] at ha'; cases ha'; exact hs
            · exact HJ.out i a' (by omega) ha'
          clear ha
          go_wp2
          go_roundw
          case rel => exact ⟨j + 1, by first | rfl | (congr 1), hlt, h60, HJ2, trivial⟩
          case measure => simp [intOf]; omega
        · have hsi : (100 : Int) < (a.s.size : Int) := by omega
          clear ha hs
          go_wp2
          go_ret
          exact ⟨j, rfl, hj, hj60, HJ.out, rfl⟩
      · have h60i : (60 : Int) ≤ (j : Int) := by omega
        clear ha
        go_wp2
        go_ret
        exact ⟨j, rfl, hj, hj60, HJ.out, rfl⟩
    · obtain rfl : j = n := by omega
      go_wp2
      go_ret
      exact ⟨j, rfl, hj, hj60, HJ.out, rfl⟩
end Go.Proofs.Ytlopndnjkphdnaa
