/-
  EntryFull: whichever one is removed, a directory has room for as many entries as a file has bytes for, and a place that is free is filled again.
-/
import Derived.Test.YtlopndnjkphdnaaO
import Derived.Test.YtlopndnjkphdnaaEntryS
import Derived.Test.YtlopndnjkphdnaaEntryG
import Derived.BigQuiet
namespace Go.Proofs.Ytlopndnjkphdnaa
open Go.ChangeShapes Go.WideShapes Go.ChangeAt Go.RowKit Entry

set_option maxHeartbeats 800000 in
set_option maxRecDepth 100000 in
theorem names_any (i : Nat) (w : World) (h : i < 240) : Calls Try.prog 28 #[.int .i64 (i : Int)] w fun e w' => e = .returned (.string ⟨(nmF i).toArray⟩) ∧ Below w.heap.size w w' := by
  have q0 : (0 : Int) ≤ (i : Int) := by omega
  have q1 : (0 : Int) ≤ (i : Int) / 16 := by omega
  have q2 : (i : Int) / 16 < 16 := by omega
  have hb := alloc_below w (.cells #[.int .u8 (97 + (i : Int) / 16), .int .u8 (97 + (i : Int) % 16)] 5)
  have e1 : ((UInt8.ofNat (97 + i / 16)).toNat : Int) = 97 + (i : Int) / 16 := by simp; omega
  have e2 : ((UInt8.ofNat (97 + i % 16)).toNat : Int) = 97 + (i : Int) % 16 := by simp; omega
  have hk := Bk.new w 5 (bytesV [UInt8.ofNat (97 + i / 16), UInt8.ofNat (97 + i % 16)])
  have ec : (bytesV [UInt8.ofNat (97 + i / 16), UInt8.ofNat (97 + i % 16)]).toArray = #[.int .u8 (97 + (i : Int) / 16), .int .u8 (97 + (i : Int) % 16)] := by
    simp only [bytesV, List.map_cons, List.map_nil, byteV, e1, e2]
  have hrd := hk.rd 2 0
  rw [List.drop_zero, List.take_of_length_le (by simp [bytesV]), ec] at hrd
  have hs : (convert 24 9 (.slice (some ⟨w.heap.size, 0, none⟩) 2 2)).run Try.prog (w.alloc (.cells #[.int .u8 (97 + (i : Int) / 16), .int .u8 (97 + (i : Int) % 16)] 5)) = .ok (.string ⟨[UInt8.ofNat (97 + i / 16), UInt8.ofNat (97 + i % 16)].toArray⟩) (w.alloc (.cells #[.int .u8 (97 + (i : Int) / 16), .int .u8 (97 + (i : Int) % 16)] 5)) := str_of rfl hrd
  have HE : Hid ((⟨#[110, 97, 109, 101]⟩ : ByteArray) ++ ⟨[UInt8.ofNat (97 + i / 16), UInt8.ofNat (97 + i % 16)].toArray⟩ = ⟨(nmF i).toArray⟩) := Lib.hid (by apply ByteArray.ext; simp [nmF])
  clear e1 e2 hk ec hrd h
  generalize UInt8.ofNat (97 + i / 16) = y1 at *
  generalize UInt8.ofNat (97 + i % 16) = y2 at *
  go_enter Try.func28, Try.ntmps28
  go_wp2
  go_ret
  exact ⟨by rw [← HE.out]; rfl, hb⟩

set_option maxHeartbeats 3200000 in
set_option maxRecDepth 100000 in
theorem full_in (a k : Nat) (w : World) (ha : a < 256) (hk : k = a % 239) :
    Calls Try.prog 8 #[.int .u8 (a : Int)] w fun e w' => e = .returned (.bool true) ∧ Below w.heap.size w w' := by
  have hk9 : k < 239 := by omega
  have HADD : Hid (∀ (j : Nat) (A : Option Addr) (q c : Nat) (W : World), j < 240 → q = j * 16 → Rd W W.heap.size A (bytesV (dirB hsh (dirF j))) → q ≤ c → c ≤ maxLen → Calls Try.prog 23 #[.slice A q c, .agg #[.string ⟨(nmF j).toArray⟩, .int .i64 ((j : Int) % 64)]] W fun e w' => Hands W (dirB hsh (dirF (j + 1)), 0) e w') := Lib.hid fun j A q c W hj hq hr hc hm => by
    have h := add_any (dirB hsh (dirF j)) A q c ⟨(nmF j).toArray⟩ ((j : Int) % 64) W (by rw [hq]; exact len_dirF (by omega)) hr hc hm (by rw [Lib.size_eq]; simp [nmF])
    have e : addE hsh (dirB hsh (dirF j)) (⟨(nmF j).toArray⟩ : ByteArray).data.toList ((j : Int) % 64) = (dirB hsh (dirF (j + 1)), 0) := add_dirF hj
    rw [e] at h
    exact h
  have HFULL : Hid (∀ (A : Option Addr) (c : Nat) (W : World), Rd W W.heap.size A (bytesV (dirB hsh (dirF 240))) → 3840 ≤ c → c ≤ maxLen → Calls Try.prog 23 #[.slice A 3840 c, .agg #[.string ⟨#[109, 111, 114, 101]⟩, .int .i64 0]] W fun e w' => Hands W (([] : List UInt8), 5) e w') := Lib.hid fun A c W hr hc hm => by
    have h := add_any (dirB hsh (dirF 240)) A 3840 c ⟨#[109, 111, 114, 101]⟩ 0 W (len_dirF (Nat.le_refl 240)) hr hc hm (by decide)
    have e : addE hsh (dirB hsh (dirF 240)) (⟨#[109, 111, 114, 101]⟩ : ByteArray).data.toList 0 = (([] : List UInt8), 5) := full_dirF
    rw [e] at h
    exact h
  have HREM : Hid (∀ (A : Option Addr) (c : Nat) (W : World), Rd W W.heap.size A (bytesV (dirB hsh (dirF 240))) → 3840 ≤ c → c ≤ maxLen → Calls Try.prog 25 #[.slice A 3840 c, .string ⟨(nmF k).toArray⟩] W fun e w' => Hands W (dirB hsh ((dirF 240).set k none), 0) e w') := Lib.hid fun A c W hr hc hm => by
    have h := remove_any (dirB hsh (dirF 240)) A 3840 c ⟨(nmF k).toArray⟩ W (len_dirF (Nat.le_refl 240)) hr hc hm (by rw [Lib.size_eq]; simp [nmF])
    have e : remE hsh (dirB hsh (dirF 240)) (⟨(nmF k).toArray⟩ : ByteArray).data.toList = (dirB hsh ((dirF 240).set k none), 0) := rem_dirF hk9
    rw [e] at h
    exact h
  obtain ⟨l1, -, -⟩ := back_bytes hk9 none .none
  obtain ⟨l2, t1, t2⟩ := back_bytes hk9 (some ⟨more, 7⟩) (.some okM)
  have HBACK : Hid (∀ (A : Option Addr) (c : Nat) (W : World), Rd W W.heap.size A (bytesV (dirB hsh ((dirF 240).set k none))) → 3840 ≤ c → c ≤ maxLen → Calls Try.prog 23 #[.slice A 3840 c, .agg #[.string ⟨#[109, 111, 114, 101]⟩, .int .i64 7]] W fun e w' => Hands W (dirB hsh ((dirF 240).set k (some ⟨more, 7⟩)), 0) e w') := Lib.hid fun A c W hr hc hm => by
    have h := add_any (dirB hsh ((dirF 240).set k none)) A 3840 c ⟨#[109, 111, 114, 101]⟩ 7 W l1 hr hc hm (by decide)
    have e : addE hsh (dirB hsh ((dirF 240).set k none)) (⟨#[109, 111, 114, 101]⟩ : ByteArray).data.toList 7 = (dirB hsh ((dirF 240).set k (some ⟨more, 7⟩)), 0) := back_dirF hk9
    rw [e] at h
    exact h
  have HLB := Lib.hid (fun (j : Nat) (h : j ≤ 240) => len_dirF h)
  have HL1 : Hid ((dirB hsh ((dirF 240).set k none), 0).1.length = 3840) := Lib.hid l1
  have HL2 : Hid ((dirB hsh ((dirF 240).set k (some ⟨more, 7⟩)), 0).1.length = 3840) := Lib.hid l2
  have HT1 := Lib.hid t1
  have HT2 := Lib.hid t2
  have HLD := Lib.hid (len_dirF (Nat.le_refl 240))
  have hka : (a : Int) % 239 = (k : Int) := by omega
  have HNK := Lib.hid (fun W => names_any k W (by omega))
  clear l1 l2 t1 t2 hk
  generalize dirB hsh ((dirF 240).set k none) = lN at *
  generalize dirB hsh ((dirF 240).set k (some ⟨more, 7⟩)) = lM at *
  go_enter Try.func8, Try.ntmps8
  go_wp2_with (go_at_call 10; (with_reducible refine (shown_any _).mono ?_); rintro e w1 ⟨he, hb1⟩; obtain rfl := he; have HB1 := Lib.hid hb1; clear hb1)
  go_loopw [4, 19] (fun v z wr => ∃ (j q c : Nat) (A : Option Addr), z = .int .i64 (j : Int) ∧ v = .slice A q c ∧ Hid (q = j * 16) ∧ j ≤ 240 ∧ Hid (q ≤ c ∧ c ≤ maxLen) ∧ Rd wr wr.heap.size A (bytesV (dirB hsh (dirF j))) ∧ Below w.heap.size w wr) (fun _ z _ => 240 - (intOf z).toNat)
  case atStart => exact ⟨0, 0, 0, none, rfl, rfl, Lib.hid rfl, by omega, Lib.hid ⟨Nat.le_refl _, by decide⟩, .inl rfl, HB1.out⟩
  case round =>
    obtain ⟨j, q, c, A, rfl, rfl, HQ, hj, HC, hr, hb⟩ := hrel
    have HR := Lib.hid hr
    have HB := Lib.hid hb
    clear hr hb
    by_cases hlt : j < 240
    · have hlti : (j : Int) < 240 := by omega
      have hj0 : (0 : Int) ≤ (j : Int) := by omega
      have hjw : IntKind.i64.wrap ((j : Int) + 1) = ((j + 1 : Nat) : Int) := by rw [IntKind.wrap_i64]; omega
      have HNJ := Lib.hid (fun W => names_any j W hlt)
      have HLJ : Hid ((dirB hsh (dirF (j + 1)), 0).1.length = (j + 1) * 16) := Lib.hid (HLB.out (j + 1) (by omega))
      go_wp2_with (first
        | (go_at_call 28; (with_reducible refine (HNJ.out _).mono ?_); rintro e w2 ⟨he, hb2⟩; obtain rfl := he; have HB2 := Lib.hid (HB.out.trans (hb2.mono HB.out.size)); have HR2 := Lib.hid ((HR.out.below hb2).more hb2.size); clear hb2)
        | (go_at_call 23; (with_reducible refine (HADD.out j A q c _ hlt HQ.out HR2.out HC.out.1 HC.out.2).mono ?_); rintro e w3 hh; obtain ⟨A3, c3, he, hc3, hm3, hr3, hb3⟩ := hh.got HLJ.out; obtain rfl := he; have HB3 := Lib.hid (HB2.out.trans (hb3.mono HB2.out.size)); have HR3 := Lib.hid hr3; have HC3 := Lib.hid (And.intro hc3 hm3); clear hh hb3 hr3 hc3 hm3))
      go_roundw
      case rel => exact ⟨j + 1, (j + 1) * 16, c3, A3, by first | rfl | (congr 1), rfl, Lib.hid rfl, hlt, HC3, HR3.out, HB3.out⟩
      case measure => simp [intOf]; omega
    · obtain rfl : j = 240 := by omega
      obtain rfl : q = 3840 := by have := HQ.out; omega
      have hk0 : (0 : Int) ≤ (k : Int) := by omega
      go_wp2_with (first
        | (go_at_call 23; (with_reducible refine (HFULL.out A c _ HR.out HC.out.1 HC.out.2).mono ?_); rintro e w2 ⟨v2, he, -, hb2⟩; obtain rfl := he; have HB2 := Lib.hid (HB.out.trans (hb2.mono HB.out.size)); have HR2 := Lib.hid ((HR.out.below hb2).more hb2.size); clear hb2; simp only)
        | (go_at_call 28; (with_reducible refine (HNK.out _).mono ?_); rintro e w3 ⟨he, hb3⟩; obtain rfl := he; have HB3 := Lib.hid (HB2.out.trans (hb3.mono HB2.out.size)); have HR3 := Lib.hid ((HR2.out.below hb3).more hb3.size); clear hb3)
        | (go_at_call 25; (with_reducible refine (HREM.out A c _ HR3.out HC.out.1 HC.out.2).mono ?_); rintro e w4 hh; obtain ⟨A4, c4, he, hc4, hm4, hr4, hb4⟩ := hh.got HL1.out; obtain rfl := he; have HB4 := Lib.hid (HB3.out.trans (hb4.mono HB3.out.size)); have HR34 := Lib.hid ((HR3.out.below hb4).more hb4.size); have HR4 := Lib.hid hr4; have HC4 := Lib.hid (And.intro hc4 hm4); clear hh hb4 hr4 hc4 hm4)
        | (go_at_call 23; (with_reducible refine (HBACK.out A4 c4 _ HR4.out HC4.out.1 HC4.out.2).mono ?_); rintro e w5 hh; obtain ⟨A5, c5, he, hc5, hm5, hr5, hb5⟩ := hh.got HL2.out; obtain rfl := he; have HB5 := Lib.hid (HB4.out.trans (hb5.mono HB4.out.size)); have HR35 := Lib.hid ((HR34.out.below hb5).more hb5.size); have HR5 := Lib.hid (show Rd w5 w5.heap.size A5 (bytesV lM) from hr5); have HC5 := Lib.hid (And.intro hc5 hm5); clear hh hb5 hr5 hc5 hm5))
      obtain ⟨b1, o1, rfl, -⟩ := rd_at HR35.out (bytesV_ne HLD.out (by omega))
      obtain ⟨b5, o5, rfl, -⟩ := rd_at HR5.out (bytesV_ne (show lM.length = 3840 from HL2.out) (by omega))
      generalize dirB hsh (dirF 240) = lB at *
      have e1 : ∀ n, (convert 24 9 (.slice (some ⟨b1, o1, none⟩) (k * 16) c)).run Try.prog (w5.drewN n) = .ok (.string ⟨(lB.take (k * 16)).toArray⟩) (w5.drewN n) := fun n => str_of (by rw [List.length_take, HLD.out]; omega) (by rw [bytesV_take]; exact (HR35.out.take _).drewN n)
      have e2 : ∀ n, (convert 24 9 (.slice (some ⟨b5, o5, none⟩) (k * 16) c5)).run Try.prog (w5.drewN n) = .ok (.string ⟨(lB.take (k * 16)).toArray⟩) (w5.drewN n) := fun n => str_of (by rw [List.length_take, HLD.out]; omega) (by rw [← HT1.out, bytesV_take]; exact (HR5.out.take _).drewN n)
      have E3 : ∀ off, off = k * 16 + 16 → ∀ n, (convert 24 9 (.slice (some ⟨b1, o1 + off, none⟩) (3840 - off) (c - off))).run Try.prog (w5.drewN n) = .ok (.string ⟨(lB.drop (k * 16 + 16)).toArray⟩) (w5.drewN n) := fun off ho n => by
        subst ho
        have h := rd_part (HR35.out.drewN n) (k * 16 + 16) (3840 - (k * 16 + 16))
        rw [List.take_of_length_le (by rw [List.length_drop, HLD.out]; omega)] at h
        exact str_of (by rw [List.length_drop, HLD.out]) h
      have E4 : ∀ off, off = k * 16 + 16 → ∀ n, (convert 24 9 (.slice (some ⟨b5, o5 + off, none⟩) (3840 - off) (c5 - off))).run Try.prog (w5.drewN n) = .ok (.string ⟨(lB.drop (k * 16 + 16)).toArray⟩) (w5.drewN n) := fun off ho n => by
        subst ho
        have h := rd_part (HR5.out.drewN n) (k * 16 + 16) (3840 - (k * 16 + 16))
        rw [List.take_of_length_le (by rw [List.length_drop, show lM.length = 3840 from HL2.out]; omega), HT2.out] at h
        exact str_of (by rw [List.length_drop, HLD.out]) h
      have e3 := E3 ((k + 1) * 16) (by omega)
      have e4 := E4 ((k + 1) * 16) (by omega)
      have e5 := E3 (((k : Int) + 1) * 16).toNat (by omega)
      have e6 := E4 (((k : Int) + 1) * 16).toNat (by omega)
      have e7 := E3 (k * 16 + 16) (by omega)
      have e8 := E4 (k * 16 + 16) (by omega)
      clear E3 E4
      have g1 : IntKind.i64.wrap ((k : Int) * 16) = (k : Int) * 16 := by rw [IntKind.wrap_i64]; omega
      have g2 : IntKind.i64.wrap ((k : Int) + 1) = (k : Int) + 1 := by rw [IntKind.wrap_i64]; omega
      have g3 : IntKind.i64.wrap (((k : Int) + 1) * 16) = ((k : Int) + 1) * 16 := by rw [IntKind.wrap_i64]; omega
      have g4 : (0 : Int) ≤ (k : Int) * 16 := by omega
      have g5 : (k : Int) * 16 ≤ (c : Int) := by have := HC.out.1; omega
      have g6 : (k : Int) * 16 ≤ (c5 : Int) := by have := HC5.out.1; omega
      have g7 : (0 : Int) ≤ ((k : Int) + 1) * 16 := by omega
      have g8 : ((k : Int) + 1) * 16 ≤ 3840 := by omega
      have g9 : (3840 : Int) ≤ (c : Int) := by have := HC.out.1; omega
      have g10 : (3840 : Int) ≤ (c5 : Int) := by have := HC5.out.1; omega
      have t1 : ((k : Int) * 16).toNat = k * 16 := by omega
      have n3 : ¬ c = (k + 1) * 16 := by have := HC.out.1; omega
      have n4 : ¬ c5 = (k + 1) * 16 := by have := HC5.out.1; omega
      have n5 : ¬ c = (((k : Int) + 1) * 16).toNat := by have := HC.out.1; omega
      have n6 : ¬ c5 = (((k : Int) + 1) * 16).toNat := by have := HC5.out.1; omega
      have n1 : ¬ c = k * 16 + 16 := by have := HC.out.1; omega
      have n2 : ¬ c5 = k * 16 + 16 := by have := HC5.out.1; omega
      go_quiet (fail)
      go_wp2
      go_ret
      exact ⟨rfl, below_drewN HB5.out _⟩
theorem full_walk (a : Int) (w : World) (h0 : 0 ≤ a) (h1 : a < 256) : Calls Try.prog 8 #[.int .u8 a] w fun e w' => e = .returned (.bool true) ∧ Below w.heap.size w w' := by
  obtain ⟨n, rfl⟩ := Int.eq_ofNat_of_zero_le h0
  exact full_in n (n % 239) w (by omega) rfl

theorem full_contract (H : Type) (enc : TypeId × Value → H) (W : World) (base : Nat) (args : Array Value) (ds gs : List (DataW H)) (before : List MemPlace)
    (hval : ∀ (j : Nat) t v, Try.f8.params[j]? = some t → args[j]? = some v → Value.okWide Try.prog W .any base t v)
    (hW : DataW.Whole enc Try.prog Try.f8.params.toList Rows.entryFullSpec.vars false W args.toList ds gs before) :
    Calls Try.prog 8 args W fun e W' => ∃ v, e = .returned v ∧ Rows.entryFullSpec.post enc Try.prog Try.f8 false true false false W args v W' := by
  have hW' := hW
  have hlt : ∀ x ∈ before, x.block < W.heap.size := fun x hx => hW.lt x hx
  obtain ⟨p, q, hA0, hV, rfl, _, _⟩ := hW
  have hA : DataW.TrodAll enc Try.prog W 0 (fun _ => true) true Try.f8.params.toList args.toList ds p := hA0
  rw [Try.params8] at hA hval
  obtain ⟨v0, vs0, d0, ds0, p0, q0, hargs, rfl, rfl, h0, r0⟩ := trodAll_cons hA
  obtain ⟨rfl, rfl, rfl⟩ := trodAll_nil r0
  obtain rfl : args = #[v0] := by cases args; simp_all
  obtain ⟨rfl, rfl⟩ := trodVars_none hV
  clear hA0
  obtain ⟨a0, rfl, rfl, rfl, wa0⟩ := open_int Try.underlying5 (hval 0 5 v0 rfl rfl) h0
  have bd0 := bounds_u8 wa0
  refine (full_walk a0 W (by omega) (by omega)).mono fun e W' ⟨he, hb⟩ => ?_
  subst he
  exact ⟨_, rfl, law_post laid (by kernel_rfl) Try.underlying4 (by rw [Try.params8]; decide +kernel) rfl hW' ⟨rfl, rfl, rfl⟩ hb⟩

set_option maxRecDepth 100000 in
theorem full_lifted (os : Os) (started : os.Started) (H : Type) (enc : TypeId × Value → H) :
    ReturnsInHanded {} Try.checked os 8 .any (Rows.entryFullSpec.pre6 enc Try.prog Try.f8 Rows.entryFullRow.domain false) (Rows.entryFullSpec.post enc Try.prog Try.f8 false true false false) := by
  refine returnsInHanded_of_change (C := Try.checked) own started (by kernel_rfl) Try.func8
    (ChangeSpec.witness6 (enc := enc) (C := Try.checked) false ⟨#[], #[.int .u8 0], []⟩ 8 (by kernel_rfl) (by kernel_rfl) (by kernel_rfl) (by kernel_rfl)) ?_
  intro W base args ds gs before hval hW _ _
  exact full_contract H enc W base args ds gs before hval hW

/-- EntryFull is true for every input. -/
theorem full_holds : Rows.EntryFullSaid :=
  OpenClaim.holds_of_wide 8 Try.f8 rfl rfl rfl rfl rfl rfl rfl ⟨rfl, rfl, rfl, rfl, rfl⟩ rfl rfl rfl rfl rfl (by kernel_rfl) Try.func8 (by kernel_rfl)
    (of_decide_eq_true (by kernel_rfl)) (by unfold Func.isWrapper; first | (rw [if_pos (by decide +kernel)]; kernel_rfl) | (rw [if_neg (by decide +kernel)]; exact ⟨rfl, rfl⟩))
    (fun os started H enc _ => full_lifted os started H enc)
end Go.Proofs.Ytlopndnjkphdnaa
