import Derived.Test.YtmehhgfbnfbnaaaGreatQF
import Derived.Test.YtmehhgfbnfbnaaaGreatQTk
import Derived.Laws.StructEq
import Derived.Lib.Hide
import Derived.Deep.QuietTactic
import Derived.ChangeKeysEq
import Derived.Deep.RegionWith
import Derived.Deep.RegionHeld3
import Derived.Laws.CopyOwn
set_option maxRecDepth 100000
set_option maxHeartbeats 25600000
open Go.RowKit.Below renaming setCell->qaa,alloc->qab,refl->qae
open Int renaming toNat_of_nonneg->qac,natCast_nonneg->qao
open Go renaming World->qad,Calls->qah,Value->qai
open Go.RowKit renaming Below->qaf
open List renaming getElem?_eq_getElem->qag,getElem?_eq_some_iff->qal,getElem?_take->qan,mem_map->qap,length_drop->qas,map_cons->qaw
open UInt8 renaming ofNat->qaj
open Classical renaming propDecidable->qak
open Go.Op renaming eqFields->qam,equalIn->qaq,eqItems->qar
open Nat renaming zero_le->qat,le_refl->qau
open List.cons renaming injEq->qav
open Go.Region renaming wanted->qax
namespace Go.Proofs.YtmehhgfbnfbnaaaGreat
theorem zp0{P:Prop}(h:P:=by
 clear q0 q1 q2 q3 q4
 go_loop [3] (fun i=>∃j:Nat,j<=8/\i=.int .i64 j/\Hid (([p0,p1,p2,p3,p4,p5,p6,p7].take j).all X5=true)) (fun i=>8-(intOf i).toNat)
 case atStart=>exact⟨0,qat _,rfl,χ rfl⟩
 case round=>
  obtain⟨j,hj,rfl,hall⟩:=hrel
  by_cases hlt:j<8
  ·obtain⟨x,hx⟩:∃x,[p0,p1,p2,p3,p4,p5,p6,p7][j]? =some x:=⟨_,qag (by simpa using hlt)⟩
   have c0:=HD.out j x hx
   have Hx:=χ hx
   have hs:=HS.out
   have hj0:(0:Int)<=(j:Int):=qao _
   have hj8:(j:Int)<8:=by omega
   clear hx
   cases hp:X5 x
   ·have Hp:=χ (OC Hx.out hp)
    have Hq:=χ hp
    clear hp
    go_wp2_with (go_at_call 229;(with_reducible refine(XV x _).mono ?_);rintro e w' ⟨he,hw'⟩;obtain rfl:=he;obtain rfl:=hw';rw[Hq.out])
    go_ret
    exact⟨by rw[HV.out,Hp.out];rfl,HB.out⟩
   ·have Hp:=χ (QO hall.out Hx.out hp)
    have Hq:=χ hp
    clear hp
    go_wp2_with (go_at_call 229;(with_reducible refine(XV x _).mono ?_);rintro e w' ⟨he,hw'⟩;obtain rfl:=he;obtain rfl:=hw';rw[Hq.out])
    go_round
    case rel=>exact⟨j+1,by omega,by go_num,Hp⟩
    case measure=>simp[intOf];omega
  ·obtain rfl:j=8:=by omega
   have e8:[p0,p1,p2,p3,p4,p5,p6,p7].all X5=true:=hall.out
   have c12:W.cell? ⟨w.heap.size,12,none⟩=some (.int .i64 p8):=h12.out
   have c13:W.cell? ⟨w.heap.size,13,none⟩=some (.int .i64 p9):=wM.out
   have XT:=χ (show b=(X5 p8&&X5 p9)by rw[HV.out,e8];rfl)
   have hs:=HS.out
   clear e8
   cases h8:X5 p8
   ·have H8:=χ h8
    clear h8
    go_wp2_with (go_at_call 229;(with_reducible refine(XV p8 _).mono ?_);rintro e w' ⟨he,hw'⟩;obtain rfl:=he;obtain rfl:=hw';rw[H8.out])
    go_ret
    exact⟨by rw[XT.out,H8.out];rfl,HB.out⟩
   ·have H8:=χ h8
    clear h8
    go_wp2_with (first|(go_at_call 229;(with_reducible refine(XV p8 _).mono ?_);rintro e w' ⟨he,hw'⟩;obtain rfl:=he;obtain rfl:=hw';rw[H8.out])|(go_at_call 229;(with_reducible refine(XV p9 _).mono ?_);rintro e w' ⟨he,hw'⟩;obtain rfl:=he;obtain rfl:=hw'))
    go_ret
    exact⟨by rw[XT.out,H8.out];rfl,HB.out⟩):P:=h
theorem zp1{P:Prop}(h:P:=by
 have HL:=χ hl
 have HS:=χ hs
 clear hl hs hrow hr
 go_enter Tryz.func111,Tryz.ntmps111
 go_wp2_with (first|(go_at_call 181;(with_reducible refine(Cc.out _).mono ?_);rintro e w1 ⟨he,hb1⟩;obtain rfl:=he;obtain⟨hk1,hb1',hs1⟩:=Xb hb1;obtain⟨c0,c1,c2,c3,-⟩:=Y7 hk1;have HB1:=χ hb1';have Im:=χ (show Rd (w1.alloc (.cells #[p0,p1,p2,p3,p4,p5,p6,p7,p8,p9] 241)) (w1.heap.size+1) (some ⟨w1.heap.size,0,none⟩) (ZM [p0,p1,p2,p3,p4,p5,p6,p7,p8,p9])from Ti w1 [p0,p1,p2,p3,p4,p5,p6,p7,p8,p9]);clear hb1 hb1' hk1)|(go_at_call 182;(with_reducible refine(VX 65535 l _).mono ?_);rintro e w' ⟨he,hw'⟩;obtain rfl:=he;obtain rfl:=hw';rw[HL.out])|(go_at_call 182;(with_reducible refine(VX 3840 s _).mono ?_);rintro e w' ⟨he,hw'⟩;obtain rfl:=he;obtain rfl:=hw';rw[HS.out])|(go_at_call 183;(with_reducible refine(GD [p0,p1,p2,p3,p4,p5,p6,p7,p8,p9] _ 10 10 _ _ rfl Im.out (by omega)).mono ?_);rintro e w' ⟨he,hw'⟩;obtain rfl:=he;obtain rfl:=hw';rw[<-HV.out]))
 go_ret
 refine⟨rfl,?_⟩
 repeat(first|with_reducible exact HB1.out|with_reducible refine below_drewN ?_ _|with_reducible refine qaa ?_ ?_ _|with_reducible refine qab ?_ ?_ _)
 all_goals(first|omega|(simp<;>omega))):P:=h
theorem zp2{P:Prop}(h:P:=by
 have HL:=χ hl
 have HS:=χ hs
 clear hl hs hrow hr
 go_enter Tryz.func111,Tryz.ntmps111
 go_wp2_with (first|(go_at_call 181;(with_reducible refine(Cc.out _).mono ?_);rintro e w1 ⟨he,hb1⟩;obtain rfl:=he;obtain⟨hk1,hb1',hs1⟩:=Xb hb1;obtain⟨c0,c1,c2,c3,-⟩:=Y7 hk1;have HB1:=χ hb1';have Im:=χ (show Rd (w1.alloc (.cells #[p0,p1,p2,p3,p4,p5,p6,p7,p8,p9] 241)) (w1.heap.size+1) (some ⟨w1.heap.size,0,none⟩) (ZM [p0,p1,p2,p3,p4,p5,p6,p7,p8,p9])from Ti w1 [p0,p1,p2,p3,p4,p5,p6,p7,p8,p9]);clear hb1 hb1' hk1)|(go_at_call 182;(with_reducible refine(VX 65535 l _).mono ?_);rintro e w' ⟨he,hw'⟩;obtain rfl:=he;obtain rfl:=hw';rw[HL.out])|(go_at_call 182;(with_reducible refine(VX 3840 s _).mono ?_);rintro e w' ⟨he,hw'⟩;obtain rfl:=he;obtain rfl:=hw';rw[HS.out]))
 go_ret
 refine⟨by rw[HV.out];rfl,?_⟩
 repeat(first|with_reducible exact HB1.out|with_reducible refine below_drewN ?_ _|with_reducible refine qaa ?_ ?_ _|with_reducible refine qab ?_ ?_ _)
 all_goals(first|omega|(simp<;>omega))):P:=h
theorem zp3{P:Prop}(h:P:=by
 have HL:=χ hl
 clear hl hrow hr
 go_enter Tryz.func111,Tryz.ntmps111
 go_wp2_with (first|(go_at_call 181;(with_reducible refine(Cc.out _).mono ?_);rintro e w1 ⟨he,hb1⟩;obtain rfl:=he;obtain⟨hk1,hb1',hs1⟩:=Xb hb1;obtain⟨c0,c1,c2,c3,-⟩:=Y7 hk1;have HB1:=χ hb1';have Im:=χ (show Rd (w1.alloc (.cells #[p0,p1,p2,p3,p4,p5,p6,p7,p8,p9] 241)) (w1.heap.size+1) (some ⟨w1.heap.size,0,none⟩) (ZM [p0,p1,p2,p3,p4,p5,p6,p7,p8,p9])from Ti w1 [p0,p1,p2,p3,p4,p5,p6,p7,p8,p9]);clear hb1 hb1' hk1)|(go_at_call 182;(with_reducible refine(VX 65535 l _).mono ?_);rintro e w' ⟨he,hw'⟩;obtain rfl:=he;obtain rfl:=hw';rw[HL.out]))
 go_ret
 refine⟨by rw[HV.out];rfl,?_⟩
 repeat(first|with_reducible exact HB1.out|with_reducible refine below_drewN ?_ _|with_reducible refine qaa ?_ ?_ _|with_reducible refine qab ?_ ?_ _)
 all_goals(first|omega|(simp<;>omega))):P:=h
theorem zp4{P:Prop}(h:P:=by
 have q:decide ((r:Int)<16)=false:=decide_eq_false (by omega)
 clear hrow hr
 go_enter Tryz.func111,Tryz.ntmps111
 go_wp2_with (first|(go_at_call 181;(with_reducible refine(Cc.out _).mono ?_);rintro e w1 ⟨he,hb1⟩;obtain rfl:=he;obtain⟨hk1,hb1',hs1⟩:=Xb hb1;obtain⟨c0,c1,c2,c3,-⟩:=Y7 hk1;have HB1:=χ hb1';have Im:=χ (show Rd (w1.alloc (.cells #[p0,p1,p2,p3,p4,p5,p6,p7,p8,p9] 241)) (w1.heap.size+1) (some ⟨w1.heap.size,0,none⟩) (ZM [p0,p1,p2,p3,p4,p5,p6,p7,p8,p9])from Ti w1 [p0,p1,p2,p3,p4,p5,p6,p7,p8,p9]);clear hb1 hb1' hk1))
 go_ret
 refine⟨by rw[HV.out];rfl,?_⟩
 repeat(first|with_reducible exact HB1.out|with_reducible refine below_drewN ?_ _|with_reducible refine qaa ?_ ?_ _|with_reducible refine qab ?_ ?_ _)
 all_goals(first|omega|(simp<;>omega))):P:=h
theorem zp5{P:Prop}(h:P:=by
 have q0:decide ((r:Int)≥16)=false:=decide_eq_false (by omega)
 have q1:decide (l<0)=false:=decide_eq_false (by omega)
 have q2:decide (l>65535)=false:=decide_eq_false (by omega)
 have q3:decide (s<0)=false:=decide_eq_false (by omega)
 have q4:decide (s>3840)=true:=decide_eq_true h
 go_enter Tryz.func166,Tryz.ntmps166
 go_wp2
 go_ret
 ·refine⟨by rw[HV.out];rfl,?_⟩
  repeat(first|with_reducible exact qae _ _|with_reducible refine below_drewN ?_ _|with_reducible refine qaa ?_ ?_ _|with_reducible refine qab ?_ ?_ _)
  all_goals(first|omega|(simp<;>omega))):P:=h
theorem zp6{P:Prop}(h:P:=by
 have q0:decide ((r:Int)≥16)=false:=decide_eq_false (by omega)
 have q1:decide (l<0)=false:=decide_eq_false (by omega)
 have q2:decide (l>65535)=false:=decide_eq_false (by omega)
 have q3:decide (s<0)=true:=decide_eq_true h
 go_enter Tryz.func166,Tryz.ntmps166
 go_wp2
 go_ret
 ·refine⟨by rw[HV.out];rfl,?_⟩
  repeat(first|with_reducible exact qae _ _|with_reducible refine below_drewN ?_ _|with_reducible refine qaa ?_ ?_ _|with_reducible refine qab ?_ ?_ _)
  all_goals(first|omega|(simp<;>omega))):P:=h
theorem zp7{P:Prop}(h:P:=by
 have q0:decide ((r:Int)≥16)=false:=decide_eq_false (by omega)
 have q1:decide (l<0)=false:=decide_eq_false (by omega)
 have q2:decide (l>65535)=true:=decide_eq_true h
 go_enter Tryz.func166,Tryz.ntmps166
 go_wp2
 go_ret
 ·refine⟨by rw[HV.out];rfl,?_⟩
  repeat(first|with_reducible exact qae _ _|with_reducible refine below_drewN ?_ _|with_reducible refine qaa ?_ ?_ _|with_reducible refine qab ?_ ?_ _)
  all_goals(first|omega|(simp<;>omega))):P:=h
theorem zp8{P:Prop}(h:P:=by
 have q0:decide ((r:Int)≥16)=false:=decide_eq_false (by omega)
 have q1:decide (l<0)=true:=decide_eq_true h
 go_enter Tryz.func166,Tryz.ntmps166
 go_wp2
 go_ret
 ·refine⟨by rw[HV.out];rfl,?_⟩
  repeat(first|with_reducible exact qae _ _|with_reducible refine below_drewN ?_ _|with_reducible refine qaa ?_ ?_ _|with_reducible refine qab ?_ ?_ _)
  all_goals(first|omega|(simp<;>omega))):P:=h
theorem zp9{P:Prop}(h:P:=by
 have q0:decide ((r:Int)≥16)=true:=decide_eq_true (by omega)
 go_enter Tryz.func166,Tryz.ntmps166
 go_wp2
 go_ret
 ·refine⟨by rw[HV.out];rfl,?_⟩
  repeat(first|with_reducible exact qae _ _|with_reducible refine below_drewN ?_ _|with_reducible refine qaa ?_ ?_ _|with_reducible refine qab ?_ ?_ _)
  all_goals(first|omega|(simp<;>omega))):P:=h
theorem zp10{P:Prop}(h:P:=by
 go_enter Tryz.func166,Tryz.ntmps166
 go_wp2
 go_ret
 ·refine⟨by rw[HV.out];rfl,?_⟩
  repeat(first|with_reducible exact qae _ _|with_reducible refine below_drewN ?_ _|with_reducible refine qaa ?_ ?_ _|with_reducible refine qab ?_ ?_ _)
  all_goals(first|omega|(simp<;>omega))):P:=h
theorem zp11{P:Prop}(h:P:=by
 repeat(first|with_reducible exact qae _ _|with_reducible refine below_drewN ?_ _|with_reducible refine qaa ?_ ?_ _|with_reducible refine qab ?_ ?_ _)
 all_goals(first|omega|(simp<;>omega))):P:=h
theorem zp12{P:Prop}(h:P:=by
 have hb:=VT.out
 repeat(first|with_reducible exact hb|with_reducible refine below_drewN ?_ _|with_reducible refine qaa ?_ ?_ _|with_reducible refine qab ?_ ?_ _)
 all_goals(simp<;>omega)):P:=h
theorem zp13{P:Prop}(h:P:=by
 go_wp2
 go_ret
 exact⟨rfl,rfl⟩):P:=h
end Go.Proofs.YtmehhgfbnfbnaaaGreat
namespace Go.Proofs.YtmehhgfbnfbnaaaGreat.Z9
open Go.RowKit
section
variable {b:List UInt8}{w:qad}{B:Nat}{l:List Int}{p:Prop}
def ZM(l:List Int):List qai:=l.map (qai.int .i64)
theorem Zt(l:List Int):(ZM l).length=l.length:=by simp[ZM]
theorem JM(l m:List Int):ZM (l++m)=ZM l++ZM m:=by simp[ZM]
theorem PY(l:List Int)(j:Nat)(x:Int):(ZM l).set j (.int .i64 x)=ZM (l.set j x):=by simp[ZM,List.map_set]
theorem VI(l:List Int):∀u∈ZM l,u.oneCell'=true:=by
 intro u hu
 simp only[ZM,qap]at hu
 obtain⟨b,_,rfl⟩:=hu
 rfl
theorem BD{A:Option Addr}(h:Rd w B A (ZM l)):l=[]\/∃b o,A=some ⟨b,o,none⟩/\b<B/\∀(j:Nat)(x:Int),l[j]? =some x->w.cell? ⟨b,o+j,none⟩=some (.int .i64 x):=by
 rcases h with h|⟨b,o,h1,h2,h3⟩
 ·exact .inl (by simpa[ZM]using h)
 ·exact .inr ⟨b,o,h1,h2,fun j x hx=>h3 j _ (by simp[ZM,hx])⟩
theorem below_drewN{wr:qad}(h:qaf B w wr)(m:Nat):qaf B w (wr.drewN m):=⟨h.os,h.tape,h.output,h.size,h.block⟩
theorem YB{a:qad}(h:qaf B a w):qaf B a w.drew:=⟨h.os,h.tape,h.output,h.size,h.block⟩
theorem ZR(w:qad)(b:Obj):qaf w.heap.size w (w.alloc b):=(qae _ w).alloc (qau _) _
def OD(m x:Int):Bool:=decide (0<=x)&&decide (x<=m)
theorem UZ{m x:Int}:OD m x=true↔0<=x/\x<=m:=by simp[OD]
def X5(x:Int):Bool:=OD 512 x
structure ZC where
 k:Nat
 r:Nat
 l:Int
 s:Int
 p:List Int
theorem ZC.ext' {a b:ZC}(h1:a.k=b.k)(h2:a.r=b.r)(h3:a.l=b.l)(h4:a.s=b.s)(h5:a.p=b.p):a=b:=by
 cases a;cases b;simp_all
def ZC.z:ZC:=⟨0,0,0,0,[0,0,0,0,0,0,0,0,0,0]⟩
def ZX(n:ZC):List qai:=.int .u8 n.k:: .int .u8 n.r:: .int .i64 n.l:: .int .i64 n.s::ZM n.p
def Mg(n:ZC):qai:=.agg (ZX n).toArray
structure YP(n:ZC):Prop where
 len:n.p.length=10
 k:n.k<256
 r:n.r<256
theorem YP.z:YP .z:=⟨rfl,by decide,by decide⟩
theorem Y5{n:ZC}(h:YP n):(ZX n).length=14:=by simp[ZX,Zt,h.len]
structure Used(n:ZC):Prop where
 kind:n.k=1\/n.k=2
 row:n.r<16
 l0:0<=n.l
 l1:n.l<=65535
 s0:0<=n.s
 s1:n.s<=3840
 ptr:n.p.all X5=true
def Right(n:ZC):Prop:=n=.z\/Used n
noncomputable def Sj(p:Prop):Bool:=@decide p (qak p)
theorem VD(h:p):Sj p=true:=by unfold Sj;exact(@decide_eq_true_iff p (qak p)).2 h
theorem WO(h:¬ p):Sj p=false:=by unfold Sj;exact(@decide_eq_false_iff_not p (qak p)).2 h
noncomputable def ZP(n:ZC):Bool:=Sj (Right n)
theorem ZW{n:ZC}(h:Right n):ZP n=true:=VD h
theorem ZN{n:ZC}(h:¬ Right n):ZP n=false:=WO h
def words(n:ZC):List Nat:=n.l.toNat::n.s.toNat::n.p.map Int.toNat
theorem Wh{n:ZC}(h:Right n):∀x∈words n,x<65536:=by
 intro x hx
 rcases h with rfl|h
 ·simp[words,ZC.z]at hx
  omega
 ·have h1:=h.l1
  have h2:=h.s1
  simp only[words,List.mem_cons,qap]at hx
  rcases hx with hx|hx|⟨y,hy,hx⟩
  ·omega
  ·omega
  ·have:=List.all_eq_true.1 h.ptr y hy
   have:=(UZ.1 this).2
   omega
def Lj(n:ZC):List UInt8:=qaj n.k::qaj n.r::Y0 2 (words n)
def ZK(n:ZC):List UInt8:=Ya (Lj n) 32
theorem JL{n:ZC}(h:YP n):(Lj n).length=26:=by simp[Lj,ZA,words,h.len]
theorem YL{n:ZC}(h:YP n):(ZK n).length=32:=Xw _ _ (by rw[JL h];omega)
noncomputable def GR(n:ZC):List UInt8 × Nat:=if ZP n then(ZK n,0)else([],1)
theorem QP{n:ZC}(h:Right n):GR n=(ZK n,0):=by unfold GR;rw[ZW h];rfl
theorem BC{n:ZC}(h:¬ Right n):GR n=([],1):=by unfold GR;rw[ZN h];rfl
def ZI(l:List UInt8)(k:Nat):Nat:=le ((l.drop k).take 2)
theorem YK(l:List UInt8)(k:Nat):ZI l k<65536:=by
 have h:=BK ((l.drop k).take 2)
 have h2:((l.drop k).take 2).length<=2:=by simp;omega
 have h3:256^((l.drop k).take 2).length<=256^2:=Nat.pow_le_pow_right (by omega) h2
 unfold ZI
 omega
theorem U4(l:List UInt8):∀x∈Ze 2 l,x<65536:=by
 intro x hx
 simp only[Ze,qap,List.mem_range]at hx
 obtain⟨k,_,rfl⟩:=hx
 exact YK l (k*2)
def wN(b:List UInt8):ZC:=⟨(b.getD 0 0).toNat,(b.getD 1 0).toNat,(ZI b 2:Nat),(ZI b 4:Nat),
 [(ZI b 6:Nat),(ZI b 8:Nat),(ZI b 10:Nat),(ZI b 12:Nat),(ZI b 14:Nat),(ZI b 16:Nat),(ZI b 18:Nat),(ZI b 20:Nat),(ZI b 22:Nat),(ZI b 24:Nat)]⟩
theorem mF(b:List UInt8):YP (wN b):=⟨rfl,UInt8.toNat_lt _,UInt8.toNat_lt _⟩
theorem mE(b:List UInt8)(h:b.length=32):Ze 2 (b.drop 2)=[ZI b 2,ZI b 4,ZI b 6,ZI b 8,ZI b 10,ZI b 12,ZI b 14,ZI b 16,ZI b 18,ZI b 20,ZI b 22,ZI b 24,ZI b 26,ZI b 28,ZI b 30]:=by
 have hl:(b.drop 2).length=30:=by simp[h]
 unfold Ze
 rw[hl]
 simp[ZI,List.drop_drop,List.range_succ]
noncomputable def Xk(b:List UInt8):ZC × Nat:=
 if b.length=32 then if ZP (wN b)then if ZK (wN b)=b then(wN b,0)else(.z,110)else(.z,110)else(.z,110)
theorem sZ(h:b.length≠32):Xk b=(.z,110):=by unfold Xk;rw[if_neg h]
theorem sW(h:¬ Right (wN b)):Xk b=(.z,110):=by unfold Xk;rw[ZN h];split<;>rfl
theorem sV(h:ZK (wN b)≠b):Xk b=(.z,110):=by unfold Xk;rw[if_neg h,ite_self,ite_self]
theorem GQ(h:b.length=32)(hR:Right (wN b))(hb:ZK (wN b)=b):Xk b=(wN b,0):=by unfold Xk;rw[if_pos h,ZW hR,if_pos hb];rfl
def ptrs(b:List UInt8):List Int:=(Ze 2 b).map fun(n:Nat)=>(n:Int)
theorem GN(b:List UInt8):(ptrs b).length=b.length/2:=by simp[ptrs,XX]
theorem RH(l:List UInt8)(m:Nat)(h:l.length=(m+1)*2):Ze 2 l=le (l.take 2)::Ze 2 (l.drop 2):=by
 have e1:l.length/2=m+1:=by omega
 have e2:(l.drop 2).length/2=m:=by rw[qas];omega
 unfold Ze
 rw[e1,e2,List.range_succ_eq_map,qaw,List.map_map]
 congr 1
 apply List.map_congr_left
 intro k _
 show le ((l.drop ((k+1)*2)).take 2)=_
 rw[List.drop_drop]
 congr 3
 omega
theorem NM(m:Nat):∀l:List UInt8,l.length=m*2->Y0 2 (Ze 2 l)=l:=by
 induction m with
 |zero=>
  intro l h
  obtain rfl:l=[]:=List.eq_nil_of_length_eq_zero (by omega)
  rfl
 |succ m ih=>
  intro l h
  rw[RH l m h]
  show YE (le (l.take 2)) 2++Y0 2 (Ze 2 (l.drop 2))=l
  have h2:(l.take 2).length=2:=by rw[List.length_take];omega
  have:=BI (l.take 2)
  rw[h2]at this
  rw[this,ih _ (by rw[qas];omega),List.take_append_drop]
theorem yP(h:∀x∈l,0<=x/\x<65536):∀x∈l.map Int.toNat,x<65536:=fun x hx=>by
 simp only[qap]at hx
 obtain⟨y,hy,rfl⟩:=hx
 have:=h y hy
 omega
theorem aaw{L:List Nat}(h:∀x∈L,x<65536):∀x∈L,WB x 2=true:=fun x hx=>by
 have:=h x hx
 simp only[WB,decide_eq_true_eq]
 omega
theorem fO(k r:UInt8)(L:List Nat)(T:List UInt8)(hL:∀x∈L,x<65536)(i x:Nat)(h:L[i]? =some x):ZI (k::r::(Y0 2 L++T)) (2+i*2)=x:=by
 obtain⟨hi,rfl⟩:=qal.1 h
 have h1:i<(Y0 2 L).length/2:=by rw[ZA];omega
 have h2:=Vy 2 (Y0 2 L) i h1
 rw[NP 2 (by omega) _ (aaw hL),qag hi]at h2
 have h3:le (((Y0 2 L).drop (i*2)).take 2)=L[i]:=by simpa using h2.symm
 unfold ZI
 have e:(k::r::(Y0 2 L++T)).drop (2+i*2)=(Y0 2 L++T).drop (i*2):=by rw[Nat.add_comm];rfl
 rw[e,List.drop_append_of_le_length (by rw[ZA];omega),List.take_append_of_le_length (by rw[qas,ZA];omega),h3]
theorem Xh{α:Type}{l:List α}(h:l.length=10):∃a b c d e f g i j k,l=[a,b,c,d,e,f,g,i,j,k]:=by
 match l,h with
 |[a,b,c,d,e,f,g,i,j,k],_=>exact⟨a,b,c,d,e,f,g,i,j,k,rfl⟩
theorem Li{n:ZC}(h:Right n):0<=n.l/\0<=n.s/\∀x∈n.p,0<=x:=by
 rcases h with rfl|h
 ·simp[ZC.z]
 ·exact⟨h.l0,h.s0,fun x hx=>(UZ.1 (List.all_eq_true.1 h.ptr x hx)).1⟩
theorem sU{n:ZC}(h:Right n)(ho:YP n):wN (ZK n)=n:=by
 have hs:=Wh h
 obtain⟨h0,h1,h2⟩:=Li h
 have hk:=ho.k
 have hr:=ho.r
 have hb:ZK n=qaj n.k::qaj n.r::(Y0 2 (words n)++List.replicate (32-(Lj n).length) 0):=by
  simp[ZK,Ya,Lj]
 have at_:=fO (qaj n.k) (qaj n.r) (words n) (List.replicate (32-(Lj n).length) 0) hs
 rw[<-hb]at at_
 obtain⟨p0,p1,p2,p3,p4,p5,p6,p7,p8,p9,hp⟩:=Xh ho.len
 rw[hp]at h2
 simp only[List.mem_cons,List.not_mem_nil,or_false,forall_eq_or_imp,forall_eq]at h2
 have e0:(ZK n).getD 0 0=qaj n.k:=by rw[hb];rfl
 have e1:(ZK n).getD 1 0=qaj n.r:=by rw[hb];rfl
 have w0:=at_ 0 _ (by unfold words;rfl)
 have w1:=at_ 1 _ (by unfold words;rfl)
 have q:=fun i x (h:(words n)[i+2]? =some x)=>at_ (i+2) x h
 unfold words at q
 rw[hp]at q
 simp only[qaw,List.map_nil,List.getElem?_cons_succ]at q
 have q0:=q 0 _ rfl
 have q1:=q 1 _ rfl
 have q2:=q 2 _ rfl
 have q3:=q 3 _ rfl
 have q4:=q 4 _ rfl
 have q5:=q 5 _ rfl
 have q6:=q 6 _ rfl
 have q7:=q 7 _ rfl
 have q8:=q 8 _ rfl
 have q9:=q 9 _ rfl
 simp only[Nat.reduceAdd,Nat.reduceMul]at w0 w1 q0 q1 q2 q3 q4 q5 q6 q7 q8 q9
 refine ZC.ext' ?_ ?_ ?_ ?_ ?_
 ·show((ZK n).getD 0 0).toNat=n.k
  rw[e0];simp;omega
 ·show((ZK n).getD 1 0).toNat=n.r
  rw[e1];simp;omega
 ·show((ZI (ZK n) 2:Nat):Int)=n.l
  rw[w0];exact qac h0
 ·show((ZI (ZK n) 4:Nat):Int)=n.s
  rw[w1];exact qac h1
 ·rw[hp]
  unfold wN
  simp only[q0,q1,q2,q3,q4,q5,q6,q7,q8,q9,qav,and_true]
  obtain⟨z0,z1,z2,z3,z4,z5,z6,z7,z8,z9⟩:=h2
  exact⟨qac z0,qac z1,qac z2,qac z3,qac z4,qac z5,qac z6,qac z7,qac z8,qac z9⟩
theorem J8{n:ZC}(h:Right n)(ho:YP n):Xk (ZK n)=(n,0):=by
 have e:=sU h ho
 have:=GQ (b:=ZK n) (YL ho) (by rw[e];exact h) (by rw[e])
 rw[this,e]
end
end Go.Proofs.YtmehhgfbnfbnaaaGreat.Z9

namespace Go.Proofs.YtmehhgfbnfbnaaaGreat.Z9
open Go.RowKit
section
variable {l:List Int}{k:Nat}{x:Int}
theorem VX(m x:Int)(w:qad):qah Tryz.prog 182 #[m,x] w fun e w'=>e=.returned (.bool (OD m x))/\w=w':=by
 unfold OD
 by_cases h1:0<=x
 ·rw[decide_eq_true h1,Bool.true_and]
  go_enter Tryz.func182,Tryz.ntmps182
  exact zp13
 ·rw[decide_eq_false h1,Bool.false_and]
  go_enter Tryz.func182,Tryz.ntmps182
  exact zp13
theorem XV(x:Int)(w:qad):qah Tryz.prog 229 #[x] w fun e w'=>e=.returned (.bool (X5 x))/\w=w':=by
 unfold X5 OD
 by_cases h1:0<=x
 ·rw[decide_eq_true h1,Bool.true_and]
  go_enter Tryz.func229,Tryz.ntmps229
  exact zp13
 ·rw[decide_eq_false h1,Bool.false_and]
  go_enter Tryz.func229,Tryz.ntmps229
  exact zp13
theorem QO(h:(l.take k).all X5=true)(hx:l[k]? =some x)(hp:X5 x=true):(l.take (k+1)).all X5=true:=by
 obtain⟨hk,rfl⟩:=qal.1 hx
 rw[List.take_succ_eq_append_getElem hk,List.all_append,h]
 simp[hp]
theorem OC(hx:l[k]? =some x)(hp:X5 x=false):l.all X5=false:=by
 rw[List.all_eq_false]
 exact⟨x,List.mem_of_getElem? hx,by simp[hp]⟩
theorem GD(l:List Int)(A:Option Addr)(n c B:Nat)(w:qad)(hn:l.length=n)(hr:Rd w B A (ZM l))(hm:n<=9223372036854775807):
  qah Tryz.prog 183 #[.slice A n c] w fun e w'=>e=.returned (.bool (l.all X5))/\w=w':=by
 rcases BD hr with h|⟨b,o,rfl,_,hcc⟩
 ·subst h
  obtain rfl:n=0:=hn.symm
  clear hr hn
  go_enter Tryz.func183,Tryz.ntmps183
  go_wp2
  go_loop [7] (fun i=>i=.int .i64 0) (fun _=>0)
  case atStart=>exact rfl
  case round=>
   obtain rfl:=hrel
   exact zp13
 have Hn:=χ hn
 have Hc:=χ hcc
 clear hn hr hcc
 go_enter Tryz.func183,Tryz.ntmps183
 go_wp2
 go_loop [7] (fun i=>∃k:Nat,k<=n/\i=.int .i64 k/\Hid ((l.take k).all X5=true)) (fun i=>n-(intOf i).toNat)
 case atStart=>exact⟨0,qat _,rfl,χ (by simp)⟩
 case round=>
  obtain⟨k,hk,rfl,hall⟩:=hrel
  by_cases hlt:k<n
  ·have h1:k<l.length:=by rw[Hn.out];exact hlt
   obtain⟨x,hx⟩:∃x,l[k]? =some x:=⟨_,qag h1⟩
   have c0:=Hc.out k x hx
   have Hx:=χ hx
   clear hx h1
   cases hp:X5 x
   ·have Hp:=χ (OC Hx.out hp)
    have Hq:=χ (show OD 512 x=false from hp)
    clear hp
    go_wp2_with (go_at_call 182;(with_reducible refine(VX 512 x _).mono ?_);rintro e w' ⟨he,hw'⟩;obtain rfl:=he;obtain rfl:=hw';rw[Hq.out])
    go_ret
    exact⟨by rw[Hp.out];rfl,rfl⟩
   ·have Hp:=χ (QO hall.out Hx.out hp)
    have Hq:=χ (show OD 512 x=true from hp)
    clear hp
    go_wp2_with (go_at_call 182;(with_reducible refine(VX 512 x _).mono ?_);rintro e w' ⟨he,hw'⟩;obtain rfl:=he;obtain rfl:=hw';rw[Hq.out])
    go_round
    case rel=>exact⟨k+1,by omega,by go_num,Hp⟩
    case measure=>simp[intOf];omega
  ·obtain rfl:k=n:=by omega
   have e:l.all X5=true:=by
    have:=hall.out
    rwa[List.take_of_length_le (by rw[Hn.out];exact qau _)]at this
   have E:=χ e
   clear e
   go_wp2
   go_ret
   exact⟨by rw[E.out];rfl,rfl⟩
end
end Go.Proofs.YtmehhgfbnfbnaaaGreat.Z9

namespace Go.Proofs.YtmehhgfbnfbnaaaGreat.Z9
open Go.RowKit
section
variable (W:qad)
section
variable {d:Nat}{xs ys:Array qai}{a b:qai}{r t:Bool}
theorem Xu{f:Field}{fs:List Field}(hn:f.name≠"_")(ha:(part f.type xs f.offset).run Tryz.prog W=.ok a W)(hb:(part f.type ys f.offset).run Tryz.prog W=.ok b W)(he:(qaq d f.type a b).run Tryz.prog W=.ok r W)(hr:(qam d xs ys fs).run Tryz.prog W=.ok t W):(qam d xs ys (f::fs)).run Tryz.prog W=.ok (r&&t) W:=by
 simp only[qam,hn,ne_eq,not_false_eq_true,if_true]
 cases r<;>simp[ha,hb,he,hr]
theorem Xt{c i:Nat}{e:TypeId}{is:List Nat}(ha:(part e xs (i*c)).run Tryz.prog W=.ok a W)(hb:(part e ys (i*c)).run Tryz.prog W=.ok b W)(he:(qaq d e a b).run Tryz.prog W=.ok r W)(hr:(qar d e c xs ys is).run Tryz.prog W=.ok t W):(qar d e c xs ys (i::is)).run Tryz.prog W=.ok (r&&t) W:=by
 simp only[qar]
 cases r<;>simp[ha,hb,he,hr]
theorem OB(xs:Array qai)(k:Nat)(x:Int)(h:xs[k]? =some (.int .u8 x)):(part 5 xs k).run Tryz.prog W=.ok (.int .u8 x) W:=by
 unfold part
 simp[h,go_sem]
theorem Zf(xs:Array qai)(k:Nat)(x:Int)(h:xs[k]? =some (.int .i64 x)):(part 3 xs k).run Tryz.prog W=.ok (.int .i64 x) W:=by
 unfold part
 simp[h,go_sem]
theorem Gz(xs:Array qai)(k:Nat)(ys:Array qai)(h:xs.extract k (k+8)=ys):(part 38 xs k).run Tryz.prog W=.ok (.agg ys) W:=by
 unfold part
 simp[h,go_sem]
theorem JG:Tryz.prog.underlying 40=some (.struct (Tryz.prog.fieldsOf 40)):=by kernel_rfl
theorem mg:Tryz.prog.eqGuardType Tryz.prog.depth 40=false:=by kernel_rfl
theorem RG(x y:Operand)(xs ys:Array qai)(op:BinOp):(eqGuard op 40 x y (.agg xs) (.agg ys)).run Tryz.prog W=.ok () W:=run_eqGuard_agg W op 40 x y xs ys mg
theorem sG{α:Type}{l:List α}(h:l.length=7):∃a b c d e f g,l=[a,b,c,d,e,f,g]:=by
 match l,h with
 |[a,b,c,d,e,f,g],_=>exact⟨a,b,c,d,e,f,g,rfl⟩
theorem yM(d e c:Nat)(xs ys:Array qai):(qar d e c xs ys []).run Tryz.prog W=.ok true W:=by simp[qar]
theorem D9(d:Nat)(xs ys:Array qai):(qam d xs ys []).run Tryz.prog W=.ok true W:=by simp[qam]
theorem cells3:Tryz.prog.cellsOf 3=1:=by kernel_rfl
theorem wL(d:Nat)(x y:Int):(qaq (d+1) 3 (.int .i64 x) (.int .i64 y)).run Tryz.prog W=.ok (x==y) W:=run_equalIn_int W d 3 .i64 .i64 x y Tryz.underlying3
theorem eq5(d:Nat)(x y:Int):(qaq (d+1) 5 (.int .u8 x) (.int .u8 y)).run Tryz.prog W=.ok (x==y) W:=run_equalIn_int W d 5 .u8 .u8 x y Tryz.underlying5
theorem sF:∃i,Tryz.prog.info? 3=some i:=Option.isSome_iff_exists.1 (by kernel_rfl)
theorem fK(d:Nat)(a0 a1 a2 a3 a4 a5 a6 a7 b0 b1 b2 b3 b4 b5 b6 b7:Int):
  (qaq (d+2) 38 (.agg #[a0,a1,a2,a3,a4,a5,a6,a7]) (.agg #[b0,b1,b2,b3,b4,b5,b6,b7])).run Tryz.prog W=
   .ok (a0==b0&&(a1==b1&&(a2==b2&&(a3==b3&&(a4==b4&&(a5==b5&&(a6==b6&&(a7==b7&&true)))))))) W:=by
 obtain⟨i,hi⟩:=sF
 rw[run_equalIn_array W (d+1) _ _ Tryz.underlying38 hi,cells3]
 have e:List.range 8=[0,1,2,3,4,5,6,7]:=rfl
 rw[e]
 refine Xt W (Zf W _ _ a0 rfl) (Zf W _ _ b0 rfl) (wL W d _ _) ?_
 refine Xt W (Zf W _ _ a1 rfl) (Zf W _ _ b1 rfl) (wL W d _ _) ?_
 refine Xt W (Zf W _ _ a2 rfl) (Zf W _ _ b2 rfl) (wL W d _ _) ?_
 refine Xt W (Zf W _ _ a3 rfl) (Zf W _ _ b3 rfl) (wL W d _ _) ?_
 refine Xt W (Zf W _ _ a4 rfl) (Zf W _ _ b4 rfl) (wL W d _ _) ?_
 refine Xt W (Zf W _ _ a5 rfl) (Zf W _ _ b5 rfl) (wL W d _ _) ?_
 refine Xt W (Zf W _ _ a6 rfl) (Zf W _ _ b6 rfl) (wL W d _ _) ?_
 refine Xt W (Zf W _ _ a7 rfl) (Zf W _ _ b7 rfl) (wL W d _ _) ?_
 exact yM W _ _ _ _ _
theorem Nt(n m:ZC)(hn:YP n)(hm:YP m):(qam 9999 (ZX n).toArray (ZX m).toArray (Tryz.prog.fieldsOf 40).toList).run Tryz.prog W=.ok (Sj (n=m)) W:=by
 obtain⟨k,r,l,s,p⟩:=n
 obtain⟨k',r',l',s',p'⟩:=m
 obtain⟨p0,p1,p2,p3,p4,p5,p6,p7,p8,p9,hp⟩:=Xh hn.len
 obtain⟨q0,q1,q2,q3,q4,q5,q6,q7,q8,q9,hq⟩:=Xh hm.len
 simp only at hp hq
 subst hp hq
 have hl:(Tryz.prog.fieldsOf 40).toList.length=7:=by kernel_rfl
 have hmm:(Tryz.prog.fieldsOf 40).toList.map (fun f=>(f.name== "_",f.type,f.offset))=[(false,5,0),(false,5,1),(false,3,2),(false,3,3),(false,38,4),(false,3,12),(false,3,13)]:=by kernel_rfl
 obtain⟨f0,f1,f2,f3,f4,f5,f6,e⟩:=sG hl
 rw[e]at hmm⊢
 simp only[qaw,List.map_nil,qav,Prod.mk.injEq,and_true]at hmm
 obtain⟨⟨n0,t0,o0⟩,⟨n1,t1,o1⟩,⟨n2,t2,o2⟩,⟨n3,t3,o3⟩,⟨n4,t4,o4⟩,⟨n5,t5,o5⟩,n6,t6,o6⟩:=hmm
 have n0:f0.name≠"_" :=by simpa using n0
 have n1:f1.name≠"_" :=by simpa using n1
 have n2:f2.name≠"_" :=by simpa using n2
 have n3:f3.name≠"_" :=by simpa using n3
 have n4:f4.name≠"_" :=by simpa using n4
 have n5:f5.name≠"_" :=by simpa using n5
 have n6:f6.name≠"_" :=by simpa using n6
 have fin:Sj ((⟨k,r,l,s,[p0,p1,p2,p3,p4,p5,p6,p7,p8,p9]⟩:ZC)=⟨k',r',l',s',[q0,q1,q2,q3,q4,q5,q6,q7,q8,q9]⟩)=
   ((k:Int)==(k':Int)&&((r:Int)==(r':Int)&&(l==l'&&(s==s'&&((p0==q0&&(p1==q1&&(p2==q2&&(p3==q3&&(p4==q4&&(p5==q5&&(p6==q6&&(p7==q7&&true))))))))&&(p8==q8&&(p9==q9&&true))))))):=by
  rw[Bool.eq_iff_iff]
  unfold Sj
  rw[@decide_eq_true_iff _ (qak _)]
  simp only[ZC.mk.injEq,qav,Bool.and_eq_true,beq_iff_eq,and_true,Int.natCast_inj]
  constructor
  ·rintro ⟨h1,h2,h3,h4,h5,h6,h7,h8,h9,h10,h11,h12,wM,h14⟩
   exact⟨h1,h2,h3,h4,⟨h5,h6,h7,h8,h9,h10,h11,h12⟩,wM,h14⟩
  ·rintro ⟨h1,h2,h3,h4,⟨h5,h6,h7,h8,h9,h10,h11,h12⟩,wM,h14⟩
   exact⟨h1,h2,h3,h4,h5,h6,h7,h8,h9,h10,h11,h12,wM,h14⟩
 rw[fin]
 refine Xu W n0 (by rw[t0,o0];exact OB W _ _ (k:Int) rfl) (by rw[t0,o0];exact OB W _ _ (k':Int) rfl) (by rw[t0];exact eq5 W _ _ _) ?_
 refine Xu W n1 (by rw[t1,o1];exact OB W _ _ (r:Int) rfl) (by rw[t1,o1];exact OB W _ _ (r':Int) rfl) (by rw[t1];exact eq5 W _ _ _) ?_
 refine Xu W n2 (by rw[t2,o2];exact Zf W _ _ l rfl) (by rw[t2,o2];exact Zf W _ _ l' rfl) (by rw[t2];exact wL W _ _ _) ?_
 refine Xu W n3 (by rw[t3,o3];exact Zf W _ _ s rfl) (by rw[t3,o3];exact Zf W _ _ s' rfl) (by rw[t3];exact wL W _ _ _) ?_
 refine Xu W n4 (by rw[t4,o4];exact Gz W _ _ #[p0,p1,p2,p3,p4,p5,p6,p7] rfl) (by rw[t4,o4];exact Gz W _ _ #[q0,q1,q2,q3,q4,q5,q6,q7] rfl) (by rw[t4];exact fK W _ _ _ _ _ _ _ _ _ _ _ _ _ _ _ _ _) ?_
 refine Xu W n5 (by rw[t5,o5];exact Zf W _ _ p8 rfl) (by rw[t5,o5];exact Zf W _ _ q8 rfl) (by rw[t5];exact wL W _ _ _) ?_
 refine Xu W n6 (by rw[t6,o6];exact Zf W _ _ p9 rfl) (by rw[t6,o6];exact Zf W _ _ q9 rfl) (by rw[t6];exact wL W _ _ _) ?_
 exact D9 W _ _ _
theorem mh(n m:ZC)(hn:YP n)(hm:YP m):(binOp .eql 40 (Mg n) (Mg m)).run Tryz.prog W=.ok (.bool (Sj (n=m))) W:=by
 unfold Mg
 rw[run_eql_struct,run_equalIn_agg W 9999 40 _ _ JG (by kernel_rfl),Nt W n m hn hm]
 rfl
theorem mq(n m:ZC)(hn:YP n)(hm:YP m):(binOp .neq 40 (Mg n) (Mg m)).run Tryz.prog W=.ok (.bool (!(Sj (n=m)))) W:=by
 unfold Mg
 rw[run_neq_struct,run_equalIn_agg W 9999 40 _ _ JG (by kernel_rfl),Nt W n m hn hm]
 rfl
end
end
end Go.Proofs.YtmehhgfbnfbnaaaGreat.Z9

namespace Go.Proofs.YtmehhgfbnfbnaaaGreat.Z9
open Go.RowKit
section
variable {w W:qad}{g b:Nat}{e:TypeId}{a0 a1 a2 a3 a4 a5 a6 a7 a8 a9 R9 R8 a12 R7:qai}
theorem sH:(Tryz.prog.info? 3).map (·.size)=some 1:=by kernel_rfl
theorem SF(h:Bk w g e [a0,a1,a2,a3,a4,a5,a6,a7,a8,a9]):w.cell? ⟨g,0,none⟩=some a0/\w.cell? ⟨g,1,none⟩=some a1/\w.cell? ⟨g,2,none⟩=some a2/\w.cell? ⟨g,3,none⟩=some a3/\w.cell? ⟨g,4,none⟩=some a4/\w.cell? ⟨g,5,none⟩=some a5/\w.cell? ⟨g,6,none⟩=some a6/\w.cell? ⟨g,7,none⟩=some a7/\w.cell? ⟨g,8,none⟩=some a8/\w.cell? ⟨g,9,none⟩=some a9:=⟨h.cell 0,h.cell 1,h.cell 2,h.cell 3,h.cell 4,h.cell 5,h.cell 6,h.cell 7,h.cell 8,h.cell 9⟩
theorem Nu(h:Bk w g e [a0,a1,a2,a3,a4,a5,a6,a7,a8,a9]):w.frozen? ⟨g,0,none⟩=false/\w.frozen? ⟨g,1,none⟩=false/\w.frozen? ⟨g,2,none⟩=false/\w.frozen? ⟨g,3,none⟩=false/\w.frozen? ⟨g,4,none⟩=false/\w.frozen? ⟨g,5,none⟩=false/\w.frozen? ⟨g,6,none⟩=false/\w.frozen? ⟨g,7,none⟩=false/\w.frozen? ⟨g,8,none⟩=false/\w.frozen? ⟨g,9,none⟩=false:=⟨h.frozen 0,h.frozen 1,h.frozen 2,h.frozen 3,h.frozen 4,h.frozen 5,h.frozen 6,h.frozen 7,h.frozen 8,h.frozen 9⟩
theorem Y7(h:Bk w g e [a0,a1,a2,a3,a4,a5,a6,a7,a8,a9,R9,R8,a12,R7]):w.cell? ⟨g,0,none⟩=some a0/\w.cell? ⟨g,1,none⟩=some a1/\w.cell? ⟨g,2,none⟩=some a2/\w.cell? ⟨g,3,none⟩=some a3/\w.cell? ⟨g,4,none⟩=some a4/\w.cell? ⟨g,5,none⟩=some a5/\w.cell? ⟨g,6,none⟩=some a6/\w.cell? ⟨g,7,none⟩=some a7/\w.cell? ⟨g,8,none⟩=some a8/\w.cell? ⟨g,9,none⟩=some a9/\w.cell? ⟨g,10,none⟩=some R9/\w.cell? ⟨g,11,none⟩=some R8/\w.cell? ⟨g,12,none⟩=some a12/\w.cell? ⟨g,13,none⟩=some R7:=⟨h.cell 0,h.cell 1,h.cell 2,h.cell 3,h.cell 4,h.cell 5,h.cell 6,h.cell 7,h.cell 8,h.cell 9,h.cell 10,h.cell 11,h.cell 12,h.cell 13⟩
theorem Wp(h:Bk w g e [a0,a1,a2,a3,a4,a5,a6,a7,a8,a9,R9,R8,a12,R7]):w.frozen? ⟨g,0,none⟩=false/\w.frozen? ⟨g,1,none⟩=false/\w.frozen? ⟨g,2,none⟩=false/\w.frozen? ⟨g,3,none⟩=false/\w.frozen? ⟨g,4,none⟩=false/\w.frozen? ⟨g,5,none⟩=false/\w.frozen? ⟨g,6,none⟩=false/\w.frozen? ⟨g,7,none⟩=false/\w.frozen? ⟨g,8,none⟩=false/\w.frozen? ⟨g,9,none⟩=false/\w.frozen? ⟨g,10,none⟩=false/\w.frozen? ⟨g,11,none⟩=false/\w.frozen? ⟨g,12,none⟩=false/\w.frozen? ⟨g,13,none⟩=false:=⟨h.frozen 0,h.frozen 1,h.frozen 2,h.frozen 3,h.frozen 4,h.frozen 5,h.frozen 6,h.frozen 7,h.frozen 8,h.frozen 9,h.frozen 10,h.frozen 11,h.frozen 12,h.frozen 13⟩
theorem three(w:qad)(xs ys zs:List qai)(a b c:TypeId):∀W,W=((w.alloc (.cells xs.toArray a)).alloc (.cells ys.toArray b)).alloc (.cells zs.toArray c)->
  Bk W w.heap.size a xs/\Bk W (w.heap.size+1) b ys/\Bk W (w.heap.size+1+1) c zs/\qaf w.heap.size w W/\W.heap.size=w.heap.size+3:=by
 rintro W rfl
 have h1:=Bk.new w a xs
 have b1:=ZR w (.cells xs.toArray a)
 have s1:(w.alloc (.cells xs.toArray a)).heap.size=w.heap.size+1:=by simp
 generalize w.alloc (.cells xs.toArray a)=w1 at*
 have h2:=Bk.new w1 b ys
 have b2:=ZR w1 (.cells ys.toArray b)
 have s2:(w1.alloc (.cells ys.toArray b)).heap.size=w1.heap.size+1:=by simp
 generalize w1.alloc (.cells ys.toArray b)=w2 at*
 have h3:=Bk.new w2 c zs
 have b3:=ZR w2 (.cells zs.toArray c)
 have s3:(w2.alloc (.cells zs.toArray c)).heap.size=w2.heap.size+1:=by simp
 generalize w2.alloc (.cells zs.toArray c)=w3 at*
 rw[s1]at h2
 rw[s2,s1]at h3
 exact⟨(h1.below b2 (by omega)).below b3 (by omega),h2.below b3 (by omega),h3,(b1.trans (b2.mono (by omega))).trans (b3.mono (by omega)),by omega⟩
theorem Ld(w:qad)(g:Nat):∀cs:Array qai,w.grownBy (w.setRow g cs) (some g):=fun cs=>
 ⟨rfl,rfl,rfl,by simp[qad.setRow],fun k _ hne=>setRow_other w g k cs (by rintro rfl;exact hne rfl)⟩
theorem R3{P:Program}{ops:Array Oper}{o:Oper}{a:Act}{K:Act->qad->Prop}{Q:Exit->Act->qad->Prop}{E:Prop}(hgd:o.guard=none)(d s:Operand)(dT sT:TypeId)(ho:o.op=.call {callee:=.builtin .copy,args:=#[d,s],argTypes:=#[dT,sT]})(elem:TypeId)(hu:P.underlying dT=some (.slice elem))(hsz:(P.info? elem).map (·.size)=some 1)(g off dLen dCap:Nat)(ad:Addr)(sLen sCap:Nat)(hd:a.eval d=.slice (some ⟨g,off,none⟩) dLen dCap)(hs:a.eval s=.slice (some ad) sLen sCap)(cur:List qai)(t:TypeId)(hg:w.heap[g]? =some (.cells cur.toArray t (0,0)))(cs:List qai)(hn:cs.length=Nat.min sLen dLen)(hsrc:∀j v,cs[j]? =some v->w.cell? (ad.add j)=some v)(hfit:off+cs.length<=cur.length)(h1:∀v∈cs,v.oneCell'=true)(h:∀w',Hid (w'.heap[g]? =some (.cells (splice cur off cs).toArray t (0,0)))->Hid (w.grownBy w' (some g))->K (a.put o.dst (goInt cs.length)) w'):
  if qax o (yielded ops a.tmps)=true then Oper.wp P o a w K Q else E:=by
 have hw:qax o (yielded ops a.tmps)=true:=by simp[qax,hgd]
 rw[if_pos hw]
 have hrun:=run_copy_row (P:=P) w dT sT o.type elem g off dLen dCap ad sLen sCap cur.toArray t cs hu hsz hg hn hsrc (by simpa using hfit) h1
 unfold Oper.wp
 simp[execOp,ho,resolve,invoke,builtin,hd,hs,hrun,Result.andThen]
 exact h _ (show _=_ by simpa[splice]using setRow_heap w g _ _ t _ hg) (Ld _ _ _)
theorem abY{k r:Nat}{l s p0 p1 p2 p3 p4 p5 p6 p7 p8 p9:Int}(h:Bk W b 40 [.int .u8 k,.int .u8 r,l,s,p0,p1,p2,p3,p4,p5,p6,p7,p8,p9]):∀j v,(ZM [p0,p1,p2,p3,p4,p5,p6,p7])[j]? =some v->W.drew.cell? (Addr.add ⟨b,4,none⟩ j)=some v:=by
 intro j v hv
 have e:(ZM [p0,p1,p2,p3,p4,p5,p6,p7])=(([.int .u8 k,.int .u8 r,l,s,p0,p1,p2,p3,p4,p5,p6,p7,p8,p9]:List qai).drop 4).take 8:=rfl
 rw[e,qan]at hv
 split at hv
 ·rw[List.getElem?_drop]at hv
  rw[Addr.add_lit]
  exact(h.cell (4+j)).trans hv
 ·simp at hv
theorem JH(k r:Nat)(l s p0 p1 p2 p3 p4 p5 p6 p7 p8 p9:Int)(w:qad):
  qah Tryz.prog 181 #[.agg #[.int .u8 k,.int .u8 r,l,s,p0,p1,p2,p3,p4,p5,p6,p7,p8,p9]] w fun e w'=>e=.returned (.agg #[p0,p1,p2,p3,p4,p5,p6,p7,p8,p9])/\qaf w.heap.size w w':=by
 have H3:=χ (three w [.int .u8 k,.int .u8 r,l,s,p0,p1,p2,p3,p4,p5,p6,p7,p8,p9] [(),(),(),(),(),(),(),(),(),()] [(),(),(),(),(),(),(),(),(),()] 40 241 241)
 go_enter Tryz.func181,Tryz.ntmps181
 go_wp2
 obtain⟨W,hW⟩:∃W,W=((w.alloc (.cells #[.int .u8 k,.int .u8 r,l,s,p0,p1,p2,p3,p4,p5,p6,p7,p8,p9] 40)).alloc (.cells #[(),(),(),(),(),(),(),(),(),()] 241)).alloc (.cells #[(),(),(),(),(),(),(),(),(),()] 241):=⟨_,rfl⟩
 rw[<-hW]
 obtain⟨hA,hR,hP,hB,hS⟩:=H3.out W hW
 clear hW H3
 have HA:=χ hA
 have HR:=χ hR
 have HP:=χ hP
 have HB:=χ hB
 have HS:=χ hS
 clear hA hR hP hB hS
 have hsrc:=χ (abY HA.out)
 have hpw:W.drew.heap[w.heap.size+1+1]? =some (.cells [.int .i64 0,.int .i64 0,.int .i64 0,.int .i64 0,.int .i64 0,.int .i64 0,.int .i64 0,.int .i64 0,.int .i64 0,.int .i64 0].toArray 241 (0,0)):=HP.out
 have OT:=χ hpw
 have hbb:=χ (qae (w.heap.size+1+1) W.drew)
 have hle:w.heap.size+1+1<=w.heap.size+1+1:=qau _
 clear hpw
 go_region_law (refine step_copy_splice rfl (.tmp 4) (.tmp 6) 57 57 rfl 3 Tryz.underlying57 sH (some ⟨w.heap.size+1+1,0,none⟩) (some ⟨w.heap.size,4,none⟩) 10 10 8 8 rfl rfl (w.heap.size+1+1) 0 [(),(),(),(),(),(),(),(),(),()] 241 OT.out (ZM [p0,p1,p2,p3,p4,p5,p6,p7]) rfl (fun _=>⟨rfl,⟨w.heap.size,4,none⟩,rfl,hsrc.out⟩) (show 0+8<=10 by decide) (VI _) (w.heap.size+1+1) W.drew hbb.out hle ?_;intro w4 hg4 hb4)
 have PW:Bk w4 w.heap.size 40 [.int .u8 k,.int .u8 r,l,s,p0,p1,p2,p3,p4,p5,p6,p7,p8,p9]:=(show Bk W.drew w.heap.size 40 [.int .u8 k,.int .u8 r,l,s,p0,p1,p2,p3,p4,p5,p6,p7,p8,p9]from HA.out).below hb4 (by omega)
 have aN:Bk w4 (w.heap.size+1) 241 [(),(),(),(),(),(),(),(),(),()]:=(show Bk W.drew (w.heap.size+1) 241 [(),(),(),(),(),(),(),(),(),()]from HR.out).below hb4 (by omega)
 have yN:Bk w4 (w.heap.size+1+1) 241 [p0,p1,p2,p3,p4,p5,p6,p7,(),()]:=hg4.out
 have hB4:qaf w.heap.size w w4:=(YB HB.out).trans (hb4.mono (by omega))
 have hs4:w.heap.size+3<=w4.heap.size:=by
  have h1:=hb4.size
  have h2:=HS.out
  have h3:W.drew.heap.size=W.heap.size:=rfl
  omega
 clear hg4 hb4 hsrc OT hbb hle HA HR HP HB HS
 obtain⟨a0,a1,a2,a3,a4,a5,a6,a7,a8,a9,R9,R8,a12,R7⟩:=Y7 PW
 obtain⟨r0,r1,r2,r3,r4,r5,r6,r7,r8,r9⟩:=SF aN
 obtain⟨g0,g1,g2,g3,g4,g5,g6,g7,g8,g9⟩:=Nu aN
 obtain⟨c0,c1,c2,c3,c4,c5,c6,c7,c8,c9⟩:=SF yN
 obtain⟨f0,f1,f2,f3,f4,f5,f6,f7,f8,f9⟩:=Nu yN
 have VT:=χ hB4
 have EU:=χ hs4
 clear PW aN yN hB4 hs4
 go_wp2
 refine bodyPost_ret (v:=.agg #[p0,p1,p2,p3,p4,p5,p6,p7,p8,p9]) (by simp[results,Tryz.results181,go_sem, *]) rfl ⟨rfl,?_⟩
 exact zp12
theorem abZ{q0 q1 q2 q3 q4 q5 q6 q7 q8 q9:Int}(h:Bk W b 241 [q0,q1,q2,q3,q4,q5,q6,q7,q8,q9]):∀j v,(ZM [q0,q1,q2,q3,q4,q5,q6,q7])[j]? =some v->W.drew.cell? (Addr.add ⟨b,0,none⟩ j)=some v:=by
 intro j v hv
 have e:(ZM [q0,q1,q2,q3,q4,q5,q6,q7])=([q0,q1,q2,q3,q4,q5,q6,q7,q8,q9]:List qai).take 8:=rfl
 rw[e,qan]at hv
 split at hv
 ·rw[Addr.add_lit,Nat.zero_add]
  exact(h.cell j).trans hv
 ·simp at hv
theorem fM(k r:Nat)(l s p0 p1 p2 p3 p4 p5 p6 p7 p8 p9 q0 q1 q2 q3 q4 q5 q6 q7 q8 q9:Int)(w:qad):
  qah Tryz.prog 261 #[.agg #[.int .u8 k,.int .u8 r,l,s,p0,p1,p2,p3,p4,p5,p6,p7,p8,p9],.agg #[q0,q1,q2,q3,q4,q5,q6,q7,q8,q9]] w fun e w'=>e=.returned (.agg #[.int .u8 k,.int .u8 r,l,s,q0,q1,q2,q3,q4,q5,q6,q7,q8,q9])/\qaf w.heap.size w w':=by
 have H3:=χ (three w [.int .u8 k,.int .u8 r,l,s,p0,p1,p2,p3,p4,p5,p6,p7,p8,p9] [q0,q1,q2,q3,q4,q5,q6,q7,q8,q9] ["","",(),(),(),(),(),(),(),(),(),(),(),()] 40 241 40)
 go_enter Tryz.func261,Tryz.ntmps261
 go_wp2
 obtain⟨W,hW⟩:∃W,W=((w.alloc (.cells #[.int .u8 k,.int .u8 r,l,s,p0,p1,p2,p3,p4,p5,p6,p7,p8,p9] 40)).alloc (.cells #[q0,q1,q2,q3,q4,q5,q6,q7,q8,q9] 241)).alloc (.cells #["","",(),(),(),(),(),(),(),(),(),(),(),()] 40):=⟨_,rfl⟩
 rw[<-hW]
 obtain⟨hA,hR,hP,hB,hS⟩:=H3.out W hW
 clear hW H3
 have HA:=χ hA
 have HR:=χ hR
 have HP:=χ hP
 have HB:=χ hB
 have HS:=χ hS
 clear hA hR hP hB hS
 have hsrc:=χ (abZ HR.out)
 have hpw:W.drew.heap[w.heap.size]? =some (.cells [.int .u8 k,.int .u8 r,.int .i64 l,.int .i64 s,.int .i64 p0,.int .i64 p1,.int .i64 p2,.int .i64 p3,.int .i64 p4,.int .i64 p5,.int .i64 p6,.int .i64 p7,.int .i64 p8,.int .i64 p9].toArray 40 (0,0)):=HA.out
 have OT:=χ hpw
 have hcc:=χ (Ld W.drew w.heap.size)
 have hbb:=χ (YB HB.out)
 have hle:w.heap.size<=w.heap.size:=qau _
 clear hpw
 go_region_law (refine R3 rfl (.tmp 6) (.tmp 7) 57 57 rfl 3 Tryz.underlying57 sH (w.heap.size) 4 8 8 ⟨w.heap.size+1,0,none⟩ 10 10 rfl rfl [.int .u8 k,.int .u8 r,l,s,p0,p1,p2,p3,p4,p5,p6,p7,p8,p9] 40 OT.out (ZM [q0,q1,q2,q3,q4,q5,q6,q7]) rfl hsrc.out (show 4+8<=14 by decide) (VI _) ?_;intro w4 hg4 hb4)
 have PW:Bk w4 w.heap.size 40 [.int .u8 k,.int .u8 r,l,s,q0,q1,q2,q3,q4,q5,q6,q7,p8,p9]:=hg4.out
 have aN:Bk w4 (w.heap.size+1) 241 [q0,q1,q2,q3,q4,q5,q6,q7,q8,q9]:=(show Bk W.drew (w.heap.size+1) 241 [q0,q1,q2,q3,q4,q5,q6,q7,q8,q9]from HR.out).grown hb4.out (by simp)
 have yN:Bk w4 (w.heap.size+1+1) 40 ["","",(),(),(),(),(),(),(),(),(),(),(),()]:=(show Bk W.drew (w.heap.size+1+1) 40 ["","",(),(),(),(),(),(),(),(),(),(),(),()]from HP.out).grown hb4.out (by simp;omega)
 have hB4:qaf w.heap.size w w4:=(YB HB.out).grown hb4.out (by have:=HS.out;show w.heap.size<=W.heap.size;omega) (by rintro q hq;injection hq with hq;omega)
 have hs4:w.heap.size+3<=w4.heap.size:=by
  have h1:=hb4.out.size
  have h2:=HS.out
  have h3:W.drew.heap.size=W.heap.size:=rfl
  omega
 clear hg4 hb4 hsrc OT hbb hle HA HR HP HB HS hcc
 obtain⟨a0,a1,a2,a3,a4,a5,a6,a7,a8,a9,R9,R8,a12,R7⟩:=Y7 PW
 obtain⟨b0,b1,b2,b3,b4,b5,b6,b7,b8,b9,b10,b11,b12,b13⟩:=Wp PW
 obtain⟨r0,r1,r2,r3,r4,r5,r6,r7,r8,r9⟩:=SF aN
 obtain⟨c0,c1,c2,c3,c4,c5,c6,c7,c8,c9,c10,c11,c12,c13⟩:=Y7 yN
 obtain⟨f0,f1,f2,f3,f4,f5,f6,f7,f8,f9,f10,f11,f12,f13⟩:=Wp yN
 have VT:=χ hB4
 have EU:=χ hs4
 clear PW aN yN hB4 hs4
 go_wp2
 refine bodyPost_ret (v:=.agg #[.int .u8 k,.int .u8 r,l,s,q0,q1,q2,q3,q4,q5,q6,q7,q8,q9]) (by simp[results,Tryz.results261,go_sem, *]) rfl ⟨rfl,?_⟩
 exact zp12
end
end Go.Proofs.YtmehhgfbnfbnaaaGreat.Z9

namespace Go.Proofs.YtmehhgfbnfbnaaaGreat.Z9
open Go.RowKit
section
variable {r k:Nat}{l s:Int}{p:List Int}
theorem not_row(hk:k≠0)(h:¬ r<16):ZP ⟨k,r,l,s,p⟩=false:=ZN fun hR=>by
 rcases hR with hR|hR
 ·exact hk (congrArg ZC.k hR)
 ·exact h hR.row
theorem Lf(hk:k≠0)(h:OD 65535 l=false):ZP ⟨k,r,l,s,p⟩=false:=ZN fun hR=>by
 rcases hR with hR|hR
 ·exact hk (congrArg ZC.k hR)
 ·rw[UZ.2 ⟨hR.l0,hR.l1⟩]at h;cases h
theorem Le(hk:k≠0)(h:OD 3840 s=false):ZP ⟨k,r,l,s,p⟩=false:=ZN fun hR=>by
 rcases hR with hR|hR
 ·exact hk (congrArg ZC.k hR)
 ·rw[UZ.2 ⟨hR.s0,hR.s1⟩]at h;cases h
theorem GH(h:2<k):ZP ⟨k,r,l,s,p⟩=false:=ZN fun hR=>by
 rcases hR with hR|hR
 ·have:=congrArg ZC.k hR;simp[ZC.z]at this;omega
 ·have:=hR.kind;simp only at this;omega
theorem Ea(hk:k=1\/k=2)(h:r<16)(hl:OD 65535 l=true)(hs:OD 3840 s=true):ZP ⟨k,r,l,s,p⟩=p.all X5:=by
 have h1:=UZ.1 hl
 have h2:=UZ.1 hs
 cases hp:p.all X5
 ·refine ZN fun hR=>?_
  rcases hR with hR|hR
  ·have:=congrArg ZC.k hR;simp[ZC.z]at this;omega
  ·have:=hR.ptr;simp only at this;rw[hp]at this;cases this
 ·exact ZW (.inr ⟨hk,h,h1.1,h1.2,h2.1,h2.2,hp⟩)
theorem Bw:ZP ⟨0,r,l,s,p⟩=Sj ((⟨0,r,l,s,p⟩:ZC)=.z):=by
 by_cases h:(⟨0,r,l,s,p⟩:ZC)=.z
 ·rw[VD h];exact ZW (.inl h)
 ·rw[WO h]
  refine ZN fun hR=>?_
  rcases hR with hR|hR
  ·exact h hR
  ·have:=hR.kind;simp only at this;omega
theorem Xb{w w1:qad}{a0 a1 a2 a3 a4 a5 a6 a7 a8 a9 R9 R8 a12 R7:qai}(hb:qaf (w.alloc (.cells #[a0,a1,a2,a3,a4,a5,a6,a7,a8,a9,R9,R8,a12,R7] 40)).heap.size (w.alloc (.cells #[a0,a1,a2,a3,a4,a5,a6,a7,a8,a9,R9,R8,a12,R7] 40)) w1):
  Bk w1 w.heap.size 40 [a0,a1,a2,a3,a4,a5,a6,a7,a8,a9,R9,R8,a12,R7]/\qaf w.heap.size w w1/\w.heap.size<w1.heap.size:=by
 have hk:Bk (w.alloc (.cells #[a0,a1,a2,a3,a4,a5,a6,a7,a8,a9,R9,R8,a12,R7] 40)) w.heap.size 40 [a0,a1,a2,a3,a4,a5,a6,a7,a8,a9,R9,R8,a12,R7]:=Bk.new w 40 _
 exact⟨hk.below hb (by simp),(ZR w _).trans (hb.mono (by simp)),by have:=hb.size;simp at this;omega⟩
theorem Ti(w:qad)(p:List Int):Rd (w.alloc (.cells (ZM p).toArray 241)) (w.heap.size+1) (some ⟨w.heap.size,0,none⟩) (ZM p):=
 .inr ⟨w.heap.size,0,rfl,Nat.lt_succ_self _,fun i v hv=>by
  rw[Nat.zero_add,qad.cell?_alloc_at _ _ _ _ rfl]
  simpa using hv⟩
theorem GG(r:Nat)(l s p0 p1 p2 p3 p4 p5 p6 p7 p8 p9:Int)(w:qad)(hr:r<256):
  qah Tryz.prog 111 #[.agg #[.int .u8 1,.int .u8 r,l,s,p0,p1,p2,p3,p4,p5,p6,p7,p8,p9]] w fun e w'=>e=.returned (.bool (ZP (⟨1,r,l,s,[p0,p1,p2,p3,p4,p5,p6,p7,p8,p9]⟩:ZC)))/\qaf w.heap.size w w':=by
 have Cc:Hid (∀W:qad,qah Tryz.prog 181 #[.agg #[.int .u8 1,.int .u8 r,l,s,p0,p1,p2,p3,p4,p5,p6,p7,p8,p9]] W fun e w'=>e=.returned (.agg #[p0,p1,p2,p3,p4,p5,p6,p7,p8,p9])/\qaf W.heap.size W w'):=fun W=>JH 1 r l s p0 p1 p2 p3 p4 p5 p6 p7 p8 p9 W
 by_cases hrow:r<16
 rotate_left
 ·have HV:=χ (not_row (l:=l) (s:=s) (p:=[p0,p1,p2,p3,p4,p5,p6,p7,p8,p9]) (show 1≠0 by decide) hrow)
  exact zp4
 have q:decide ((r:Int)<16)=true:=decide_eq_true (by omega)
 cases hl:OD 65535 l
 ·have HV:=χ (Lf (r:=r) (s:=s) (p:=[p0,p1,p2,p3,p4,p5,p6,p7,p8,p9]) (show 1≠0 by decide) hl)
  exact zp3
 cases hs:OD 3840 s
 ·have HV:=χ (Le (r:=r) (l:=l) (p:=[p0,p1,p2,p3,p4,p5,p6,p7,p8,p9]) (show 1≠0 by decide) hs)
  exact zp2
 ·have HV:=χ (Ea (p:=[p0,p1,p2,p3,p4,p5,p6,p7,p8,p9]) (show 1=1\/1=2 by decide) hrow hl hs)
  exact zp1
theorem GA(r:Nat)(l s p0 p1 p2 p3 p4 p5 p6 p7 p8 p9:Int)(w:qad)(hr:r<256):
  qah Tryz.prog 111 #[.agg #[.int .u8 2,.int .u8 r,l,s,p0,p1,p2,p3,p4,p5,p6,p7,p8,p9]] w fun e w'=>e=.returned (.bool (ZP (⟨2,r,l,s,[p0,p1,p2,p3,p4,p5,p6,p7,p8,p9]⟩:ZC)))/\qaf w.heap.size w w':=by
 have Cc:Hid (∀W:qad,qah Tryz.prog 181 #[.agg #[.int .u8 2,.int .u8 r,l,s,p0,p1,p2,p3,p4,p5,p6,p7,p8,p9]] W fun e w'=>e=.returned (.agg #[p0,p1,p2,p3,p4,p5,p6,p7,p8,p9])/\qaf W.heap.size W w'):=fun W=>JH 2 r l s p0 p1 p2 p3 p4 p5 p6 p7 p8 p9 W
 by_cases hrow:r<16
 rotate_left
 ·have HV:=χ (not_row (l:=l) (s:=s) (p:=[p0,p1,p2,p3,p4,p5,p6,p7,p8,p9]) (show 2≠0 by decide) hrow)
  exact zp4
 have q:decide ((r:Int)<16)=true:=decide_eq_true (by omega)
 cases hl:OD 65535 l
 ·have HV:=χ (Lf (r:=r) (s:=s) (p:=[p0,p1,p2,p3,p4,p5,p6,p7,p8,p9]) (show 2≠0 by decide) hl)
  exact zp3
 cases hs:OD 3840 s
 ·have HV:=χ (Le (r:=r) (l:=l) (p:=[p0,p1,p2,p3,p4,p5,p6,p7,p8,p9]) (show 2≠0 by decide) hs)
  exact zp2
 ·have HV:=χ (Ea (p:=[p0,p1,p2,p3,p4,p5,p6,p7,p8,p9]) (show 2=1\/2=2 by decide) hrow hl hs)
  exact zp1
theorem PX(k r:Nat)(l s p0 p1 p2 p3 p4 p5 p6 p7 p8 p9:Int)(w:qad)(hk:k<256)(hr:r<256):
  qah Tryz.prog 111 #[.agg #[.int .u8 k,.int .u8 r,l,s,p0,p1,p2,p3,p4,p5,p6,p7,p8,p9]] w fun e w'=>e=.returned (.bool (ZP (⟨k,r,l,s,[p0,p1,p2,p3,p4,p5,p6,p7,p8,p9]⟩:ZC)))/\qaf w.heap.size w w':=by
 by_cases h1:k=1
 ·subst h1
  exact GG r l s p0 p1 p2 p3 p4 p5 p6 p7 p8 p9 w hr
 by_cases h2:k=2
 ·subst h2
  exact GA r l s p0 p1 p2 p3 p4 p5 p6 p7 p8 p9 w hr
 by_cases h0:k=0
 ·subst h0
  have hg:=RG
  have HV:=χ (Bw (r:=r) (l:=l) (s:=s) (p:=[p0,p1,p2,p3,p4,p5,p6,p7,p8,p9]))
  have he:∀W,(binOp .eql 40 (.agg #["",.int .u8 r,l,s,p0,p1,p2,p3,p4,p5,p6,p7,p8,p9]) (.agg #["","",(),(),(),(),(),(),(),(),(),(),(),()])).run Tryz.prog W=.ok (.bool (Sj ((⟨0,r,l,s,[p0,p1,p2,p3,p4,p5,p6,p7,p8,p9]⟩:ZC)=.z))) W:=fun W=>mh W (⟨0,r,l,s,[p0,p1,p2,p3,p4,p5,p6,p7,p8,p9]⟩:ZC) .z ⟨rfl,show 0<256 by decide,hr⟩ YP.z
  rw[<-HV.out]at he
  clear hk hr h1 h2
  show qah Tryz.prog 111 #[.agg #["",.int .u8 r,l,s,p0,p1,p2,p3,p4,p5,p6,p7,p8,p9]] w _
  generalize ZP (⟨0,r,l,s,[p0,p1,p2,p3,p4,p5,p6,p7,p8,p9]⟩:ZC)=b at*
  go_enter Tryz.func111,Tryz.ntmps111
  go_wp2
  go_ret
  refine⟨rfl,?_⟩
  exact zp11
 ·have HV:=χ (GH (r:=r) (l:=l) (s:=s) (p:=[p0,p1,p2,p3,p4,p5,p6,p7,p8,p9]) (show 2<k by omega))
  have q0:((k:Int)==0)=false:=by simp;omega
  have q1:((k:Int)==1)=false:=by simp;omega
  have q2:((k:Int)==2)=false:=by simp;omega
  go_enter Tryz.func111,Tryz.ntmps111
  go_wp2
  go_ret
  refine⟨by rw[HV.out];rfl,?_⟩
  exact zp11
end
end Go.Proofs.YtmehhgfbnfbnaaaGreat.Z9

namespace Go.Proofs.YtmehhgfbnfbnaaaGreat.Z9
open Go.RowKit
theorem JK(p0 p1 p2 p3 p4 p5 p6 p7 p8 p9:Int):[p0,p1,p2,p3,p4,p5,p6,p7,p8,p9].all X5=([p0,p1,p2,p3,p4,p5,p6,p7].all X5&&(X5 p8&&X5 p9)):=by simp[Bool.and_assoc]
theorem Nv{W:qad}{g:Nat}{k r l s:qai}{p0 p1 p2 p3 p4 p5 p6 p7 p8 p9:Int}(h:Bk W g 40 [k,r,l,s,p0,p1,p2,p3,p4,p5,p6,p7,p8,p9]):∀(j:Nat)(x:Int),[p0,p1,p2,p3,p4,p5,p6,p7][j]? =some x->W.cell? ⟨g,4+j,none⟩=some (.int .i64 x):=by
 intro j x hx
 have hj:j<8:=by
  have:=(qal.1 hx).1
  simpa using this
 have e:(ZM [p0,p1,p2,p3,p4,p5,p6,p7])[j]? =some (.int .i64 x):=by simp only[ZM,List.getElem?_map,hx,Option.map_some]
 have e2:ZM [p0,p1,p2,p3,p4,p5,p6,p7]=(([k,r,l,s,p0,p1,p2,p3,p4,p5,p6,p7,p8,p9]:List qai).drop 4).take 8:=rfl
 rw[e2,qan,if_pos hj,List.getElem?_drop]at e
 exact(h.cell (4+j)).trans e
theorem En(r:Nat)(l s p0 p1 p2 p3 p4 p5 p6 p7 p8 p9:Int)(w:qad)(hr:r<16)(l0:0<=l)(l1:l<=65535)(s0:0<=s)(s1:s<=3840)(hv:ZP (⟨0,r,l,s,[p0,p1,p2,p3,p4,p5,p6,p7,p8,p9]⟩:ZC)=[p0,p1,p2,p3,p4,p5,p6,p7,p8,p9].all X5)(he:∀W,(binOp .neq 40 (.agg #["",.int .u8 r,l,s,p0,p1,p2,p3,p4,p5,p6,p7,p8,p9]) (.agg #["","",(),(),(),(),(),(),(),(),(),(),(),()])).run Tryz.prog W=.ok (.bool false) W):
  qah Tryz.prog 166 #[.agg #["",.int .u8 r,l,s,p0,p1,p2,p3,p4,p5,p6,p7,p8,p9]] w fun e w'=>e=.returned (.bool (ZP (⟨0,r,l,s,[p0,p1,p2,p3,p4,p5,p6,p7,p8,p9]⟩:ZC)))/\qaf w.heap.size w w':=by
 have hbk:Bk (w.alloc (.cells #["",.int .u8 r,l,s,p0,p1,p2,p3,p4,p5,p6,p7,p8,p9] 40)) w.heap.size 40 ["",.int .u8 r,l,s,p0,p1,p2,p3,p4,p5,p6,p7,p8,p9]:=Bk.new w 40 _
 have HD:=χ (Nv hbk)
 have h12:=χ (hbk.cell 12)
 have wM:=χ (hbk.cell 13)
 have HB:=χ (ZR w (.cells #["",.int .u8 r,l,s,p0,p1,p2,p3,p4,p5,p6,p7,p8,p9] 40))
 have HS:=χ hbk.lt
 rw[JK]at hv
 have HV:=χ hv
 have q0:decide ((r:Int)≥16)=false:=decide_eq_false (by omega)
 have q1:decide (l<0)=false:=decide_eq_false (by omega)
 have q2:decide (l>65535)=false:=decide_eq_false (by omega)
 have q3:decide (s<0)=false:=decide_eq_false (by omega)
 have q4:decide (s>3840)=false:=decide_eq_false (by omega)
 have q5:r<16:=hr
 have hg:=RG
 clear hbk hv
 generalize ZP (⟨0,r,l,s,[p0,p1,p2,p3,p4,p5,p6,p7,p8,p9]⟩:ZC)=b at HV
 go_enter Tryz.func166,Tryz.ntmps166
 go_wp2
 generalize w.alloc (.cells #["",.int .u8 r,l,s,p0,p1,p2,p3,p4,p5,p6,p7,p8,p9] 40)=W at*
 clear q0 q1 q2 q3 q4 he hg
 go_loop [3] (fun i=>∃j:Nat,j<=8/\i=.int .i64 j/\Hid (([p0,p1,p2,p3,p4,p5,p6,p7].take j).all X5=true)) (fun i=>8-(intOf i).toNat)
 case atStart=>exact⟨0,qat _,rfl,χ rfl⟩
 case round=>
  obtain⟨j,hj,rfl,hall⟩:=hrel
  by_cases hlt:j<8
  ·obtain⟨x,hx⟩:∃x,[p0,p1,p2,p3,p4,p5,p6,p7][j]? =some x:=⟨_,qag (by simpa using hlt)⟩
   have c0:=HD.out j x hx
   have Hx:=χ hx
   have hs:=HS.out
   have hj0:(0:Int)<=(j:Int):=qao _
   have hj8:(j:Int)<8:=by omega
   clear hx
   cases hp:X5 x
   ·have Hp:=χ (OC Hx.out hp)
    have Hq:=χ hp
    clear hp
    go_wp2_with (go_at_call 229;(with_reducible refine(XV x _).mono ?_);rintro e w' ⟨he,hw'⟩;obtain rfl:=he;obtain rfl:=hw';rw[Hq.out])
    go_ret
    exact⟨by rw[HV.out,Hp.out];rfl,HB.out⟩
   ·have Hp:=χ (QO hall.out Hx.out hp)
    have Hq:=χ hp
    clear hp
    go_wp2_with (go_at_call 229;(with_reducible refine(XV x _).mono ?_);rintro e w' ⟨he,hw'⟩;obtain rfl:=he;obtain rfl:=hw';rw[Hq.out])
    go_round
    case rel=>exact⟨j+1,by omega,by go_num,Hp⟩
    case measure=>simp[intOf];omega
  ·obtain rfl:j=8:=by omega
   have e8:[p0,p1,p2,p3,p4,p5,p6,p7].all X5=true:=hall.out
   have c12:W.cell? ⟨w.heap.size,12,none⟩=some (.int .i64 p8):=h12.out
   have c13:W.cell? ⟨w.heap.size,13,none⟩=some (.int .i64 p9):=wM.out
   have XT:=χ (show b=(X5 p8&&X5 p9)by rw[HV.out,e8];rfl)
   have hs:=HS.out
   clear e8
   cases h8:X5 p8
   ·have H8:=χ h8
    clear h8
    go_wp2_with (go_at_call 229;(with_reducible refine(XV p8 _).mono ?_);rintro e w' ⟨he,hw'⟩;obtain rfl:=he;obtain rfl:=hw';rw[H8.out])
    go_ret
    exact⟨by rw[XT.out,H8.out];rfl,HB.out⟩
   ·have H8:=χ h8
    clear h8
    go_wp2_with (first|(go_at_call 229;(with_reducible refine(XV p8 _).mono ?_);rintro e w' ⟨he,hw'⟩;obtain rfl:=he;obtain rfl:=hw';rw[H8.out])|(go_at_call 229;(with_reducible refine(XV p9 _).mono ?_);rintro e w' ⟨he,hw'⟩;obtain rfl:=he;obtain rfl:=hw'))
    go_ret
    exact⟨by rw[XT.out,H8.out];rfl,HB.out⟩
theorem Em(r:Nat)(l s p0 p1 p2 p3 p4 p5 p6 p7 p8 p9:Int)(w:qad)(hr:r<16)(l0:0<=l)(l1:l<=65535)(s0:0<=s)(s1:s<=3840)(hv:ZP (⟨1,r,l,s,[p0,p1,p2,p3,p4,p5,p6,p7,p8,p9]⟩:ZC)=[p0,p1,p2,p3,p4,p5,p6,p7,p8,p9].all X5):
  qah Tryz.prog 166 #[.agg #[.int .u8 1,.int .u8 r,l,s,p0,p1,p2,p3,p4,p5,p6,p7,p8,p9]] w fun e w'=>e=.returned (.bool (ZP (⟨1,r,l,s,[p0,p1,p2,p3,p4,p5,p6,p7,p8,p9]⟩:ZC)))/\qaf w.heap.size w w':=by
 have hbk:Bk (w.alloc (.cells #[.int .u8 1,.int .u8 r,l,s,p0,p1,p2,p3,p4,p5,p6,p7,p8,p9] 40)) w.heap.size 40 [.int .u8 1,.int .u8 r,l,s,p0,p1,p2,p3,p4,p5,p6,p7,p8,p9]:=Bk.new w 40 _
 have HD:=χ (Nv hbk)
 have h12:=χ (hbk.cell 12)
 have wM:=χ (hbk.cell 13)
 have HB:=χ (ZR w (.cells #[.int .u8 1,.int .u8 r,l,s,p0,p1,p2,p3,p4,p5,p6,p7,p8,p9] 40))
 have HS:=χ hbk.lt
 rw[JK]at hv
 have HV:=χ hv
 have q0:decide ((r:Int)≥16)=false:=decide_eq_false (by omega)
 have q1:decide (l<0)=false:=decide_eq_false (by omega)
 have q2:decide (l>65535)=false:=decide_eq_false (by omega)
 have q3:decide (s<0)=false:=decide_eq_false (by omega)
 have q4:decide (s>3840)=false:=decide_eq_false (by omega)
 have q5:r<16:=hr
 clear hbk hv
 generalize ZP (⟨1,r,l,s,[p0,p1,p2,p3,p4,p5,p6,p7,p8,p9]⟩:ZC)=b at HV
 go_enter Tryz.func166,Tryz.ntmps166
 go_wp2
 generalize w.alloc (.cells #[.int .u8 1,.int .u8 r,l,s,p0,p1,p2,p3,p4,p5,p6,p7,p8,p9] 40)=W at*
 exact zp0
theorem El(r:Nat)(l s p0 p1 p2 p3 p4 p5 p6 p7 p8 p9:Int)(w:qad)(hr:r<16)(l0:0<=l)(l1:l<=65535)(s0:0<=s)(s1:s<=3840)(hv:ZP (⟨2,r,l,s,[p0,p1,p2,p3,p4,p5,p6,p7,p8,p9]⟩:ZC)=[p0,p1,p2,p3,p4,p5,p6,p7,p8,p9].all X5):
  qah Tryz.prog 166 #[.agg #[.int .u8 2,.int .u8 r,l,s,p0,p1,p2,p3,p4,p5,p6,p7,p8,p9]] w fun e w'=>e=.returned (.bool (ZP (⟨2,r,l,s,[p0,p1,p2,p3,p4,p5,p6,p7,p8,p9]⟩:ZC)))/\qaf w.heap.size w w':=by
 have hbk:Bk (w.alloc (.cells #[.int .u8 2,.int .u8 r,l,s,p0,p1,p2,p3,p4,p5,p6,p7,p8,p9] 40)) w.heap.size 40 [.int .u8 2,.int .u8 r,l,s,p0,p1,p2,p3,p4,p5,p6,p7,p8,p9]:=Bk.new w 40 _
 have HD:=χ (Nv hbk)
 have h12:=χ (hbk.cell 12)
 have wM:=χ (hbk.cell 13)
 have HB:=χ (ZR w (.cells #[.int .u8 2,.int .u8 r,l,s,p0,p1,p2,p3,p4,p5,p6,p7,p8,p9] 40))
 have HS:=χ hbk.lt
 rw[JK]at hv
 have HV:=χ hv
 have q0:decide ((r:Int)≥16)=false:=decide_eq_false (by omega)
 have q1:decide (l<0)=false:=decide_eq_false (by omega)
 have q2:decide (l>65535)=false:=decide_eq_false (by omega)
 have q3:decide (s<0)=false:=decide_eq_false (by omega)
 have q4:decide (s>3840)=false:=decide_eq_false (by omega)
 have q5:r<16:=hr
 clear hbk hv
 generalize ZP (⟨2,r,l,s,[p0,p1,p2,p3,p4,p5,p6,p7,p8,p9]⟩:ZC)=b at HV
 go_enter Tryz.func166,Tryz.ntmps166
 go_wp2
 generalize w.alloc (.cells #[.int .u8 2,.int .u8 r,l,s,p0,p1,p2,p3,p4,p5,p6,p7,p8,p9] 40)=W at*
 exact zp0
theorem GJ(r:Nat)(l s p0 p1 p2 p3 p4 p5 p6 p7 p8 p9:Int)(w:qad)(h:¬ r<16):
  qah Tryz.prog 166 #[.agg #[.int .u8 1,.int .u8 r,l,s,p0,p1,p2,p3,p4,p5,p6,p7,p8,p9]] w fun e w'=>e=.returned (.bool (ZP (⟨1,r,l,s,[p0,p1,p2,p3,p4,p5,p6,p7,p8,p9]⟩:ZC)))/\qaf w.heap.size w w':=by
 have HV:=χ (not_row (l:=l) (s:=s) (p:=[p0,p1,p2,p3,p4,p5,p6,p7,p8,p9]) (show 1≠0 by decide) h)
 exact zp9
theorem Ej(r:Nat)(l s p0 p1 p2 p3 p4 p5 p6 p7 p8 p9:Int)(w:qad)(hr:r<16)(h:l<0):
  qah Tryz.prog 166 #[.agg #[.int .u8 1,.int .u8 r,l,s,p0,p1,p2,p3,p4,p5,p6,p7,p8,p9]] w fun e w'=>e=.returned (.bool (ZP (⟨1,r,l,s,[p0,p1,p2,p3,p4,p5,p6,p7,p8,p9]⟩:ZC)))/\qaf w.heap.size w w':=by
 have HV:=χ (Lf (r:=r) (l:=l) (s:=s) (p:=[p0,p1,p2,p3,p4,p5,p6,p7,p8,p9]) (show 1≠0 by decide) (by simp[OD];omega))
 exact zp8
theorem Ei(r:Nat)(l s p0 p1 p2 p3 p4 p5 p6 p7 p8 p9:Int)(w:qad)(hr:r<16)(_:0<=l)(h:65535<l):
  qah Tryz.prog 166 #[.agg #[.int .u8 1,.int .u8 r,l,s,p0,p1,p2,p3,p4,p5,p6,p7,p8,p9]] w fun e w'=>e=.returned (.bool (ZP (⟨1,r,l,s,[p0,p1,p2,p3,p4,p5,p6,p7,p8,p9]⟩:ZC)))/\qaf w.heap.size w w':=by
 have HV:=χ (Lf (r:=r) (l:=l) (s:=s) (p:=[p0,p1,p2,p3,p4,p5,p6,p7,p8,p9]) (show 1≠0 by decide) (by simp[OD];omega))
 exact zp7
theorem Eh(r:Nat)(l s p0 p1 p2 p3 p4 p5 p6 p7 p8 p9:Int)(w:qad)(hr:r<16)(h0:0<=l)(h1:l<=65535)(h:s<0):
  qah Tryz.prog 166 #[.agg #[.int .u8 1,.int .u8 r,l,s,p0,p1,p2,p3,p4,p5,p6,p7,p8,p9]] w fun e w'=>e=.returned (.bool (ZP (⟨1,r,l,s,[p0,p1,p2,p3,p4,p5,p6,p7,p8,p9]⟩:ZC)))/\qaf w.heap.size w w':=by
 have HV:=χ (Le (r:=r) (l:=l) (s:=s) (p:=[p0,p1,p2,p3,p4,p5,p6,p7,p8,p9]) (show 1≠0 by decide) (by simp[OD];omega))
 exact zp6
theorem Eg(r:Nat)(l s p0 p1 p2 p3 p4 p5 p6 p7 p8 p9:Int)(w:qad)(hr:r<16)(h0:0<=l)(h1:l<=65535)(_:0<=s)(h:3840<s):
  qah Tryz.prog 166 #[.agg #[.int .u8 1,.int .u8 r,l,s,p0,p1,p2,p3,p4,p5,p6,p7,p8,p9]] w fun e w'=>e=.returned (.bool (ZP (⟨1,r,l,s,[p0,p1,p2,p3,p4,p5,p6,p7,p8,p9]⟩:ZC)))/\qaf w.heap.size w w':=by
 have HV:=χ (Le (r:=r) (l:=l) (s:=s) (p:=[p0,p1,p2,p3,p4,p5,p6,p7,p8,p9]) (show 1≠0 by decide) (by simp[OD];omega))
 exact zp5
theorem GI(r:Nat)(l s p0 p1 p2 p3 p4 p5 p6 p7 p8 p9:Int)(w:qad)(h:¬ r<16):
  qah Tryz.prog 166 #[.agg #[.int .u8 2,.int .u8 r,l,s,p0,p1,p2,p3,p4,p5,p6,p7,p8,p9]] w fun e w'=>e=.returned (.bool (ZP (⟨2,r,l,s,[p0,p1,p2,p3,p4,p5,p6,p7,p8,p9]⟩:ZC)))/\qaf w.heap.size w w':=by
 have HV:=χ (not_row (l:=l) (s:=s) (p:=[p0,p1,p2,p3,p4,p5,p6,p7,p8,p9]) (show 2≠0 by decide) h)
 exact zp9
theorem Ef(r:Nat)(l s p0 p1 p2 p3 p4 p5 p6 p7 p8 p9:Int)(w:qad)(hr:r<16)(h:l<0):
  qah Tryz.prog 166 #[.agg #[.int .u8 2,.int .u8 r,l,s,p0,p1,p2,p3,p4,p5,p6,p7,p8,p9]] w fun e w'=>e=.returned (.bool (ZP (⟨2,r,l,s,[p0,p1,p2,p3,p4,p5,p6,p7,p8,p9]⟩:ZC)))/\qaf w.heap.size w w':=by
 have HV:=χ (Lf (r:=r) (l:=l) (s:=s) (p:=[p0,p1,p2,p3,p4,p5,p6,p7,p8,p9]) (show 2≠0 by decide) (by simp[OD];omega))
 exact zp8
theorem Ee(r:Nat)(l s p0 p1 p2 p3 p4 p5 p6 p7 p8 p9:Int)(w:qad)(hr:r<16)(_:0<=l)(h:65535<l):
  qah Tryz.prog 166 #[.agg #[.int .u8 2,.int .u8 r,l,s,p0,p1,p2,p3,p4,p5,p6,p7,p8,p9]] w fun e w'=>e=.returned (.bool (ZP (⟨2,r,l,s,[p0,p1,p2,p3,p4,p5,p6,p7,p8,p9]⟩:ZC)))/\qaf w.heap.size w w':=by
 have HV:=χ (Lf (r:=r) (l:=l) (s:=s) (p:=[p0,p1,p2,p3,p4,p5,p6,p7,p8,p9]) (show 2≠0 by decide) (by simp[OD];omega))
 exact zp7
theorem Ed(r:Nat)(l s p0 p1 p2 p3 p4 p5 p6 p7 p8 p9:Int)(w:qad)(hr:r<16)(h0:0<=l)(h1:l<=65535)(h:s<0):
  qah Tryz.prog 166 #[.agg #[.int .u8 2,.int .u8 r,l,s,p0,p1,p2,p3,p4,p5,p6,p7,p8,p9]] w fun e w'=>e=.returned (.bool (ZP (⟨2,r,l,s,[p0,p1,p2,p3,p4,p5,p6,p7,p8,p9]⟩:ZC)))/\qaf w.heap.size w w':=by
 have HV:=χ (Le (r:=r) (l:=l) (s:=s) (p:=[p0,p1,p2,p3,p4,p5,p6,p7,p8,p9]) (show 2≠0 by decide) (by simp[OD];omega))
 exact zp6
theorem Ec(r:Nat)(l s p0 p1 p2 p3 p4 p5 p6 p7 p8 p9:Int)(w:qad)(hr:r<16)(h0:0<=l)(h1:l<=65535)(_:0<=s)(h:3840<s):
  qah Tryz.prog 166 #[.agg #[.int .u8 2,.int .u8 r,l,s,p0,p1,p2,p3,p4,p5,p6,p7,p8,p9]] w fun e w'=>e=.returned (.bool (ZP (⟨2,r,l,s,[p0,p1,p2,p3,p4,p5,p6,p7,p8,p9]⟩:ZC)))/\qaf w.heap.size w w':=by
 have HV:=χ (Le (r:=r) (l:=l) (s:=s) (p:=[p0,p1,p2,p3,p4,p5,p6,p7,p8,p9]) (show 2≠0 by decide) (by simp[OD];omega))
 exact zp5
theorem JJ(r:Nat)(l s p0 p1 p2 p3 p4 p5 p6 p7 p8 p9:Int)(w:qad)(he:∀W,(binOp .neq 40 (.agg #["",.int .u8 r,l,s,p0,p1,p2,p3,p4,p5,p6,p7,p8,p9]) (.agg #["","",(),(),(),(),(),(),(),(),(),(),(),()])).run Tryz.prog W=.ok (.bool true) W)(hv:ZP (⟨0,r,l,s,[p0,p1,p2,p3,p4,p5,p6,p7,p8,p9]⟩:ZC)=false):
  qah Tryz.prog 166 #[.agg #["",.int .u8 r,l,s,p0,p1,p2,p3,p4,p5,p6,p7,p8,p9]] w fun e w'=>e=.returned (.bool (ZP (⟨0,r,l,s,[p0,p1,p2,p3,p4,p5,p6,p7,p8,p9]⟩:ZC)))/\qaf w.heap.size w w':=by
 have HV:=χ (hv)
 have hg:∀(x y:Operand)(xs ys:Array qai)(op:BinOp)(W:qad),(eqGuard op 40 x y (.agg xs) (.agg ys)).run Tryz.prog W=.ok () W:=fun x y xs ys op W=>RG W x y xs ys op
 exact zp10
theorem JI(r:Nat)(l s p0 p1 p2 p3 p4 p5 p6 p7 p8 p9:Int)(w:qad)(k:Nat)(h:2<k):
  qah Tryz.prog 166 #[.agg #[.int .u8 k,.int .u8 r,l,s,p0,p1,p2,p3,p4,p5,p6,p7,p8,p9]] w fun e w'=>e=.returned (.bool (ZP (⟨k,r,l,s,[p0,p1,p2,p3,p4,p5,p6,p7,p8,p9]⟩:ZC)))/\qaf w.heap.size w w':=by
 have HV:=χ (GH (r:=r) (l:=l) (s:=s) (p:=[p0,p1,p2,p3,p4,p5,p6,p7,p8,p9]) h)
 have q0:decide ((k:Int)>2)=true:=decide_eq_true (by omega)
 exact zp10
theorem Eb(k r:Nat)(l s p0 p1 p2 p3 p4 p5 p6 p7 p8 p9:Int)(w:qad)(hr:r<256):
  qah Tryz.prog 166 #[.agg #[.int .u8 k,.int .u8 r,l,s,p0,p1,p2,p3,p4,p5,p6,p7,p8,p9]] w fun e w'=>e=.returned (.bool (ZP (⟨k,r,l,s,[p0,p1,p2,p3,p4,p5,p6,p7,p8,p9]⟩:ZC)))/\qaf w.heap.size w w':=by
 by_cases h2:2<k
 ·exact JI r l s p0 p1 p2 p3 p4 p5 p6 p7 p8 p9 w k h2
 by_cases h0:k=0
 ·subst h0
  have hz:∀W,(binOp .neq 40 (.agg #["",.int .u8 r,l,s,p0,p1,p2,p3,p4,p5,p6,p7,p8,p9]) (.agg #["","",(),(),(),(),(),(),(),(),(),(),(),()])).run Tryz.prog W=.ok (.bool (!Sj ((⟨0,r,l,s,[p0,p1,p2,p3,p4,p5,p6,p7,p8,p9]⟩:ZC)=.z))) W:=fun W=>mq W (⟨0,r,l,s,[p0,p1,p2,p3,p4,p5,p6,p7,p8,p9]⟩:ZC) .z ⟨rfl,show 0<256 by decide,hr⟩ YP.z
  by_cases h:(⟨0,r,l,s,[p0,p1,p2,p3,p4,p5,p6,p7,p8,p9]⟩:ZC)=.z
  ·rw[VD h]at hz
   have hv:ZP (⟨0,r,l,s,[p0,p1,p2,p3,p4,p5,p6,p7,p8,p9]⟩:ZC)=[p0,p1,p2,p3,p4,p5,p6,p7,p8,p9].all X5:=by
    rw[ZW (.inl h)]
    have e:[p0,p1,p2,p3,p4,p5,p6,p7,p8,p9]=[0,0,0,0,0,0,0,0,0,0]:=congrArg ZC.p h
    rw[e]
    rfl
   have e1:r=0:=congrArg ZC.r h
   have e2:l=0:=congrArg ZC.l h
   have e3:s=0:=congrArg ZC.s h
   exact En r l s p0 p1 p2 p3 p4 p5 p6 p7 p8 p9 w (by omega) (by omega) (by omega) (by omega) (by omega) hv hz
  ·rw[WO h]at hz
   exact JJ r l s p0 p1 p2 p3 p4 p5 p6 p7 p8 p9 w hz (by rw[Bw];exact WO h)
 have hk:k=1\/k=2:=by omega
 by_cases hrow:r<16
 rotate_left
 ·rcases hk with rfl|rfl
  ·exact GJ r l s p0 p1 p2 p3 p4 p5 p6 p7 p8 p9 w hrow
  ·exact GI r l s p0 p1 p2 p3 p4 p5 p6 p7 p8 p9 w hrow
 by_cases l0:0<=l
 rotate_left
 ·rcases hk with rfl|rfl
  ·exact Ej r l s p0 p1 p2 p3 p4 p5 p6 p7 p8 p9 w hrow (by omega)
  ·exact Ef r l s p0 p1 p2 p3 p4 p5 p6 p7 p8 p9 w hrow (by omega)
 by_cases l1:l<=65535
 rotate_left
 ·rcases hk with rfl|rfl
  ·exact Ei r l s p0 p1 p2 p3 p4 p5 p6 p7 p8 p9 w hrow l0 (by omega)
  ·exact Ee r l s p0 p1 p2 p3 p4 p5 p6 p7 p8 p9 w hrow l0 (by omega)
 by_cases s0:0<=s
 rotate_left
 ·rcases hk with rfl|rfl
  ·exact Eh r l s p0 p1 p2 p3 p4 p5 p6 p7 p8 p9 w hrow l0 l1 (by omega)
  ·exact Ed r l s p0 p1 p2 p3 p4 p5 p6 p7 p8 p9 w hrow l0 l1 (by omega)
 by_cases s1:s<=3840
 rotate_left
 ·rcases hk with rfl|rfl
  ·exact Eg r l s p0 p1 p2 p3 p4 p5 p6 p7 p8 p9 w hrow l0 l1 s0 (by omega)
  ·exact Ec r l s p0 p1 p2 p3 p4 p5 p6 p7 p8 p9 w hrow l0 l1 s0 (by omega)
 have hv:=Ea (p:=[p0,p1,p2,p3,p4,p5,p6,p7,p8,p9]) hk hrow (UZ.2 ⟨l0,l1⟩) (UZ.2 ⟨s0,s1⟩)
 rcases hk with rfl|rfl
 ·exact Em r l s p0 p1 p2 p3 p4 p5 p6 p7 p8 p9 w hrow l0 l1 s0 s1 hv
 ·exact El r l s p0 p1 p2 p3 p4 p5 p6 p7 p8 p9 w hrow l0 l1 s0 s1 hv
theorem XL(n:ZC)(ho:YP n)(w:qad):qah Tryz.prog 111 #[Mg n] w fun e w'=>e=.returned (.bool (ZP n))/\qaf w.heap.size w w':=by
 obtain⟨k,r,l,s,p⟩:=n
 obtain⟨p0,p1,p2,p3,p4,p5,p6,p7,p8,p9,hp⟩:=Xh ho.len
 simp only at hp
 subst hp
 exact PX k r l s p0 p1 p2 p3 p4 p5 p6 p7 p8 p9 w ho.k ho.r
theorem Xv(n:ZC)(ho:YP n)(w:qad):qah Tryz.prog 166 #[Mg n] w fun e w'=>e=.returned (.bool (ZP n))/\qaf w.heap.size w w':=by
 obtain⟨k,r,l,s,p⟩:=n
 obtain⟨p0,p1,p2,p3,p4,p5,p6,p7,p8,p9,hp⟩:=Xh ho.len
 simp only at hp
 subst hp
 exact Eb k r l s p0 p1 p2 p3 p4 p5 p6 p7 p8 p9 w ho.r
end Go.Proofs.YtmehhgfbnfbnaaaGreat.Z9
