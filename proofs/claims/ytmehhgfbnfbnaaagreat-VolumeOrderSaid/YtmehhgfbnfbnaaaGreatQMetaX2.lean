import Derived.Test.YtmehhgfbnfbnaaaGreatQMetaX1
import Derived.Test.YtmehhgfbnfbnaaaGreatQTk
set_option maxRecDepth 100000
set_option maxHeartbeats 25600000
open Bool renaming not_eq_true'->qaa
open Go.RowKit renaming Below->qab
namespace Go.Proofs.YtmehhgfbnfbnaaaGreat
theorem zS0{P:Prop}(h:P:=by
 go_enter Tryz.func134,Tryz.ntmps134
 go_upto_region 1 with fail
 rw[<-HW.out]
 go_wp2_with (first|(go_at_call 129;(with_reducible refine(HV.out _).mono ?_);rintro e w1 ⟨he,hbx⟩;obtain rfl:=he;have hb:=hbx.below;clear g0 g1 g2 g3 m0 m1 m2 m3;replace HG:=χ (HG.out.below hb HG.out.lt);replace HM:=χ (HM.out.below hb HM.out.lt);replace HB:=χ (HB.out.trans (hb.mono HB.out.size));obtain⟨g0,g1,g2,g3⟩:=Z7 HG.out;obtain⟨m0,m1,m2,m3⟩:=Z7 HM.out;clear hb hbx)|(go_at_call 38;(with_reducible refine(HR.out _ HB.out).mono ?_);rintro e w2 ⟨he,hb⟩;obtain rfl:=he;clear g0 g1 g2 g3 m0 m1 m2 m3;replace HG:=χ (HG.out.below hb HG.out.lt);replace HM:=χ (HM.out.below hb HM.out.lt);replace HB:=χ (HB.out.trans (hb.mono HB.out.size));obtain⟨g0,g1,g2,g3⟩:=Z7 HG.out;obtain⟨m0,m1,m2,m3⟩:=Z7 HM.out;clear hb)|(go_at_call 206;(with_reducible refine(HO.out _ HB.out).mono ?_);rintro e w3 ⟨he,hb⟩;obtain rfl:=he;clear g0 g1 g2 g3 m0 m1 m2 m3;replace HG:=χ (HG.out.below hb HG.out.lt);replace HM:=χ (HM.out.below hb HM.out.lt);replace HB:=χ (HB.out.trans (hb.mono HB.out.size));obtain⟨g0,g1,g2,g3⟩:=Z7 HG.out;obtain⟨m0,m1,m2,m3⟩:=Z7 HM.out;clear hb)|(go_at_call 207;(with_reducible refine(HU.out _ HB.out).mono ?_);rintro e w4 ⟨he,hb⟩;obtain rfl:=he;clear g0 g1 g2 g3 m0 m1 m2 m3;replace HG:=χ (HG.out.below hb HG.out.lt);replace HM:=χ (HM.out.below hb HM.out.lt);replace HB:=χ (HB.out.trans (hb.mono HB.out.size));obtain⟨g0,g1,g2,g3⟩:=Z7 HG.out;obtain⟨m0,m1,m2,m3⟩:=Z7 HM.out;clear hb)|(go_at_call 208;(with_reducible refine(HI.out _ HB.out).mono ?_);rintro e w5 ⟨he,hb⟩;obtain rfl:=he;clear g0 g1 g2 g3 m0 m1 m2 m3;replace HG:=χ (HG.out.below hb HG.out.lt);replace HM:=χ (HM.out.below hb HM.out.lt);replace HB:=χ (HB.out.trans (hb.mono HB.out.size));obtain⟨g0,g1,g2,g3⟩:=Z7 HG.out;obtain⟨m0,m1,m2,m3⟩:=Z7 HM.out;clear hb))
 go_ret
 exact⟨Tq HP.out,HB.out⟩):P:=h
end Go.Proofs.YtmehhgfbnfbnaaaGreat
namespace Go.Proofs.YtmehhgfbnfbnaaaGreat.Meta
open Go.Proofs.YtmehhgfbnfbnaaaGreat
open Go.RowKit
theorem KW{l:List UInt8}(hl:l.length=64){x:Int}:beyond l x=false↔∀k:Nat,x<=(k:Int)->k<512->Bits.hb l k=false:=by
 unfold beyond
 constructor
 ·intro h k h1 h2
  cases hk:Bits.hb l k with
  |false=>rfl
  |true=>
   rw[Option.isSome_eq_false_iff,Option.isNone_iff_eq_none]at h
   simp only[Bits.fst,List.find?_eq_none,List.mem_range]at h
   have:=h k (by omega)
   rw[Bits.DR h1 (by omega),hk]at this
   exact absurd rfl this
 ·intro h
  rw[Bits.sN]
  ·rfl
  ·intro k hk
   by_cases h1:x<=(k:Int)
   ·rw[Bits.DR h1 (by omega),h k h1 (by omega)]
    rfl
   ·exact Bits.rV h1
theorem Ba{l:List Int}:l.any UM=false↔∀x∈l,0<=x/\x<=16:=by
 rw[List.any_eq_false]
 constructor
 ·intro h x hx
  have:=h x hx
  simp only[UM,Bool.or_eq_true,decide_eq_true_eq,not_or]at this
  omega
 ·intro h x hx
  have:=h x hx
  simp only[UM,Bool.or_eq_true,decide_eq_true_eq,not_or]
  omega
theorem AZ{l:List Z9.ZC}:l.any TM=false↔∀n∈l,Z9.Right n:=by
 rw[List.any_eq_false]
 constructor
 ·intro h x hx
  have:=h x hx
  simp only[TM,qaa,Bool.not_eq_false]at this
  exact zB x this
 ·intro h x hx
  simp only[TM,qaa,Bool.not_eq_false]
  exact Z9.ZW (h x hx)
theorem FK{G:Geo}(h:G.Ok)(m:Met):ZP G m=(Z8.ZP m.rows&&(((m.own.length:Int)==G.g)&& !m.own.any UM)&&(((m.used.length:Int)==64)&& !beyond m.used (G.g*G.p))&&(((m.ino.length:Int)==G.i)&& !m.ino.any TM)):=by
 by_cases hR:Right G m
 ·rw[ZW hR,Z8.ZW hR.rows,Ba.2 hR.own,AZ.2 hR.ino,(KW hR.NY).2 hR.used]
  simp[hR.OV,hR.NY,hR.Sk]
 ·rw[ZN hR]
  symm
  rw[<-Bool.not_eq_true]
  intro hb
  simp only[Bool.and_eq_true,beq_iff_eq,qaa]at hb
  obtain⟨⟨⟨h1,h2,h3⟩,h4,h5⟩,h6,h7⟩:=hb
  have h4':m.used.length=64:=by omega
  exact hR ⟨h,zA _ h1,h2,Ba.1 h3,h4',(KW h4').1 h5,h6,AZ.1 h7⟩
theorem FP(j i g p:Int)(m:Met)(ho:Rc m)(rA oA uA iA:Option Addr)(rn rc Xe oc un uc Xg ic:Nat)(w:World)(hrn:m.rows.length=rn)(hon:m.own.length=Xe)(hun:m.used.length=un)(hin:m.ino.length=Xg)
  (hl:Wv w w.heap.size ⟨rA,rc,oA,oc,uA,uc,iA,ic⟩ m)(hs:Xe<=1000000/\un<=1000000/\Xg<=1000000):
  Calls Tryz.prog 134 #[.agg #[j,i,g,p],.agg #[.slice rA rn rc,.slice oA Xe oc,.slice uA un uc,.slice iA Xg ic]] w fun e w'=>e=.returned (.bool (ZP ⟨j,i,g,p⟩ m))/\qab w.heap.size w w':=by
 have HL:=χ hl
 obtain⟨W,hW⟩:∃W,W=(w.alloc (.cells #[j,i,g,p] 29)).alloc (.cells #[.slice rA rn rc,.slice oA Xe oc,.slice uA un uc,.slice iA Xg ic] 60):=⟨_,rfl⟩
 have hbW:qab w.heap.size w W:=by rw[hW];exact(qab.refl _ _).alloc (Nat.le_refl _) _|>.alloc (by simp) _
 have hG:Bk W w.heap.size 29 [j,i,g,p]:=by rw[hW];exact(Bk.new w 29 [j,i,g,p]).below ((qab.refl _ _).alloc (Nat.le_refl _) _) (by simp)
 have hM:Bk W (w.heap.size+1) 60 [.slice rA rn rc,.slice oA Xe oc,.slice uA un uc,.slice iA Xg ic]:=by
  rw[hW]
  have:=Bk.new (w.alloc (.cells #[j,i,g,p] 29)) 60 [.slice rA rn rc,.slice oA Xe oc,.slice uA un uc,.slice iA Xg ic]
  simpa using this
 have HG:=χ hG
 have HM:=χ hM
 have HB:=χ hbW
 have HW:=χ hW
 obtain⟨g0,g1,g2,g3⟩:=Z7 HG.out
 obtain⟨m0,m1,m2,m3⟩:=Z7 HM.out
 clear hl hbW hG hM hW
 by_cases hv:ZG.Valid j i g p
 rotate_left
 ·have HN:Hid (ZP ⟨j,i,g,p⟩ m=false):=χ (ny hv)
  have HV:Hid (∀u:World,Calls Tryz.prog 129 #[.agg #[j,i,g,p]] u fun e w'=>e=.returned (.bool false)/\ZG.Boxed u j i g p w'):=χ (fun u=>ZG.GK hv u)
  clear hv hrn hon hun hin
  go_enter Tryz.func134,Tryz.ntmps134
  go_upto_region 1 with fail
  rw[<-HW.out]
  go_wp2_with (go_at_call 129;(with_reducible refine(HV.out _).mono ?_);rintro e w1 ⟨he,hbx⟩;obtain rfl:=he;have hb:=hbx.below;replace HB:=χ (HB.out.trans (hb.mono HB.out.size));clear hb hbx)
  go_ret
  exact⟨Tq HN.out,HB.out⟩
 have acw:=hv.gF
 have aa':=hv.gp
 have hp:ZP ⟨j,i,g,p⟩ m=_:=FK (G:=⟨j,i,g,p⟩) hv m
 have HV:Hid (∀u:World,Calls Tryz.prog 129 #[.agg #[j,i,g,p]] u fun e w'=>e=.returned (.bool true)/\ZG.Boxed u j i g p w'):=χ (fun u=>ZG.Wq hv u)
 have HR:Hid (∀u:World,qab w.heap.size w u->Calls Tryz.prog 38 #[.slice rA rn rc] u fun e w'=>e=.returned (.bool (Z8.ZP m.rows))/\qab u.heap.size u w'):=χ (fun u hu=>Z8.Zb m.rows rA rn rc u hrn ((HL.out.rows.below hu).more hu.size))
 have HO:Hid (∀u:World,qab w.heap.size w u->Calls Tryz.prog 206 #[.agg #[j,i,g,p],.slice oA Xe oc] u fun e w'=>e=.returned (.bool (((Xe:Int)==g)&& !m.own.any UM))/\qab u.heap.size u w'):=χ (fun u hu=>DX j i g p m.own oA Xe oc u hon ((HL.out.own.below hu).more hu.size) hs.1)
 have HU:Hid (∀u:World,qab w.heap.size w u->Calls Tryz.prog 207 #[.agg #[j,i,g,p],.slice uA un uc] u fun e w'=>e=.returned (.bool (((un:Int)==64)&& !beyond m.used (g*p)))/\qab u.heap.size u w'):=χ (fun u hu=>Gr j i g p (by omega) aa' m.used uA un uc u hun ((HL.out.used.below hu).more hu.size) hs.2.1)
 have HI:Hid (∀u:World,qab w.heap.size w u->Calls Tryz.prog 208 #[.agg #[j,i,g,p],.slice iA Xg ic] u fun e w'=>e=.returned (.bool (((Xg:Int)==i)&& !m.ino.any TM))/\qab u.heap.size u w'):=χ (fun u hu=>DV j i g p m.ino ho.ino iA Xg ic u hin ((HL.out.ino.below hu).more hu.size) hs.2.2)
 simp only[hon,hun,hin]at hp
 generalize ZP ⟨j,i,g,p⟩ m=res at*
 generalize Z8.ZP m.rows=rb at*
 generalize (((Xe:Int)==g)&& !m.own.any UM)=ob at*
 generalize (((un:Int)==64)&& !beyond m.used (g*p))=ub at*
 generalize (((Xg:Int)==i)&& !m.ino.any TM)=ib at*
 clear hv acw aa' hrn hon hun hin
 have HP:=χ hp
 clear hp
 cases rb
 ·go_enter Tryz.func134,Tryz.ntmps134
  go_upto_region 1 with fail
  rw[<-HW.out]
  go_wp2_with (first|(go_at_call 129;(with_reducible refine(HV.out _).mono ?_);rintro e w1 ⟨he,hbx⟩;obtain rfl:=he;have hb:=hbx.below;clear g0 g1 g2 g3 m0 m1 m2 m3;replace HG:=χ (HG.out.below hb HG.out.lt);replace HM:=χ (HM.out.below hb HM.out.lt);replace HB:=χ (HB.out.trans (hb.mono HB.out.size));obtain⟨g0,g1,g2,g3⟩:=Z7 HG.out;obtain⟨m0,m1,m2,m3⟩:=Z7 HM.out;clear hb hbx)|(go_at_call 38;(with_reducible refine(HR.out _ HB.out).mono ?_);rintro e w2 ⟨he,hb⟩;obtain rfl:=he;clear g0 g1 g2 g3 m0 m1 m2 m3;replace HG:=χ (HG.out.below hb HG.out.lt);replace HM:=χ (HM.out.below hb HM.out.lt);replace HB:=χ (HB.out.trans (hb.mono HB.out.size));obtain⟨g0,g1,g2,g3⟩:=Z7 HG.out;obtain⟨m0,m1,m2,m3⟩:=Z7 HM.out;clear hb))
  go_ret
  exact⟨Tq HP.out,HB.out⟩
 cases ob
 ·go_enter Tryz.func134,Tryz.ntmps134
  go_upto_region 1 with fail
  rw[<-HW.out]
  go_wp2_with (first|(go_at_call 129;(with_reducible refine(HV.out _).mono ?_);rintro e w1 ⟨he,hbx⟩;obtain rfl:=he;have hb:=hbx.below;clear g0 g1 g2 g3 m0 m1 m2 m3;replace HG:=χ (HG.out.below hb HG.out.lt);replace HM:=χ (HM.out.below hb HM.out.lt);replace HB:=χ (HB.out.trans (hb.mono HB.out.size));obtain⟨g0,g1,g2,g3⟩:=Z7 HG.out;obtain⟨m0,m1,m2,m3⟩:=Z7 HM.out;clear hb hbx)|(go_at_call 38;(with_reducible refine(HR.out _ HB.out).mono ?_);rintro e w2 ⟨he,hb⟩;obtain rfl:=he;clear g0 g1 g2 g3 m0 m1 m2 m3;replace HG:=χ (HG.out.below hb HG.out.lt);replace HM:=χ (HM.out.below hb HM.out.lt);replace HB:=χ (HB.out.trans (hb.mono HB.out.size));obtain⟨g0,g1,g2,g3⟩:=Z7 HG.out;obtain⟨m0,m1,m2,m3⟩:=Z7 HM.out;clear hb)|(go_at_call 206;(with_reducible refine(HO.out _ HB.out).mono ?_);rintro e w3 ⟨he,hb⟩;obtain rfl:=he;clear g0 g1 g2 g3 m0 m1 m2 m3;replace HG:=χ (HG.out.below hb HG.out.lt);replace HM:=χ (HM.out.below hb HM.out.lt);replace HB:=χ (HB.out.trans (hb.mono HB.out.size));obtain⟨g0,g1,g2,g3⟩:=Z7 HG.out;obtain⟨m0,m1,m2,m3⟩:=Z7 HM.out;clear hb))
  go_ret
  exact⟨Tq HP.out,HB.out⟩
 cases ub
 ·go_enter Tryz.func134,Tryz.ntmps134
  go_upto_region 1 with fail
  rw[<-HW.out]
  go_wp2_with (first|(go_at_call 129;(with_reducible refine(HV.out _).mono ?_);rintro e w1 ⟨he,hbx⟩;obtain rfl:=he;have hb:=hbx.below;clear g0 g1 g2 g3 m0 m1 m2 m3;replace HG:=χ (HG.out.below hb HG.out.lt);replace HM:=χ (HM.out.below hb HM.out.lt);replace HB:=χ (HB.out.trans (hb.mono HB.out.size));obtain⟨g0,g1,g2,g3⟩:=Z7 HG.out;obtain⟨m0,m1,m2,m3⟩:=Z7 HM.out;clear hb hbx)|(go_at_call 38;(with_reducible refine(HR.out _ HB.out).mono ?_);rintro e w2 ⟨he,hb⟩;obtain rfl:=he;clear g0 g1 g2 g3 m0 m1 m2 m3;replace HG:=χ (HG.out.below hb HG.out.lt);replace HM:=χ (HM.out.below hb HM.out.lt);replace HB:=χ (HB.out.trans (hb.mono HB.out.size));obtain⟨g0,g1,g2,g3⟩:=Z7 HG.out;obtain⟨m0,m1,m2,m3⟩:=Z7 HM.out;clear hb)|(go_at_call 206;(with_reducible refine(HO.out _ HB.out).mono ?_);rintro e w3 ⟨he,hb⟩;obtain rfl:=he;clear g0 g1 g2 g3 m0 m1 m2 m3;replace HG:=χ (HG.out.below hb HG.out.lt);replace HM:=χ (HM.out.below hb HM.out.lt);replace HB:=χ (HB.out.trans (hb.mono HB.out.size));obtain⟨g0,g1,g2,g3⟩:=Z7 HG.out;obtain⟨m0,m1,m2,m3⟩:=Z7 HM.out;clear hb)|(go_at_call 207;(with_reducible refine(HU.out _ HB.out).mono ?_);rintro e w4 ⟨he,hb⟩;obtain rfl:=he;clear g0 g1 g2 g3 m0 m1 m2 m3;replace HG:=χ (HG.out.below hb HG.out.lt);replace HM:=χ (HM.out.below hb HM.out.lt);replace HB:=χ (HB.out.trans (hb.mono HB.out.size));obtain⟨g0,g1,g2,g3⟩:=Z7 HG.out;obtain⟨m0,m1,m2,m3⟩:=Z7 HM.out;clear hb))
  go_ret
  exact⟨Tq HP.out,HB.out⟩
 cases ib
 ·exact zS0
 exact zS0
theorem XL(G:Geo)(m:Met)(ho:Rc m)(x:Mem)(w:World)(hl:Wv w w.heap.size x m)(hs:m.own.length<=1000000/\m.used.length<=1000000/\m.ino.length<=1000000):
  Calls Tryz.prog 134 #[.agg #[G.j,G.i,G.g,G.p],x.v m] w fun e w'=>e=.returned (.bool (ZP G m))/\qab w.heap.size w w':=
 FP G.j G.i G.g G.p m ho x.rA x.oA x.uA x.iA _ x.rc _ x.oc _ x.uc _ x.ic w rfl rfl rfl rfl hl hs
end Go.Proofs.YtmehhgfbnfbnaaaGreat.Meta
