import Derived.Test.YtmehhgfbnfbnaaaGreatQVolH
import Derived.Test.YtmehhgfbnfbnaaaGreatQMetaU
import Derived.Test.YtmehhgfbnfbnaaaGreatQTk
import Derived.Test.YtmehhgfbnfbnaaaGreatQInodeA
set_option maxRecDepth 100000
set_option maxHeartbeats 25600000
open List renaming setIfInBounds_toArray->qaa,set_cons_zero->qab,set_cons_succ->qac,mem_of_getElem?->qag,getElem?_eq_some_iff->qan
open Go.Act renaming put->qad
open Go renaming Calls->qae,World->qaf,wpList_load_mid->qah,all_oneCell_toArray->qal,Value->qam
open Go.RowKit renaming Hid->qai,Below->qaj
open Nat renaming zero_add->qak,add_zero->qap
open Go.RowKit.Below renaming refl->qao
namespace Go.Proofs.YtmehhgfbnfbnaaaGreat
theorem zwq0{P:Prop}(h:P:=by
 generalize Z9.ZX od=cy at*
 generalize od.k=ok at*
 generalize od.r=or at*
 go_enter Tryz.func45,Tryz.ntmps45
 go_upto_region 1 with fail
 generalize w.alloc (.cells #[.int .u8 k,.int .u8 rr,l,s,p0,p1,p2,p3,p4,p5,p6,p7,p8,p9] 40)=U at*
 obtain⟨z0,z1,z2,z3,z4,z5,z6,z7,z8,z9,YJ,YI,z12,XE⟩:=ZY Zk.out
 go_upto_region 7 with(first|(refine qah rfl 40 (.tmp 34) rfl bi (a*14) rfl cy _ (Ro.out _ (HV.out.below HB.out)) Tryz.underlying40 rfl dw.out ?_)|(go_at_call 90;go_must (with_reducible refine HH.out.mono ?_);rintro e w1 ⟨he,hb⟩;obtain rfl:=he;subst hb)|(go_at_call 111;go_must (with_reducible refine(HR.out _).mono ?_);rintro e w2 ⟨he,hb⟩;obtain rfl:=he;replace HB:=χ (HB.out.trans (hb.mono HB.out.size));replace Zk:=χ (Zk.out.below hb Zk.out.lt);clear hb;clear z0 z1 z2 z3 z4 z5 z6 z7 z8 z9 YJ YI z12 XE;obtain⟨z0,z1,z2,z3,z4,z5,z6,z7,z8,z9,YJ,YI,z12,XE⟩:=ZY Zk.out;clear c0 c1 c2 c3 c4;obtain⟨c0,c1,c2,c3,c4⟩:=(HV.out.below HB.out).vs.cells;rw[Wz.out]at c3)|(go_at_call 91;(with_reducible refine(HF.out _).mono ?_);rintro e w3 ⟨he,hb⟩;obtain rfl:=he;replace HB:=χ (HB.out.trans (hb.mono HB.out.size));replace Zk:=χ (Zk.out.below hb Zk.out.lt);clear hb;clear z0 z1 z2 z3 z4 z5 z6 z7 z8 z9 YJ YI z12 XE;obtain⟨z0,z1,z2,z3,z4,z5,z6,z7,z8,z9,YJ,YI,z12,XE⟩:=ZY Zk.out;clear c0 c1 c2 c3 c4;obtain⟨c0,c1,c2,c3,c4⟩:=(HV.out.below HB.out).vs.cells;rw[Wz.out]at c3)|(go_at_call 91;go_must (with_reducible refine(HO.out _).mono ?_);rintro e w4 ⟨he,hb⟩;obtain rfl:=he;replace HB:=χ (HB.out.trans (hb.mono HB.out.size));replace Zk:=χ (Zk.out.below hb Zk.out.lt);clear hb;clear z0 z1 z2 z3 z4 z5 z6 z7 z8 z9 YJ YI z12 XE;obtain⟨z0,z1,z2,z3,z4,z5,z6,z7,z8,z9,YJ,YI,z12,XE⟩:=ZY Zk.out;clear c0 c1 c2 c3 c4;obtain⟨c0,c1,c2,c3,c4⟩:=(HV.out.below HB.out).vs.cells;rw[Wz.out]at c3))
 have y0:=Ro.out _ (HV.out.below HB.out) 0 _ EY.out.1
 have y1:=Ro.out _ (HV.out.below HB.out) 1 _ EY.out.2
 simp only[qap]at y0
 go_quiet (fail)
 go_wp2
 go_ret
 exact⟨rfl,(HV.out.below HB.out).below (below_drewN (qao _ _) nq)⟩):P:=h
theorem zwq1{P:Prop}(h:P:=by
 (intro u hu;obtain⟨hv,Yr⟩:=hu;obtain⟨c0,c1,c2,c3,c4⟩:=hv.vs.cells;have q1:=Yr.cell 1;rw[VF.out]at q1;have q2:=HRW.out _ hv;rw[HA2.out]at c0;rw[xG.out]at c0;clear hv Yr c1 c2 c3 c4;go_simp<;>with_reducible rfl)):P:=h
theorem zwq2{P:Prop}(h:P:=by
 (rintro u ⟨c3,Yr⟩;clear Yr;go_simp<;>with_reducible rfl)):P:=h
theorem zwq3{P:Prop}(h:P:=by
 go_ret
 exact⟨rfl,HV.out.below HB.out⟩):P:=h
end Go.Proofs.YtmehhgfbnfbnaaaGreat
namespace Go.Proofs.YtmehhgfbnfbnaaaGreat.Zl
open Go.RowKit Zq Meta
section
variable {e:TypeId}{xs cx:List qam}{g:Nat}{u w:qaf}
theorem QA{gi:Nat}(hne:g≠gi)(vs:List qam)(o:Nat)(h:Bk w g e xs):Bk (w.setCells gi o vs) g e xs:=(ZJ gi vs o w g hne).trans h
theorem Qn(cx:List qam)(h:cx.length=14):(Tryz.prog.info? 40).map (·.size)=some cx.toArray.size:=by
 rw[List.size_toArray,h]
 exact Y9
theorem Oj(vs:List qam)(hx:xs.length=14)(hv:vs.length=14):Bk ((w.alloc (.cells xs.toArray e)).setCells w.heap.size 0 vs) w.heap.size e vs:=by
 match xs,hx with
 |[a0,a1,a2,a3,a4,a5,a6,a7,a8,a9,R9,R8,a12,R7],_=>
  match vs,hv with
  |[v0,v1,v2,v3,v4,v5,v6,v7,v8,v9,v10,v11,v12,v13],_=>exact AU (Bk.new w e [a0,a1,a2,a3,a4,a5,a6,a7,a8,a9,R9,R8,a12,R7]) v0 v1 v2 v3 v4 v5 v6 v7 v8 v9 v10 v11 v12 v13
theorem FI(h:Bk u g e xs)(hx:xs.length=14)(vs:List qam)(hv:vs.length=14):Bk (u.setCells g 0 vs) g e vs:=by
 match xs,hx with
 |[a0,a1,a2,a3,a4,a5,a6,a7,a8,a9,R9,R8,a12,R7],_=>
  match vs,hv with
  |[v0,v1,v2,v3,v4,v5,v6,v7,v8,v9,v10,v11,v12,v13],_=>exact AU h v0 v1 v2 v3 v4 v5 v6 v7 v8 v9 v10 v11 v12 v13
theorem MR(h:Bk u g e xs)(hx:xs.length=14):u.there g 0 14:=by
 match xs,hx with
 |[a0,a1,a2,a3,a4,a5,a6,a7,a8,a9,R9,R8,a12,R7],_=>exact Jc h
theorem TF(w:qaf)(hx:xs.length=14)(hc:cx.length=14):(w.alloc (.cells xs.toArray e)).there w.heap.size 0 cx.toArray.size:=by
 rw[show cx.toArray.size=14 by simp[hc]]
 exact MR (Bk.new w e xs) hx
theorem MQ(h:Bk u g e xs)(hx:xs.length=14)(hc:cx.length=14):u.there g 0 cx.toArray.size:=by
 rw[show cx.toArray.size=14 by simp[hc]]
 exact MR h hx
theorem Yo(h:Bk u g e xs):u.rangeAt g 0 xs:=fun j v hj=>by rw[qak,h.cell j];exact hj
theorem qm{j i pp:Nat}{P:Nat->Prop}{w0:qaf}{bv bm b bj c:Nat}{x:Meta.Mem}{m:Meta.Met}{be:qam}{A:Option Addr}{dead:Bool}{at_:Int->Sx}{there:Int->Bool}{n:Nat}(h:VM P w0 w bv bm x m (ZZ j i g pp b bj be A c dead) at_ there n)(a:Nat)(nd:Z9.ZC)(y:Z8.Rw)(ha:m.ino[a]? =some nd)(hk:nd.k≠0)(hy:m.rows[nd.r]? =some y)(hrl:m.rows.length=16)(ho:∀y∈m.ino,Z9.YP y)(hl:m.ino.length<=64):
  qae Tryz.prog 28 #[.pointer bv,a] w fun e w'=>e=.returned (.tuple #[.agg (Z9.ZX nd).toArray,.int .u16 y.lab,()])/\VM P w0 w' bv bm x m (ZZ j i g pp b bj be A c dead) at_ there n:=by
 have hb:=Bk.new w 40 ["","",(),(),(),(),(),(),(),(),(),(),(),()]
 have hal:=Z0 w (.cells #["","",(),(),(),(),(),(),(),(),(),(),(),()] 40)
 have hv:=h.below hal
 have HV:=χ h
 have Zk:=χ hb
 have HB:=χ hal
 have xG:=χ hrl
 have halt:=(qan.1 ha).1
 have dD:=(qan.1 hy).1
 have hon:=ho nd (qag ha)
 have HH:qai (qae Tryz.prog 90 #[.pointer bv,a] (w.alloc (.cells #["","",(),(),(),(),(),(),(),(),(),(),(),()] 40)) fun e w'=>e=.returned (.bool true)/\w.alloc (.cells #["","",(),(),(),(),(),(),(),(),(),(),(),()] 40)=w'):=χ (by
  have:=UJ hv.vs (a:Int)
  rwa[decide_eq_true ⟨by omega,by omega⟩]at this)
 have HF:qai (∀u:qaf,qae Tryz.prog 91 #[.agg (Z9.ZX nd).toArray] u fun e w'=>e=.returned (.bool false)/\qaj u.heap.size u w'):=χ (fun u=>by
  have:=YO nd hon u
  rwa[show(nd.k==0)=false by simp[hk]]at this)
 obtain⟨c0,c1,c2,c3,c4⟩:=hv.vs.cells
 have X6:=hv.vs.met.lies.ino
 obtain⟨bi,oi,hA,-⟩:=YU X6 (by rw[Y8 ho];omega)
 have Wz:=χ hA
 rw[hA]at X6 c3
 have Mw:=χ (Yi X6 ho ha)
 have HRY:=χ (fun(u:qaf) (hu:VM P w0 u bv bm x m (ZZ j i g pp b bj be A c dead) at_ there n)=>Yi (by have:=hu.vs.met.lies.ino;rw[hA]at this;exact this) ho ha)
 obtain⟨b2,o2,hA2,-⟩:=YU hv.vs.met.lies.rows (by rw[Z8.Zj];omega)
 have HA2:=χ hA2
 have HRW:qai (∀(u:qaf),VM P w0 u bv bm x m (ZZ j i g pp b bj be A c dead) at_ there n->u.cell? ⟨b2,o2+nd.r*2,none⟩=some (.int .u16 y.lab)):=χ (fun u hu=>by
  rcases Z8.Va hu.vs.met.lies.rows with h0|⟨b3,o3,hA3,-,hat⟩
  ·rw[h0]at dD;simp at dD
  ·rw[hA2]at hA3
   cases hA3
   exact(hat nd.r y hy).1)
 clear hA2
 have Kg:nd.r<16:=by omega
 have TW:=χ (Yu nd hon)
 have ha0:(0:Int)<=(a:Int):=by omega
 have ha1:(a:Int)<(m.ino.length:Int):=by omega
 obtain⟨lab,hlab⟩:∃lab,y.lab=lab:=⟨_,rfl⟩
 rw[hlab]at HRW⊢
 obtain⟨k,rr,l,s,p⟩:=nd
 obtain⟨p0,p1,p2,p3,p4,p5,p6,p7,p8,p9,hp⟩:=Z9.Xh hon.len
 simp only at hp
 subst hp
 simp only at Kg HRW
 have hcx:Z9.ZX ⟨k,rr,l,s,[p0,p1,p2,p3,p4,p5,p6,p7,p8,p9]⟩=[.int .u8 k,.int .u8 rr,.int .i64 l,.int .i64 s,.int .i64 p0,.int .i64 p1,.int .i64 p2,.int .i64 p3,.int .i64 p4,.int .i64 p5,.int .i64 p6,.int .i64 p7,.int .i64 p8,.int .i64 p9]:=rfl
 obtain⟨cx,hce⟩:∃cx:List qam,cx=[.int .u8 k,.int .u8 rr,.int .i64 l,.int .i64 s,.int .i64 p0,.int .i64 p1,.int .i64 p2,.int .i64 p3,.int .i64 p4,.int .i64 p5,.int .i64 p6,.int .i64 p7,.int .i64 p8,.int .i64 p9]:=⟨_,rfl⟩
 rw[hcx]at HF Mw TW HRY⊢
 rw[<-hce]at HF Mw TW HRY⊢
 have HL:qai (cx.length=14):=χ (by rw[hce];rfl)
 have H1:qai (∀v∈cx,v.oneCell'=true):=χ (by rw[hce];intro v hv;simp only[List.mem_cons,List.mem_nil_iff,or_false]at hv;rcases hv with rfl|rfl|rfl|rfl|rfl|rfl|rfl|rfl|rfl|rfl|rfl|rfl|rfl|rfl<;>rfl)
 have VF:qai (cx[1]? =some (.int .u8 rr)):=χ (by rw[hce];rfl)
 have IQ:=χ hce
 have acE:qai (rr<16):=χ Kg
 clear h hb hal hv ha hk hy ho hl halt dD hon X6 hA hlab hrl hce hcx Kg
 go_enter Tryz.func28,Tryz.ntmps28
 go_upto_region 1 with fail
 have HZ:qai (w.heap.size<(w.alloc (.cells #["","",(),(),(),(),(),(),(),(),(),(),(),()] 40)).heap.size):=χ (by simp)
 generalize w.alloc (.cells #["","",(),(),(),(),(),(),(),(),(),(),(),()] 40)=U at*
 go_upto_region 7 with(first|(refine qah rfl 40 (.tmp 28) rfl bi (oi+a*14) rfl cx _ Mw.out Tryz.underlying40 rfl TW.out ?_)|(go_at_call 90;go_must (with_reducible refine HH.out.mono ?_);rintro e w1 ⟨he,hb⟩;obtain rfl:=he;subst hb)|(go_at_call 91;go_must (with_reducible refine(HF.out _).mono ?_);rintro e w2 ⟨he,hb⟩;obtain rfl:=he;replace HB:=χ (HB.out.trans (hb.mono HB.out.size));replace Zk:=χ (Zk.out.below hb Zk.out.lt);have HZ2:=χ (Nat.lt_of_lt_of_le HZ.out hb.size);clear hb c0 c1 c2 c3 c4 Mw HH HF HZ;obtain⟨c0,c1,c2,c3,c4⟩:=(HV.out.below HB.out).vs.cells;rw[Wz.out]at c3;have Mw:=χ (HRY.out _ (HV.out.below HB.out))))
 go_upto_region 8 with(first|(refine qah rfl 40 (.tmp 39) rfl bi (oi+a*14) rfl cx _ Mw.out Tryz.underlying40 rfl TW.out ?_)|(refine wpList_store_mid rfl 40 (.tmp 7) (.tmp 40) rfl w2.heap.size 0 cx.toArray rfl rfl (TF w2 (xs:=["","",(),(),(),(),(),(),(),(),(),(),(),()]) rfl HL.out) TW.out (qal H1.out) ?_;have HB3:=χ (HB.out.trans ((Meta.below_setCells (Nat.le_refl _) cx.toArray.toList 0 (Z0 w2 (.cells #["","",(),(),(),(),(),(),(),(),(),(),(),()] 40))).mono HB.out.size));have TG:=χ (Oj (w:=w2) (e:=40) (xs:=["","",(),(),(),(),(),(),(),(),(),(),(),()]) cx rfl HL.out);have VT:=χ ((Zk.out.below (Meta.below_setCells (Nat.le_refl _) cx.toArray.toList 0 (Z0 w2 (.cells #["","",(),(),(),(),(),(),(),(),(),(),(),()] 40))) Zk.out.lt));generalize ((w2.alloc (.cells #["","",(),(),(),(),(),(),(),(),(),(),(),()] 40)).setCells w2.heap.size 0 cx.toArray.toList)=w3 at*))
 clear c0 c1 c2 c3 c4 Mw Zk
 have Uv:=χ ((HV.out.below HB3.out).below (qao _ w3).drew)
 have Dx:qai (Bk w3.drew w2.heap.size 40 cx):=χ TG.out
 have ql:qai (Bk w3.drew w.heap.size 40 ["","",(),(),(),(),(),(),(),(),(),(),(),()]):=χ VT.out
 have Yt:qai (qaj w.heap.size w w3.drew):=χ HB3.out.drew
 have zT:qai (w2.heap.size≠w.heap.size):=χ (by have:=HZ2.out;omega)
 have hS0:VM P w0 w3.drew bv bm x m (ZZ j i g pp b bj be A c dead) at_ there n/\Bk w3.drew w2.heap.size 40 cx:=⟨Uv.out,Dx.out⟩
 refine wp_region_held_drew (S:=fun u=>VM P w0 u bv bm x m (ZZ j i g pp b bj be A c dead) at_ there n/\Bk u w2.heap.size 40 cx) (by kernel_rfl) hS0 (fun hHeld=>?_)
 clear hS0 TG HB3 VT
 generalize hu0:w3.drew=IX at*
 clear hu0
 have hr0:(0:Int)<=(rr:Int):=by omega
 have hr1:(rr:Int)<16:=by have:=acE.out;omega
 refine tk 0 _ (y:=(yieldsIf_load_mid (by rfl) 40 _ rfl w2.heap.size 0 rfl cx _ (fun u hu=>Yo hu.2) Tryz.underlying40 rfl TW.out)) (s:=by exact hHeld) (h:=?_)
 try simp only[qad,qaa,qab,qac]
 refine tk 1 ?_ (y:=.inl ⟨by rfl,?hya1⟩) (s:=by exact hHeld) (h:=?V5)
 case hya1=>exact zwq1
 try simp only[qad,qaa,qab,qac]
 refine tk 2 ?_ (y:=.inl ⟨by rfl,?hya2⟩) (s:=by exact hHeld) (h:=?V4)
 case hya2=>exact zwq1
 try simp only[qad,qaa,qab,qac]
 refine tk 3 ?_ (y:=.inl ⟨by rfl,?hya3⟩) (s:=by exact hHeld) (h:=?TD)
 case hya3=>exact zwq1
 try simp only[qad,qaa,qab,qac]
 refine tk 4 ?_ (y:=.inl ⟨by rfl,?hya4⟩) (s:=by exact hHeld) (h:=?TN)
 case hya4=>exact zwq1
 try simp only[qad,qaa,qab,qac]
 refine tk 5 ?_ (y:=.inl ⟨by rfl,?hya5⟩) (s:=by exact hHeld) (h:=?Vi)
 case hya5=>exact zwq1
 try simp only[qad,qaa,qab,qac]
 refine tk 6 ?_ (y:=.inl ⟨by rfl,?hya6⟩) (s:=by exact hHeld) (h:=?UR)
 case hya6=>exact zwq1
 try simp only[qad,qaa,qab,qac]
 refine tk 7 ?_ (y:=.inl ⟨by rfl,?hya7⟩) (s:=by exact hHeld) (h:=?RU)
 case hya7=>exact zwq1
 try simp only[qad,qaa,qab,qac]
 refine tk 8 ?_ (y:=.inl ⟨by rfl,?hya8⟩) (s:=by exact hHeld) (h:=?RS)
 case hya8=>exact zwq1
 try simp only[qad,qaa,qab,qac]
 refine tk 9 ?_ (y:=.inl ⟨by rfl,?hya9⟩) (s:=by exact hHeld) (h:=?OW)
 case hya9=>exact zwq1
 try simp only[qad,qaa,qab,qac]
 refine tk 10 ?_ (y:=.inl ⟨by rfl,?hya10⟩) (s:=by exact hHeld) (h:=?Vb)
 case hya10=>exact zwq1
 try simp only[qad,qaa,qab,qac]
 refine tk 11 ?_ (y:=.inl ⟨by rfl,?hya11⟩) (s:=by exact hHeld) (h:=?Rb)
 case hya11=>exact zwq1
 try simp only[qad,qaa,qab,qac]
 refine rd 12 (h:=fun K hK=>?_)
 rw[if_pos (by rfl)]
 refine wp_store_mid 40 _ _ rfl w.heap.size 0 cx.toArray rfl rfl (MQ ql.out rfl HL.out) TW.out (qal H1.out) ?_
 simp only[qad]
 have oL:=FI ql.out rfl cx HL.out
 have hbs:qaj w.heap.size w (IX.setCells w.heap.size 0 cx):=Meta.below_setCells (Nat.le_refl _) cx 0 Yt.out
 have Qo:=χ (HV.out.below hbs)
 have hS:VM P w0 (IX.setCells w.heap.size 0 cx) bv bm x m (ZZ j i g pp b bj be A c dead) at_ there n/\Bk (IX.setCells w.heap.size 0 cx) w2.heap.size 40 cx:=⟨Qo.out,QA zT.out cx 0 Dx.out⟩
 refine hK.out _ _ hS (fun Z5=>?_)
 clear hK K hHeld hS
 have hHeld:=Z5
 clear Z5
 try simp only[qad,qaa,qab,qac]
 refine tk 13 ?_ (y:=.inl ⟨by rfl,?hya13⟩) (s:=by exact hHeld) (h:=?LQ)
 case hya13=>exact zwq1
 try simp only[qad,qaa,qab,qac]
 refine tk 14 ?_ (y:=.inl ⟨by rfl,?hya14⟩) (s:=by exact hHeld) (h:=?Cf)
 case hya14=>exact zwq1
 try simp only[qad,qaa,qab,qac]
 refine wpAnyH_done (by kernel_rfl) ?_ _
 clear hHeld
 have ZB:=χ oL
 clear oL
 obtain rfl:=IQ.out
 obtain⟨z0,z1,z2,z3,z4,z5,z6,z7,z8,z9,YJ,YI,z12,XE⟩:=ZY ZB.out
 go_wp2
 refine bodyPost_ret (v:=.tuple #[.agg #[.int .u8 k,.int .u8 rr,l,s,p0,p1,p2,p3,p4,p5,p6,p7,p8,p9],.int .u16 lab,()]) (by simp[results,Tryz.results28,go_sem,z0,z1,z2,z3,z4,z5,z6,z7,z8,z9,YJ,YI,z12,XE]) rfl ⟨rfl,Qo.out⟩
end
end Go.Proofs.YtmehhgfbnfbnaaaGreat.Zl

namespace Go.Proofs.YtmehhgfbnfbnaaaGreat.Zl
open Go.RowKit Zq Meta
section
variable {w w0:qaf}{P:Nat->Prop}{bv bm n c j i g pp b bj gi a:Nat}{x:Meta.Mem}{m:Meta.Met}{at_:Int->Sx}{there:Int->Bool}{be:qam}{A:Option Addr}{dead:Bool}{rest:List qam}{nd:Z9.ZC}
theorem Vs.inode (h:Vs P w bv x m bm rest)(hok:∀n∈m.ino,Z9.YP n)(hx:x.iA=some ⟨gi,0,none⟩)(ha:a<m.ino.length)(hn:Z9.YP nd):
  Vs P (w.setCells gi (a*14) (Z9.ZX nd)) bv x {m with ino:=m.ino.set a nd} bm rest/\Kept P w (w.setCells gi (a*14) (Z9.ZX nd)):=by
 have ho:=h.met.ino
 rw[hx]at ho
 obtain⟨h1,hg⟩:=Tu (Z9.ZX nd) w (a*14) _ ho
 rw[Lv hok hn ha]at h1
 have hk:Kept (· =gi) w (w.setCells gi (a*14) (Z9.ZX nd)):=Kept.Y4 hg (fun k hk=>by cases hk;rfl)
 have hvb:(qam.slice gi m.ino.length x.ic).ownBlock=some gi:=rfl
 have hne:bv≠gi:=fun e=>by
  subst e
  rcases ho.2 with⟨h4,_⟩|⟨q2,cap2,JF,h4,_,hc2,_⟩
  ·cases h4
  ·injection h4 with h4
   injection h4 with h4
   injection h4 with h4
   subst h4
   have hB:w.heap[bv]? =_:=h.box
   rw[hc2]at hB
   cases hB
 refine⟨⟨?_,⟨Zw h.met.rows ho hvb hk (by decide),Zw h.met.own ho hvb hk (by decide),Zw h.met.used ho hvb hk (by decide),by rw[hx];simpa using h1⟩,h.pv,h.pr,h.po,h.pu,h.pi⟩,Kept.trans (Kept.refl P w) hk (fun i hi=>by have hi:i=gi:=hi;subst hi;exact .inl (h.pi _ hx))⟩
 have hb:Bk w bv 132 (Rk x m bm rest):=h.box
 have:=QA (vs:=Z9.ZX nd) (o:=a*14) hne hb
 unfold Rk at this⊢
 simp only[List.length_set]
 exact this
theorem VM.inode {u:qaf}(h:VM P w u bv bm x m rest at_ there n)(hok:∀n∈m.ino,Z9.YP n)(hx:x.iA=some ⟨gi,0,none⟩)(ha:a<m.ino.length)(hn:Z9.YP nd):
  VM P w (u.setCells gi (a*14) (Z9.ZX nd)) bv bm x {m with ino:=m.ino.set a nd} rest at_ there n:=by
 obtain⟨h1,h2⟩:=h.vs.inode hok hx ha hn
 have ho:=h.vs.met.ino
 rw[hx]at ho
 obtain⟨-,hg⟩:=Tu (Z9.ZX nd) u (a*14) _ ho
 have hk:Kept (· =gi) u (u.setCells gi (a*14) (Z9.ZX nd)):=Kept.Y4 hg (fun k hk=>by cases hk;rfl)
 exact⟨h1,h.map.keep (hk.block bm h.map.lt (MK ho h.map.isMap)),h.pm,h.kept.trans h2 (fun i hi=>hi)⟩
theorem WU{base:Nat}{xs:List qam}(h:w.ownsRow base 40 14 (.slice gi n c) n xs)(ha:a<n):w.there gi (a*14) 14:=fun j hj=>by
 obtain⟨⟨v,h1⟩,h2⟩:=Xo h (a*14+j) (by omega)
 exact⟨by rw[h1];rfl,h2⟩
theorem kQ(h:VM P w0 w bv bm x m (ZZ j i g pp b bj be A c dead) at_ there n)(k rr:Nat)(l s p0 p1 p2 p3 p4 p5 p6 p7 p8 p9:Int)(a:Int)(ha:¬ (0<=a/\a<(m.ino.length:Int))):
  qae Tryz.prog 45 #[.pointer bv,a,.agg #[.int .u8 k,.int .u8 rr,l,s,p0,p1,p2,p3,p4,p5,p6,p7,p8,p9]] w fun e w'=>e=.returned (.int .i64 1)/\VM P w0 w' bv bm x m (ZZ j i g pp b bj be A c dead) at_ there n:=by
 have hal:=Z0 w (.cells #[.int .u8 k,.int .u8 rr,l,s,p0,p1,p2,p3,p4,p5,p6,p7,p8,p9] 40)
 have HB:=χ hal
 have Zk:qai (Bk (w.alloc (.cells #[.int .u8 k,.int .u8 rr,l,s,p0,p1,p2,p3,p4,p5,p6,p7,p8,p9] 40)) w.heap.size 40 [.int .u8 k,.int .u8 rr,l,s,p0,p1,p2,p3,p4,p5,p6,p7,p8,p9]):=χ (Bk.new w 40 [.int .u8 k,.int .u8 rr,l,s,p0,p1,p2,p3,p4,p5,p6,p7,p8,p9])
 have HV:=χ h
 have hv:=h.below hal
 have HH:qai (qae Tryz.prog 90 #[.pointer bv,a] (w.alloc (.cells #[.int .u8 k,.int .u8 rr,l,s,p0,p1,p2,p3,p4,p5,p6,p7,p8,p9] 40)) fun e w'=>e=.returned (.bool false)/\w.alloc (.cells #[.int .u8 k,.int .u8 rr,l,s,p0,p1,p2,p3,p4,p5,p6,p7,p8,p9] 40)=w'):=χ (by
  have:=UJ hv.vs a
  rwa[decide_eq_false ha]at this)
 obtain⟨c0,c1,c2,c3,c4⟩:=hv.vs.cells
 clear h hal hv ha
 go_enter Tryz.func45,Tryz.ntmps45
 go_upto_region 1 with fail
 generalize w.alloc (.cells #[.int .u8 k,.int .u8 rr,l,s,p0,p1,p2,p3,p4,p5,p6,p7,p8,p9] 40)=U at*
 obtain⟨z0,z1,z2,z3,z4,z5,z6,z7,z8,z9,YJ,YI,z12,XE⟩:=ZY Zk.out
 go_wp2_with (first|(go_at_call 90;go_must (with_reducible refine HH.out.mono ?_);rintro e w1 ⟨he,hb⟩;obtain rfl:=he;subst hb))
 exact zwq3
theorem kP(h:VM P w0 w bv bm x m (ZZ j i g pp b bj be A c dead) at_ there n)(k rr:Nat)(l s p0 p1 p2 p3 p4 p5 p6 p7 p8 p9:Int)(hnd:Z9.YP ⟨k,rr,l,s,[p0,p1,p2,p3,p4,p5,p6,p7,p8,p9]⟩)(a:Nat)(ha:a<m.ino.length)(hn:¬ Z9.Right ⟨k,rr,l,s,[p0,p1,p2,p3,p4,p5,p6,p7,p8,p9]⟩):
  qae Tryz.prog 45 #[.pointer bv,a,.agg #[.int .u8 k,.int .u8 rr,l,s,p0,p1,p2,p3,p4,p5,p6,p7,p8,p9]] w fun e w'=>e=.returned (.int .i64 1)/\VM P w0 w' bv bm x m (ZZ j i g pp b bj be A c dead) at_ there n:=by
 have hal:=Z0 w (.cells #[.int .u8 k,.int .u8 rr,l,s,p0,p1,p2,p3,p4,p5,p6,p7,p8,p9] 40)
 have HB:=χ hal
 have Zk:qai (Bk (w.alloc (.cells #[.int .u8 k,.int .u8 rr,l,s,p0,p1,p2,p3,p4,p5,p6,p7,p8,p9] 40)) w.heap.size 40 [.int .u8 k,.int .u8 rr,l,s,p0,p1,p2,p3,p4,p5,p6,p7,p8,p9]):=χ (Bk.new w 40 [.int .u8 k,.int .u8 rr,l,s,p0,p1,p2,p3,p4,p5,p6,p7,p8,p9])
 have HV:=χ h
 have hv:=h.below hal
 have HH:qai (qae Tryz.prog 90 #[.pointer bv,a] (w.alloc (.cells #[.int .u8 k,.int .u8 rr,l,s,p0,p1,p2,p3,p4,p5,p6,p7,p8,p9] 40)) fun e w'=>e=.returned (.bool true)/\w.alloc (.cells #[.int .u8 k,.int .u8 rr,l,s,p0,p1,p2,p3,p4,p5,p6,p7,p8,p9] 40)=w'):=χ (by
  have:=UJ hv.vs (a:Int)
  rwa[decide_eq_true ⟨by omega,by omega⟩]at this)
 have HR:qai (∀u:qaf,qae Tryz.prog 111 #[.agg #[.int .u8 k,.int .u8 rr,l,s,p0,p1,p2,p3,p4,p5,p6,p7,p8,p9]] u fun e w'=>e=.returned (.bool false)/\qaj u.heap.size u w'):=χ (fun u=>by
  have:=Z9.XL ⟨k,rr,l,s,[p0,p1,p2,p3,p4,p5,p6,p7,p8,p9]⟩ hnd u
  rw[Z9.ZN hn]at this
  exact this)
 obtain⟨c0,c1,c2,c3,c4⟩:=hv.vs.cells
 clear h hal hv ha hnd hn
 go_enter Tryz.func45,Tryz.ntmps45
 go_upto_region 1 with fail
 generalize w.alloc (.cells #[.int .u8 k,.int .u8 rr,l,s,p0,p1,p2,p3,p4,p5,p6,p7,p8,p9] 40)=U at*
 obtain⟨z0,z1,z2,z3,z4,z5,z6,z7,z8,z9,YJ,YI,z12,XE⟩:=ZY Zk.out
 go_wp2_with (first|(go_at_call 90;go_must (with_reducible refine HH.out.mono ?_);rintro e w1 ⟨he,hb⟩;obtain rfl:=he;subst hb)|(go_at_call 111;go_must (with_reducible refine(HR.out _).mono ?_);rintro e w2 ⟨he,hb⟩;obtain rfl:=he;replace HB:=χ (HB.out.trans (hb.mono HB.out.size));replace Zk:=χ (Zk.out.below hb Zk.out.lt);clear hb;clear z0 z1 z2 z3 z4 z5 z6 z7 z8 z9 YJ YI z12 XE;obtain⟨z0,z1,z2,z3,z4,z5,z6,z7,z8,z9,YJ,YI,z12,XE⟩:=ZY Zk.out;clear c0 c1 c2 c3 c4;obtain⟨c0,c1,c2,c3,c4⟩:=(HV.out.below HB.out).vs.cells))
 exact zwq3
theorem pX(h:VM P w0 w bv bm x m (ZZ j i g pp b bj be A c dead) at_ there n)(k rr:Nat)(l s p0 p1 p2 p3 p4 p5 p6 p7 p8 p9:Int)(hnd:Z9.YP ⟨k,rr,l,s,[p0,p1,p2,p3,p4,p5,p6,p7,p8,p9]⟩)(a:Nat)(ha:a<m.ino.length)(hn:Z9.Right ⟨k,rr,l,s,[p0,p1,p2,p3,p4,p5,p6,p7,p8,p9]⟩)(hk:k=0):
  qae Tryz.prog 45 #[.pointer bv,a,.agg #[.int .u8 k,.int .u8 rr,l,s,p0,p1,p2,p3,p4,p5,p6,p7,p8,p9]] w fun e w'=>e=.returned (.int .i64 1)/\VM P w0 w' bv bm x m (ZZ j i g pp b bj be A c dead) at_ there n:=by
 have hal:=Z0 w (.cells #[.int .u8 k,.int .u8 rr,l,s,p0,p1,p2,p3,p4,p5,p6,p7,p8,p9] 40)
 have HB:=χ hal
 have Zk:qai (Bk (w.alloc (.cells #[.int .u8 k,.int .u8 rr,l,s,p0,p1,p2,p3,p4,p5,p6,p7,p8,p9] 40)) w.heap.size 40 [.int .u8 k,.int .u8 rr,l,s,p0,p1,p2,p3,p4,p5,p6,p7,p8,p9]):=χ (Bk.new w 40 [.int .u8 k,.int .u8 rr,l,s,p0,p1,p2,p3,p4,p5,p6,p7,p8,p9])
 have HV:=χ h
 have hv:=h.below hal
 have HH:qai (qae Tryz.prog 90 #[.pointer bv,a] (w.alloc (.cells #[.int .u8 k,.int .u8 rr,l,s,p0,p1,p2,p3,p4,p5,p6,p7,p8,p9] 40)) fun e w'=>e=.returned (.bool true)/\w.alloc (.cells #[.int .u8 k,.int .u8 rr,l,s,p0,p1,p2,p3,p4,p5,p6,p7,p8,p9] 40)=w'):=χ (by
  have:=UJ hv.vs (a:Int)
  rwa[decide_eq_true ⟨by omega,by omega⟩]at this)
 have HR:qai (∀u:qaf,qae Tryz.prog 111 #[.agg #[.int .u8 k,.int .u8 rr,l,s,p0,p1,p2,p3,p4,p5,p6,p7,p8,p9]] u fun e w'=>e=.returned (.bool true)/\qaj u.heap.size u w'):=χ (fun u=>by
  have:=Z9.XL ⟨k,rr,l,s,[p0,p1,p2,p3,p4,p5,p6,p7,p8,p9]⟩ hnd u
  rw[Z9.ZW hn]at this
  exact this)
 have HF:qai (∀u:qaf,qae Tryz.prog 91 #[.agg #[.int .u8 k,.int .u8 rr,l,s,p0,p1,p2,p3,p4,p5,p6,p7,p8,p9]] u fun e w'=>e=.returned (.bool true)/\qaj u.heap.size u w'):=χ (fun u=>by
  have:=YO ⟨k,rr,l,s,[p0,p1,p2,p3,p4,p5,p6,p7,p8,p9]⟩ hnd u
  rwa[show(k==0)=true by simp[hk]]at this)
 obtain⟨c0,c1,c2,c3,c4⟩:=hv.vs.cells
 clear h hal hv ha hnd hn hk
 go_enter Tryz.func45,Tryz.ntmps45
 go_upto_region 1 with fail
 generalize w.alloc (.cells #[.int .u8 k,.int .u8 rr,l,s,p0,p1,p2,p3,p4,p5,p6,p7,p8,p9] 40)=U at*
 obtain⟨z0,z1,z2,z3,z4,z5,z6,z7,z8,z9,YJ,YI,z12,XE⟩:=ZY Zk.out
 go_wp2_with (first|(go_at_call 90;go_must (with_reducible refine HH.out.mono ?_);rintro e w1 ⟨he,hb⟩;obtain rfl:=he;subst hb)|(go_at_call 111;go_must (with_reducible refine(HR.out _).mono ?_);rintro e w2 ⟨he,hb⟩;obtain rfl:=he;replace HB:=χ (HB.out.trans (hb.mono HB.out.size));replace Zk:=χ (Zk.out.below hb Zk.out.lt);clear hb;clear z0 z1 z2 z3 z4 z5 z6 z7 z8 z9 YJ YI z12 XE;obtain⟨z0,z1,z2,z3,z4,z5,z6,z7,z8,z9,YJ,YI,z12,XE⟩:=ZY Zk.out;clear c0 c1 c2 c3 c4;obtain⟨c0,c1,c2,c3,c4⟩:=(HV.out.below HB.out).vs.cells)|(go_at_call 91;(with_reducible refine(HF.out _).mono ?_);rintro e w3 ⟨he,hb⟩;obtain rfl:=he;replace HB:=χ (HB.out.trans (hb.mono HB.out.size));replace Zk:=χ (Zk.out.below hb Zk.out.lt);clear hb;clear z0 z1 z2 z3 z4 z5 z6 z7 z8 z9 YJ YI z12 XE;obtain⟨z0,z1,z2,z3,z4,z5,z6,z7,z8,z9,YJ,YI,z12,XE⟩:=ZY Zk.out;clear c0 c1 c2 c3 c4;obtain⟨c0,c1,c2,c3,c4⟩:=(HV.out.below HB.out).vs.cells))
 exact zwq3
theorem pW(h:VM P w0 w bv bm x m (ZZ j i g pp b bj be A c dead) at_ there n)(k rr:Nat)(l s p0 p1 p2 p3 p4 p5 p6 p7 p8 p9:Int)(hnd:Z9.YP ⟨k,rr,l,s,[p0,p1,p2,p3,p4,p5,p6,p7,p8,p9]⟩)(Xf:∀y∈m.ino,Z9.YP y)(hl:m.ino.length<=64)(a:Nat)(ha:a<m.ino.length)(hn:Z9.Right ⟨k,rr,l,s,[p0,p1,p2,p3,p4,p5,p6,p7,p8,p9]⟩)(hk:k≠0)(od:Z9.ZC)(hod:m.ino[a]? =some od)(hok:od.k=0):
  qae Tryz.prog 45 #[.pointer bv,a,.agg #[.int .u8 k,.int .u8 rr,l,s,p0,p1,p2,p3,p4,p5,p6,p7,p8,p9]] w fun e w'=>e=.returned (.int .i64 2)/\VM P w0 w' bv bm x m (ZZ j i g pp b bj be A c dead) at_ there n:=by
 have hal:=Z0 w (.cells #[.int .u8 k,.int .u8 rr,l,s,p0,p1,p2,p3,p4,p5,p6,p7,p8,p9] 40)
 have HB:=χ hal
 have Zk:qai (Bk (w.alloc (.cells #[.int .u8 k,.int .u8 rr,l,s,p0,p1,p2,p3,p4,p5,p6,p7,p8,p9] 40)) w.heap.size 40 [.int .u8 k,.int .u8 rr,l,s,p0,p1,p2,p3,p4,p5,p6,p7,p8,p9]):=χ (Bk.new w 40 [.int .u8 k,.int .u8 rr,l,s,p0,p1,p2,p3,p4,p5,p6,p7,p8,p9])
 have HV:=χ h
 have hv:=h.below hal
 have HH:qai (qae Tryz.prog 90 #[.pointer bv,a] (w.alloc (.cells #[.int .u8 k,.int .u8 rr,l,s,p0,p1,p2,p3,p4,p5,p6,p7,p8,p9] 40)) fun e w'=>e=.returned (.bool true)/\w.alloc (.cells #[.int .u8 k,.int .u8 rr,l,s,p0,p1,p2,p3,p4,p5,p6,p7,p8,p9] 40)=w'):=χ (by
  have:=UJ hv.vs (a:Int)
  rwa[decide_eq_true ⟨by omega,by omega⟩]at this)
 have HR:qai (∀u:qaf,qae Tryz.prog 111 #[.agg #[.int .u8 k,.int .u8 rr,l,s,p0,p1,p2,p3,p4,p5,p6,p7,p8,p9]] u fun e w'=>e=.returned (.bool true)/\qaj u.heap.size u w'):=χ (fun u=>by
  have:=Z9.XL ⟨k,rr,l,s,[p0,p1,p2,p3,p4,p5,p6,p7,p8,p9]⟩ hnd u
  rw[Z9.ZW hn]at this
  exact this)
 have HF:qai (∀u:qaf,qae Tryz.prog 91 #[.agg #[.int .u8 k,.int .u8 rr,l,s,p0,p1,p2,p3,p4,p5,p6,p7,p8,p9]] u fun e w'=>e=.returned (.bool false)/\qaj u.heap.size u w'):=χ (fun u=>by
  have:=YO ⟨k,rr,l,s,[p0,p1,p2,p3,p4,p5,p6,p7,p8,p9]⟩ hnd u
  rwa[show(k==0)=false by simp[hk]]at this)
 have Mq:=Xf od (qag hod)
 have HO:qai (∀u:qaf,qae Tryz.prog 91 #[.agg (Z9.ZX od).toArray] u fun e w'=>e=.returned (.bool true)/\qaj u.heap.size u w'):=χ (fun u=>by
  have:=YO od Mq u
  rwa[show(od.k==0)=true by simp[hok]]at this)
 obtain⟨bi,ci,hA,hci⟩:=Zp hv.vs.met.ino (by omega)
 injection hA with hA _ _
 have Wz:=χ hA
 have Ro:=χ (fun(u:qaf) (hu:VM P w0 u bv bm x m (ZZ j i g pp b bj be A c dead) at_ there n)=>Yi (by have:=hu.vs.met.lies.ino;rw[hA]at this;exact this) Xf hod)
 simp only[qak]at Ro
 have dw:=χ (Yu od Mq)
 have ha0:(0:Int)<=(a:Int):=by omega
 have ha1:(a:Int)<(m.ino.length:Int):=by omega
 have EY:qai ((Z9.ZX od)[0]? =some (.int .u8 od.k)/\(Z9.ZX od)[1]? =some (.int .u8 od.r)):=χ ⟨rfl,rfl⟩
 obtain⟨c0,c1,c2,c3,c4⟩:=hv.vs.cells
 rw[hA]at c3
 clear h hal hv ha hnd Xf hl hn hk hod hok Mq hA hci
 generalize Z9.ZX od=cy at*
 generalize od.k=ok at*
 generalize od.r=or at*
 go_enter Tryz.func45,Tryz.ntmps45
 go_upto_region 1 with fail
 generalize w.alloc (.cells #[.int .u8 k,.int .u8 rr,l,s,p0,p1,p2,p3,p4,p5,p6,p7,p8,p9] 40)=U at*
 obtain⟨z0,z1,z2,z3,z4,z5,z6,z7,z8,z9,YJ,YI,z12,XE⟩:=ZY Zk.out
 go_wp2_with (first|(refine qah rfl 40 (.tmp 34) rfl bi (a*14) rfl cy _ (Ro.out _ (HV.out.below HB.out)) Tryz.underlying40 rfl dw.out ?_)|(go_at_call 90;go_must (with_reducible refine HH.out.mono ?_);rintro e w1 ⟨he,hb⟩;obtain rfl:=he;subst hb)|(go_at_call 111;go_must (with_reducible refine(HR.out _).mono ?_);rintro e w2 ⟨he,hb⟩;obtain rfl:=he;replace HB:=χ (HB.out.trans (hb.mono HB.out.size));replace Zk:=χ (Zk.out.below hb Zk.out.lt);clear hb;clear z0 z1 z2 z3 z4 z5 z6 z7 z8 z9 YJ YI z12 XE;obtain⟨z0,z1,z2,z3,z4,z5,z6,z7,z8,z9,YJ,YI,z12,XE⟩:=ZY Zk.out;clear c0 c1 c2 c3 c4;obtain⟨c0,c1,c2,c3,c4⟩:=(HV.out.below HB.out).vs.cells;rw[Wz.out]at c3)|(go_at_call 91;(with_reducible refine(HF.out _).mono ?_);rintro e w3 ⟨he,hb⟩;obtain rfl:=he;replace HB:=χ (HB.out.trans (hb.mono HB.out.size));replace Zk:=χ (Zk.out.below hb Zk.out.lt);clear hb;clear z0 z1 z2 z3 z4 z5 z6 z7 z8 z9 YJ YI z12 XE;obtain⟨z0,z1,z2,z3,z4,z5,z6,z7,z8,z9,YJ,YI,z12,XE⟩:=ZY Zk.out;clear c0 c1 c2 c3 c4;obtain⟨c0,c1,c2,c3,c4⟩:=(HV.out.below HB.out).vs.cells;rw[Wz.out]at c3)|(go_at_call 91;go_must (with_reducible refine(HO.out _).mono ?_);rintro e w4 ⟨he,hb⟩;obtain rfl:=he;replace HB:=χ (HB.out.trans (hb.mono HB.out.size));replace Zk:=χ (Zk.out.below hb Zk.out.lt);clear hb;clear z0 z1 z2 z3 z4 z5 z6 z7 z8 z9 YJ YI z12 XE;obtain⟨z0,z1,z2,z3,z4,z5,z6,z7,z8,z9,YJ,YI,z12,XE⟩:=ZY Zk.out;clear c0 c1 c2 c3 c4;obtain⟨c0,c1,c2,c3,c4⟩:=(HV.out.below HB.out).vs.cells;rw[Wz.out]at c3))
 exact zwq3
theorem pV(h:VM P w0 w bv bm x m (ZZ j i g pp b bj be A c dead) at_ there n)(k rr:Nat)(l s p0 p1 p2 p3 p4 p5 p6 p7 p8 p9:Int)(hnd:Z9.YP ⟨k,rr,l,s,[p0,p1,p2,p3,p4,p5,p6,p7,p8,p9]⟩)(Xf:∀y∈m.ino,Z9.YP y)(hl:m.ino.length<=64)(a:Nat)(ha:a<m.ino.length)(hn:Z9.Right ⟨k,rr,l,s,[p0,p1,p2,p3,p4,p5,p6,p7,p8,p9]⟩)(hk:k≠0)(od:Z9.ZC)(hod:m.ino[a]? =some od)(hok:od.k≠0)(hkk:k≠od.k):
  qae Tryz.prog 45 #[.pointer bv,a,.agg #[.int .u8 k,.int .u8 rr,l,s,p0,p1,p2,p3,p4,p5,p6,p7,p8,p9]] w fun e w'=>e=.returned (.int .i64 1)/\VM P w0 w' bv bm x m (ZZ j i g pp b bj be A c dead) at_ there n:=by
 have hal:=Z0 w (.cells #[.int .u8 k,.int .u8 rr,l,s,p0,p1,p2,p3,p4,p5,p6,p7,p8,p9] 40)
 have HB:=χ hal
 have Zk:qai (Bk (w.alloc (.cells #[.int .u8 k,.int .u8 rr,l,s,p0,p1,p2,p3,p4,p5,p6,p7,p8,p9] 40)) w.heap.size 40 [.int .u8 k,.int .u8 rr,l,s,p0,p1,p2,p3,p4,p5,p6,p7,p8,p9]):=χ (Bk.new w 40 [.int .u8 k,.int .u8 rr,l,s,p0,p1,p2,p3,p4,p5,p6,p7,p8,p9])
 have HV:=χ h
 have hv:=h.below hal
 have HH:qai (qae Tryz.prog 90 #[.pointer bv,a] (w.alloc (.cells #[.int .u8 k,.int .u8 rr,l,s,p0,p1,p2,p3,p4,p5,p6,p7,p8,p9] 40)) fun e w'=>e=.returned (.bool true)/\w.alloc (.cells #[.int .u8 k,.int .u8 rr,l,s,p0,p1,p2,p3,p4,p5,p6,p7,p8,p9] 40)=w'):=χ (by
  have:=UJ hv.vs (a:Int)
  rwa[decide_eq_true ⟨by omega,by omega⟩]at this)
 have HR:qai (∀u:qaf,qae Tryz.prog 111 #[.agg #[.int .u8 k,.int .u8 rr,l,s,p0,p1,p2,p3,p4,p5,p6,p7,p8,p9]] u fun e w'=>e=.returned (.bool true)/\qaj u.heap.size u w'):=χ (fun u=>by
  have:=Z9.XL ⟨k,rr,l,s,[p0,p1,p2,p3,p4,p5,p6,p7,p8,p9]⟩ hnd u
  rw[Z9.ZW hn]at this
  exact this)
 have HF:qai (∀u:qaf,qae Tryz.prog 91 #[.agg #[.int .u8 k,.int .u8 rr,l,s,p0,p1,p2,p3,p4,p5,p6,p7,p8,p9]] u fun e w'=>e=.returned (.bool false)/\qaj u.heap.size u w'):=χ (fun u=>by
  have:=YO ⟨k,rr,l,s,[p0,p1,p2,p3,p4,p5,p6,p7,p8,p9]⟩ hnd u
  rwa[show(k==0)=false by simp[hk]]at this)
 have Mq:=Xf od (qag hod)
 have HO:qai (∀u:qaf,qae Tryz.prog 91 #[.agg (Z9.ZX od).toArray] u fun e w'=>e=.returned (.bool false)/\qaj u.heap.size u w'):=χ (fun u=>by
  have:=YO od Mq u
  rwa[show(od.k==0)=false by simp[hok]]at this)
 obtain⟨bi,ci,hA,hci⟩:=Zp hv.vs.met.ino (by omega)
 injection hA with hA _ _
 have Wz:=χ hA
 have Ro:=χ (fun(u:qaf) (hu:VM P w0 u bv bm x m (ZZ j i g pp b bj be A c dead) at_ there n)=>Yi (by have:=hu.vs.met.lies.ino;rw[hA]at this;exact this) Xf hod)
 simp only[qak]at Ro
 have dw:=χ (Yu od Mq)
 have ha0:(0:Int)<=(a:Int):=by omega
 have ha1:(a:Int)<(m.ino.length:Int):=by omega
 have EY:qai ((Z9.ZX od)[0]? =some (.int .u8 od.k)/\(Z9.ZX od)[1]? =some (.int .u8 od.r)):=χ ⟨rfl,rfl⟩
 have hkq:((k:Int)==(od.k:Int))=false:=by simp;omega
 have hkz:¬ (k:Int)=(od.k:Int):=by omega
 obtain⟨c0,c1,c2,c3,c4⟩:=hv.vs.cells
 rw[hA]at c3
 clear h hal hv ha hnd Xf hl hn hk hod hok Mq hA hci hkk
 exact zwq0
theorem kN(h:VM P w0 w bv bm x m (ZZ j i g pp b bj be A c dead) at_ there n)(k rr:Nat)(l s p0 p1 p2 p3 p4 p5 p6 p7 p8 p9:Int)(hnd:Z9.YP ⟨k,rr,l,s,[p0,p1,p2,p3,p4,p5,p6,p7,p8,p9]⟩)(Xf:∀y∈m.ino,Z9.YP y)(hl:m.ino.length<=64)(a:Nat)(ha:a<m.ino.length)(hn:Z9.Right ⟨k,rr,l,s,[p0,p1,p2,p3,p4,p5,p6,p7,p8,p9]⟩)(hk:k≠0)(od:Z9.ZC)(hod:m.ino[a]? =some od)(hok:od.k≠0)(hkk:k=od.k)(hrr:rr≠od.r):
  qae Tryz.prog 45 #[.pointer bv,a,.agg #[.int .u8 k,.int .u8 rr,l,s,p0,p1,p2,p3,p4,p5,p6,p7,p8,p9]] w fun e w'=>e=.returned (.int .i64 1)/\VM P w0 w' bv bm x m (ZZ j i g pp b bj be A c dead) at_ there n:=by
 have hal:=Z0 w (.cells #[.int .u8 k,.int .u8 rr,l,s,p0,p1,p2,p3,p4,p5,p6,p7,p8,p9] 40)
 have HB:=χ hal
 have Zk:qai (Bk (w.alloc (.cells #[.int .u8 k,.int .u8 rr,l,s,p0,p1,p2,p3,p4,p5,p6,p7,p8,p9] 40)) w.heap.size 40 [.int .u8 k,.int .u8 rr,l,s,p0,p1,p2,p3,p4,p5,p6,p7,p8,p9]):=χ (Bk.new w 40 [.int .u8 k,.int .u8 rr,l,s,p0,p1,p2,p3,p4,p5,p6,p7,p8,p9])
 have HV:=χ h
 have hv:=h.below hal
 have HH:qai (qae Tryz.prog 90 #[.pointer bv,a] (w.alloc (.cells #[.int .u8 k,.int .u8 rr,l,s,p0,p1,p2,p3,p4,p5,p6,p7,p8,p9] 40)) fun e w'=>e=.returned (.bool true)/\w.alloc (.cells #[.int .u8 k,.int .u8 rr,l,s,p0,p1,p2,p3,p4,p5,p6,p7,p8,p9] 40)=w'):=χ (by
  have:=UJ hv.vs (a:Int)
  rwa[decide_eq_true ⟨by omega,by omega⟩]at this)
 have HR:qai (∀u:qaf,qae Tryz.prog 111 #[.agg #[.int .u8 k,.int .u8 rr,l,s,p0,p1,p2,p3,p4,p5,p6,p7,p8,p9]] u fun e w'=>e=.returned (.bool true)/\qaj u.heap.size u w'):=χ (fun u=>by
  have:=Z9.XL ⟨k,rr,l,s,[p0,p1,p2,p3,p4,p5,p6,p7,p8,p9]⟩ hnd u
  rw[Z9.ZW hn]at this
  exact this)
 have HF:qai (∀u:qaf,qae Tryz.prog 91 #[.agg #[.int .u8 k,.int .u8 rr,l,s,p0,p1,p2,p3,p4,p5,p6,p7,p8,p9]] u fun e w'=>e=.returned (.bool false)/\qaj u.heap.size u w'):=χ (fun u=>by
  have:=YO ⟨k,rr,l,s,[p0,p1,p2,p3,p4,p5,p6,p7,p8,p9]⟩ hnd u
  rwa[show(k==0)=false by simp[hk]]at this)
 have Mq:=Xf od (qag hod)
 have HO:qai (∀u:qaf,qae Tryz.prog 91 #[.agg (Z9.ZX od).toArray] u fun e w'=>e=.returned (.bool false)/\qaj u.heap.size u w'):=χ (fun u=>by
  have:=YO od Mq u
  rwa[show(od.k==0)=false by simp[hok]]at this)
 obtain⟨bi,ci,hA,hci⟩:=Zp hv.vs.met.ino (by omega)
 injection hA with hA _ _
 have Wz:=χ hA
 have Ro:=χ (fun(u:qaf) (hu:VM P w0 u bv bm x m (ZZ j i g pp b bj be A c dead) at_ there n)=>Yi (by have:=hu.vs.met.lies.ino;rw[hA]at this;exact this) Xf hod)
 simp only[qak]at Ro
 have dw:=χ (Yu od Mq)
 have ha0:(0:Int)<=(a:Int):=by omega
 have ha1:(a:Int)<(m.ino.length:Int):=by omega
 have EY:qai ((Z9.ZX od)[0]? =some (.int .u8 od.k)/\(Z9.ZX od)[1]? =some (.int .u8 od.r)):=χ ⟨rfl,rfl⟩
 rw[<-hkk]at EY
 have hrq:((rr:Int)==(od.r:Int))=false:=by simp;omega
 have hrz:¬ (rr:Int)=(od.r:Int):=by omega
 obtain⟨c0,c1,c2,c3,c4⟩:=hv.vs.cells
 rw[hA]at c3
 clear h hal hv ha hnd Xf hl hn hk hod hok Mq hA hci hkk hrr
 exact zwq0
theorem J4(h:VM P w0 w bv bm x m (ZZ j i g pp b bj be A c dead) at_ there n)(k rr:Nat)(l s p0 p1 p2 p3 p4 p5 p6 p7 p8 p9:Int)(hnd:Z9.YP ⟨k,rr,l,s,[p0,p1,p2,p3,p4,p5,p6,p7,p8,p9]⟩)(Xf:∀y∈m.ino,Z9.YP y)(hl:m.ino.length<=64)(a:Nat)(ha:a<m.ino.length)(hn:Z9.Right ⟨k,rr,l,s,[p0,p1,p2,p3,p4,p5,p6,p7,p8,p9]⟩)(hk:k≠0)(od:Z9.ZC)(hod:m.ino[a]? =some od)(hok:od.k≠0)(hkk:k=od.k)(hrr:rr=od.r):
  qae Tryz.prog 45 #[.pointer bv,a,.agg #[.int .u8 k,.int .u8 rr,l,s,p0,p1,p2,p3,p4,p5,p6,p7,p8,p9]] w fun e w'=>e=.returned (.int .i64 0)/\VM P w0 w' bv bm x {m with ino:=m.ino.set a ⟨k,rr,l,s,[p0,p1,p2,p3,p4,p5,p6,p7,p8,p9]⟩} (ZZ j i g pp b bj be A c dead) at_ there n:=by
 have hal:=Z0 w (.cells #[.int .u8 k,.int .u8 rr,l,s,p0,p1,p2,p3,p4,p5,p6,p7,p8,p9] 40)
 have HB:=χ hal
 have Zk:qai (Bk (w.alloc (.cells #[.int .u8 k,.int .u8 rr,l,s,p0,p1,p2,p3,p4,p5,p6,p7,p8,p9] 40)) w.heap.size 40 [.int .u8 k,.int .u8 rr,l,s,p0,p1,p2,p3,p4,p5,p6,p7,p8,p9]):=χ (Bk.new w 40 [.int .u8 k,.int .u8 rr,l,s,p0,p1,p2,p3,p4,p5,p6,p7,p8,p9])
 have HV:=χ h
 have hv:=h.below hal
 have HH:qai (qae Tryz.prog 90 #[.pointer bv,a] (w.alloc (.cells #[.int .u8 k,.int .u8 rr,l,s,p0,p1,p2,p3,p4,p5,p6,p7,p8,p9] 40)) fun e w'=>e=.returned (.bool true)/\w.alloc (.cells #[.int .u8 k,.int .u8 rr,l,s,p0,p1,p2,p3,p4,p5,p6,p7,p8,p9] 40)=w'):=χ (by
  have:=UJ hv.vs (a:Int)
  rwa[decide_eq_true ⟨by omega,by omega⟩]at this)
 have HR:qai (∀u:qaf,qae Tryz.prog 111 #[.agg #[.int .u8 k,.int .u8 rr,l,s,p0,p1,p2,p3,p4,p5,p6,p7,p8,p9]] u fun e w'=>e=.returned (.bool true)/\qaj u.heap.size u w'):=χ (fun u=>by
  have:=Z9.XL ⟨k,rr,l,s,[p0,p1,p2,p3,p4,p5,p6,p7,p8,p9]⟩ hnd u
  rw[Z9.ZW hn]at this
  exact this)
 have HF:qai (∀u:qaf,qae Tryz.prog 91 #[.agg #[.int .u8 k,.int .u8 rr,l,s,p0,p1,p2,p3,p4,p5,p6,p7,p8,p9]] u fun e w'=>e=.returned (.bool false)/\qaj u.heap.size u w'):=χ (fun u=>by
  have:=YO ⟨k,rr,l,s,[p0,p1,p2,p3,p4,p5,p6,p7,p8,p9]⟩ hnd u
  rwa[show(k==0)=false by simp[hk]]at this)
 have Mq:=Xf od (qag hod)
 have HO:qai (∀u:qaf,qae Tryz.prog 91 #[.agg (Z9.ZX od).toArray] u fun e w'=>e=.returned (.bool false)/\qaj u.heap.size u w'):=χ (fun u=>by
  have:=YO od Mq u
  rwa[show(od.k==0)=false by simp[hok]]at this)
 obtain⟨bi,ci,hA,hci⟩:=Zp hv.vs.met.ino (by omega)
 injection hA with hA _ _
 have Wz:=χ hA
 have Ro:=χ (fun(u:qaf) (hu:VM P w0 u bv bm x m (ZZ j i g pp b bj be A c dead) at_ there n)=>Yi (by have:=hu.vs.met.lies.ino;rw[hA]at this;exact this) Xf hod)
 simp only[qak]at Ro
 have dw:=χ (Yu od Mq)
 have ha0:(0:Int)<=(a:Int):=by omega
 have ha1:(a:Int)<(m.ino.length:Int):=by omega
 have EY:qai ((Z9.ZX od)[0]? =some (.int .u8 od.k)/\(Z9.ZX od)[1]? =some (.int .u8 od.r)):=χ ⟨rfl,rfl⟩
 rw[<-hkk]at EY
 rw[<-hrr]at EY
 have KH:qai (∀(u:qaf),VM P w0 u bv bm x m (ZZ j i g pp b bj be A c dead) at_ there n->VM P w0 (u.setCells bi (a*14) [.int .u8 k,.int .u8 rr,l,s,p0,p1,p2,p3,p4,p5,p6,p7,p8,p9]) bv bm x {m with ino:=m.ino.set a ⟨k,rr,l,s,[p0,p1,p2,p3,p4,p5,p6,p7,p8,p9]⟩} (ZZ j i g pp b bj be A c dead) at_ there n):=χ (fun u hu=>by
  have hcell:Z9.ZX ⟨k,rr,l,s,[p0,p1,p2,p3,p4,p5,p6,p7,p8,p9]⟩=[.int .u8 k,.int .u8 rr,.int .i64 l,.int .i64 s,.int .i64 p0,.int .i64 p1,.int .i64 p2,.int .i64 p3,.int .i64 p4,.int .i64 p5,.int .i64 p6,.int .i64 p7,.int .i64 p8,.int .i64 p9]:=rfl
  rw[<-hcell]
  exact hu.inode Xf hA ha hnd)
 have L9:=χ (fun(u:qaf) (hu:VM P w0 u bv bm x m (ZZ j i g pp b bj be A c dead) at_ there n)=>WU (by have:=hu.vs.met.ino;rw[hA]at this;exact this) ha)
 obtain⟨c0,c1,c2,c3,c4⟩:=hv.vs.cells
 rw[hA]at c3
 clear h hal hv ha hnd Xf hl hn hk hod hok Mq hA hci hkk hrr
 generalize Z9.ZX od=cy at*
 generalize od.k=ok at*
 generalize od.r=or at*
 go_enter Tryz.func45,Tryz.ntmps45
 go_upto_region 1 with fail
 have jD:qai (w.heap.size≠bi):=χ (by
  intro e
  have:=(HV.out.vs.met.ino).lt bi (by rw[Wz.out];rfl)
  omega)
 generalize w.alloc (.cells #[.int .u8 k,.int .u8 rr,l,s,p0,p1,p2,p3,p4,p5,p6,p7,p8,p9] 40)=U at*
 obtain⟨z0,z1,z2,z3,z4,z5,z6,z7,z8,z9,YJ,YI,z12,XE⟩:=ZY Zk.out
 go_upto_region 7 with(first|(refine qah rfl 40 (.tmp 34) rfl bi (a*14) rfl cy _ (Ro.out _ (HV.out.below HB.out)) Tryz.underlying40 rfl dw.out ?_)|(go_at_call 90;go_must (with_reducible refine HH.out.mono ?_);rintro e w1 ⟨he,hb⟩;obtain rfl:=he;subst hb)|(go_at_call 111;go_must (with_reducible refine(HR.out _).mono ?_);rintro e w2 ⟨he,hb⟩;obtain rfl:=he;replace HB:=χ (HB.out.trans (hb.mono HB.out.size));replace Zk:=χ (Zk.out.below hb Zk.out.lt);clear hb;clear z0 z1 z2 z3 z4 z5 z6 z7 z8 z9 YJ YI z12 XE;obtain⟨z0,z1,z2,z3,z4,z5,z6,z7,z8,z9,YJ,YI,z12,XE⟩:=ZY Zk.out;clear c0 c1 c2 c3 c4;obtain⟨c0,c1,c2,c3,c4⟩:=(HV.out.below HB.out).vs.cells;rw[Wz.out]at c3)|(go_at_call 91;(with_reducible refine(HF.out _).mono ?_);rintro e w3 ⟨he,hb⟩;obtain rfl:=he;replace HB:=χ (HB.out.trans (hb.mono HB.out.size));replace Zk:=χ (Zk.out.below hb Zk.out.lt);clear hb;clear z0 z1 z2 z3 z4 z5 z6 z7 z8 z9 YJ YI z12 XE;obtain⟨z0,z1,z2,z3,z4,z5,z6,z7,z8,z9,YJ,YI,z12,XE⟩:=ZY Zk.out;clear c0 c1 c2 c3 c4;obtain⟨c0,c1,c2,c3,c4⟩:=(HV.out.below HB.out).vs.cells;rw[Wz.out]at c3)|(go_at_call 91;go_must (with_reducible refine(HO.out _).mono ?_);rintro e w4 ⟨he,hb⟩;obtain rfl:=he;replace HB:=χ (HB.out.trans (hb.mono HB.out.size));replace Zk:=χ (Zk.out.below hb Zk.out.lt);clear hb;clear z0 z1 z2 z3 z4 z5 z6 z7 z8 z9 YJ YI z12 XE;obtain⟨z0,z1,z2,z3,z4,z5,z6,z7,z8,z9,YJ,YI,z12,XE⟩:=ZY Zk.out;clear c0 c1 c2 c3 c4;obtain⟨c0,c1,c2,c3,c4⟩:=(HV.out.below HB.out).vs.cells;rw[Wz.out]at c3))
 have y0:=Ro.out _ (HV.out.below HB.out) 0 _ EY.out.1
 have y1:=Ro.out _ (HV.out.below HB.out) 1 _ EY.out.2
 simp only[qap]at y0
 go_quiet (fail)
 go_upto_region 9 with fail
 obtain⟨cx,hcx⟩:∃cx:List qam,cx=[.int .u8 k,.int .u8 rr,.int .i64 l,.int .i64 s,.int .i64 p0,.int .i64 p1,.int .i64 p2,.int .i64 p3,.int .i64 p4,.int .i64 p5,.int .i64 p6,.int .i64 p7,.int .i64 p8,.int .i64 p9]:=⟨_,rfl⟩
 have dz:qai (Bk w4 w.heap.size 40 cx):=χ (by rw[hcx];exact Zk.out)
 have HL:qai (cx.length=14):=χ (by rw[hcx];rfl)
 have H1:qai (∀v∈cx,v.oneCell'=true):=χ (by rw[hcx];exact Yj ⟨k,rr,l,s,[p0,p1,p2,p3,p4,p5,p6,p7,p8,p9]⟩)
 have HIY:qai (∀(u:qaf),VM P w0 u bv bm x m (ZZ j i g pp b bj be A c dead) at_ there n->VM P w0 (u.setCells bi (a*14) cx) bv bm x {m with ino:=m.ino.set a ⟨k,rr,l,s,[p0,p1,p2,p3,p4,p5,p6,p7,p8,p9]⟩} (ZZ j i g pp b bj be A c dead) at_ there n):=χ (by rw[hcx];exact KH.out)
 have HTY:qai (∀(u:qaf),VM P w0 u bv bm x m (ZZ j i g pp b bj be A c dead) at_ there n->u.there bi (a*14) cx.toArray.size):=χ (fun u hu=>by rw[show cx.toArray.size=14 by simp[HL.out]];exact L9.out u hu)
 have HSL:qai ((Tryz.prog.info? 40).map (·.size)=some cx.length):=χ (by rw[HL.out];exact Y9)
 have HSA:=χ (Qn cx HL.out)
 clear hcx KH L9 Zk
 have Uv:=χ (((HV.out.below HB.out).below (below_drewN (qao _ _) nq)).below (qao _ _).drew)
 have Dx:qai (Bk (w4.drewN nq).drew w.heap.size 40 cx):=χ dz.out
 obtain⟨e0,e1,e2,e3,e4⟩:=Uv.out.vs.cells
 rw[Wz.out]at e3
 have hS0:(w4.drewN nq).drew.cell? ⟨bv,3,none⟩=some (.slice bi m.ino.length x.ic)/\Bk (w4.drewN nq).drew w.heap.size 40 cx:=⟨e3,Dx.out⟩
 refine wp_region_held_drew (S:=fun u=>u.cell? ⟨bv,3,none⟩=some (.slice bi m.ino.length x.ic)/\Bk u w.heap.size 40 cx) (by kernel_rfl) hS0 (fun hHeld=>?_)
 clear hS0 dz HB y0 y1 c0 c1 c2 c3 c4 e0 e1 e2 e3 e4 z0 z1 z2 z3 z4 z5 z6 z7 z8 z9 YJ YI z12 XE
 generalize hu0:(w4.drewN nq).drew=IX at*
 clear hu0
 refine tk 0 ?_ (y:=.inl ⟨by rfl,?hya0⟩) (s:=by exact hHeld) (h:=?V6)
 case hya0=>exact zwq2
 try simp only[qad,qaa,qab,qac]
 refine tk 1 ?_ (y:=.inl ⟨by rfl,?hya1⟩) (s:=by exact hHeld) (h:=?V5)
 case hya1=>exact zwq2
 try simp only[qad,qaa,qab,qac]
 refine tk 2 ?_ (y:=.inl ⟨by rfl,?hya2⟩) (s:=by exact hHeld) (h:=?V4)
 case hya2=>exact zwq2
 try simp only[qad,qaa,qab,qac]
 refine tk 3 ?_ (y:=.inl ⟨by rfl,?hya3⟩) (s:=by exact hHeld) (h:=?TD)
 case hya3=>exact zwq2
 try simp only[qad,qaa,qab,qac]
 refine tk 4 ?_ (y:=.inl ⟨by rfl,?hya4⟩) (s:=by exact hHeld) (h:=?TN)
 case hya4=>exact zwq2
 try simp only[qad,qaa,qab,qac]
 refine tk 5 ?_ (y:=.inl ⟨by rfl,?hya5⟩) (s:=by exact hHeld) (h:=?Vi)
 case hya5=>exact zwq2
 try simp only[qad,qaa,qab,qac]
 refine tk 6 ?_ (y:=.inl ⟨by rfl,?hya6⟩) (s:=by exact hHeld) (h:=?UR)
 case hya6=>exact zwq2
 try simp only[qad,qaa,qab,qac]
 refine tk 7 _ (y:=(yieldsIf_load_mid (by rfl) 40 _ rfl w.heap.size 0 rfl cx _ (fun u hu=>Yo hu.2) Tryz.underlying40 rfl HSL.out)) (s:=by exact hHeld) (h:=?_)
 try simp only[qad,qaa,qab,qac]
 refine tk 8 ?_ (y:=.inl ⟨by rfl,?hya8⟩) (s:=by exact hHeld) (h:=?RS)
 case hya8=>exact zwq2
 try simp only[qad,qaa,qab,qac]
 refine rd 9 (h:=fun K hK=>?_)
 rw[if_pos (by rfl)]
 refine wp_store_mid 40 _ _ rfl bi (a*14) cx.toArray rfl rfl (HTY.out _ Uv.out) HSA.out (qal H1.out) ?_
 simp only[qad]
 have Qo:=χ (HIY.out _ Uv.out)
 obtain⟨e0,e1,e2,e3,e4⟩:=Qo.out.vs.cells
 rw[Wz.out]at e3
 simp only[List.length_set]at e3
 refine hK.out _ _ ⟨e3,QA jD.out cx (a*14) Dx.out⟩ (fun Z5=>?_)
 clear hK K hHeld Z5 e0 e1 e2 e3 e4
 try simp only[qad,qaa,qab,qac]
 refine wpAnyH_done (by kernel_rfl) ?_ _
 go_wp2
 go_ret
 exact⟨rfl,Qo.out⟩
end
end Go.Proofs.YtmehhgfbnfbnaaaGreat.Zl
