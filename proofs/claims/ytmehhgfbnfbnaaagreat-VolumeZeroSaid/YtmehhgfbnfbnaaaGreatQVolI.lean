import Derived.Test.YtmehhgfbnfbnaaaGreatQVolH
import Derived.Test.YtmehhgfbnfbnaaaGreatQMetaU
import Derived.Test.YtmehhgfbnfbnaaaGreatQTk
import Derived.Test.YtmehhgfbnfbnaaaGreatQInodeA
set_option maxRecDepth 100000
set_option maxHeartbeats 25600000
open List renaming setIfInBounds_toArray->qaa,set_cons_zero->qab,set_cons_succ->qac,mem_of_getElem?->qag,getElem?_eq_some_iff->qan
open Go.Act renaming put->qad
open Go renaming Calls->qae,World->qaf,wpList_load_mid->qah,all_oneCell_toArray->qal,Value->qam
open Go.RowKit renaming Hid->qai,Below->qaj
open Nat renaming zero_add->qak,add_zero->qap
open Go.RowKit.Below renaming refl->qao
namespace Go.Proofs.YtmehhgfbnfbnaaaGreat.Y7
open Go.RowKit Zc Meta
section
variable {e:TypeId}{xs cx:List qam}{g:Nat}{u w:qaf}
theorem SI{gi:Nat}(hne:g≠gi)(vs:List qam)(o:Nat)(h:Bk w g e xs):Bk (w.setCells gi o vs) g e xs:=(ZE gi vs o w g hne).trans h
theorem NU(cx:List qam)(h:cx.length=14):(Tryz.prog.info? 40).map (·.size)=some cx.toArray.size:=by
 rw[List.size_toArray,h]
 exact Zj
theorem KR(vs:List qam)(hx:xs.length=14)(hv:vs.length=14):Bk ((w.alloc (.cells xs.toArray e)).setCells w.heap.size 0 vs) w.heap.size e vs:=by
 match xs,hx with
 |[a0,a1,a2,a3,a4,a5,a6,a7,a8,a9,Tz,Ty,a12,Tx],_=>
  match vs,hv with
  |[v0,v1,v2,v3,v4,v5,v6,v7,v8,v9,v10,v11,v12,v13],_=>exact FC (Bk.new w e [a0,a1,a2,a3,a4,a5,a6,a7,a8,a9,Tz,Ty,a12,Tx]) v0 v1 v2 v3 v4 v5 v6 v7 v8 v9 v10 v11 v12 v13
theorem KQ(h:Bk u g e xs)(hx:xs.length=14)(vs:List qam)(hv:vs.length=14):Bk (u.setCells g 0 vs) g e vs:=by
 match xs,hx with
 |[a0,a1,a2,a3,a4,a5,a6,a7,a8,a9,Tz,Ty,a12,Tx],_=>
  match vs,hv with
  |[v0,v1,v2,v3,v4,v5,v6,v7,v8,v9,v10,v11,v12,v13],_=>exact FC h v0 v1 v2 v3 v4 v5 v6 v7 v8 v9 v10 v11 v12 v13
theorem P9(h:Bk u g e xs)(hx:xs.length=14):u.there g 0 14:=by
 match xs,hx with
 |[a0,a1,a2,a3,a4,a5,a6,a7,a8,a9,Tz,Ty,a12,Tx],_=>exact MI h
theorem Rc(w:qaf)(hx:xs.length=14)(hc:cx.length=14):(w.alloc (.cells xs.toArray e)).there w.heap.size 0 cx.toArray.size:=by
 rw[show cx.toArray.size=14 by simp[hc]]
 exact P9 (Bk.new w e xs) hx
theorem P8(h:Bk u g e xs)(hx:xs.length=14)(hc:cx.length=14):u.there g 0 cx.toArray.size:=by
 rw[show cx.toArray.size=14 by simp[hc]]
 exact P9 h hx
theorem Yp(h:Bk u g e xs):u.rangeAt g 0 xs:=fun j v hj=>by rw[qak,h.cell j];exact hj
theorem Aq{j i pp:Nat}{P:Nat->Prop}{w0:qaf}{bv bm b bj c:Nat}{x:Meta.Mem}{m:Meta.Met}{be:qam}{A:Option Addr}{dead:Bool}{at_:Int->Sx}{there:Int->Bool}{n:Nat}(h:VM P w0 w bv bm x m (ZY j i g pp b bj be A c dead) at_ there n)(a:Nat)(nd:Z9.Zz)(y:Z8.Rw)(ha:m.ino[a]? =some nd)(hk:nd.k≠0)(hy:m.rows[nd.r]? =some y)(hrl:m.rows.length=16)(ho:∀y∈m.ino,Z9.YS y)(hl:m.ino.length<=64):
  qae Tryz.prog 28 #[.pointer bv,a] w fun e w'=>e=.returned (.tuple #[.agg (Z9.ZX nd).toArray,.int .u16 y.lab,()])/\VM P w0 w' bv bm x m (ZY j i g pp b bj be A c dead) at_ there n:=by
 have hb:=Bk.new w 40 ["","",(),(),(),(),(),(),(),(),(),(),(),()]
 have hal:=ZZ w (.cells #["","",(),(),(),(),(),(),(),(),(),(),(),()] 40)
 have hv:=h.below hal
 have HV:=χ h
 have Zl:=χ hb
 have HB:=χ hal
 have DZ:=χ hrl
 have halt:=(qan.1 ha).1
 have qf:=(qan.1 hy).1
 have hon:=ho nd (qag ha)
 have HH:qai (qae Tryz.prog 90 #[.pointer bv,a] (w.alloc (.cells #["","",(),(),(),(),(),(),(),(),(),(),(),()] 40)) fun e w'=>e=.returned (.bool true)/\w.alloc (.cells #["","",(),(),(),(),(),(),(),(),(),(),(),()] 40)=w'):=χ (by
  have:=VJ hv.vs (a:Int)
  rwa[decide_eq_true ⟨by omega,by omega⟩]at this)
 have HF:qai (∀u:qaf,qae Tryz.prog 91 #[.agg (Z9.ZX nd).toArray] u fun e w'=>e=.returned (.bool false)/\qaj u.heap.size u w'):=χ (fun u=>by
  have:=YU nd hon u
  rwa[show(nd.k==0)=false by simp[hk]]at this)
 obtain⟨c0,c1,c2,c3,c4⟩:=hv.vs.cells
 have Yc:=hv.vs.met.lies.ino
 obtain⟨bi,oi,hA,-⟩:=Y3 Yc (by rw[Y2 ho];omega)
 have Xg:=χ hA
 rw[hA]at Yc c3
 have OE:=χ (Yo Yc ho ha)
 have fC:=χ (fun(u:qaf) (hu:VM P w0 u bv bm x m (ZY j i g pp b bj be A c dead) at_ there n)=>Yo (by have:=hu.vs.met.lies.ino;rw[hA]at this;exact this) ho ha)
 obtain⟨b2,o2,hA2,-⟩:=Y3 hv.vs.met.lies.rows (by rw[Z8.Zh];omega)
 have HA2:=χ hA2
 have HRW:qai (∀(u:qaf),VM P w0 u bv bm x m (ZY j i g pp b bj be A c dead) at_ there n->u.cell? ⟨b2,o2+nd.r*2,none⟩=some (.int .u16 y.lab)):=χ (fun u hu=>by
  rcases Z8.VW hu.vs.met.lies.rows with h0|⟨b3,o3,hA3,-,hat⟩
  ·rw[h0]at qf;simp at qf
  ·rw[hA2]at hA3
   cases hA3
   exact(hat nd.r y hy).1)
 clear hA2
 have ML:nd.r<16:=by omega
 have UU:=χ (YI nd hon)
 have ha0:(0:Int)<=(a:Int):=by omega
 have ha1:(a:Int)<(m.ino.length:Int):=by omega
 obtain⟨lab,hlab⟩:∃lab,y.lab=lab:=⟨_,rfl⟩
 rw[hlab]at HRW⊢
 obtain⟨k,rr,l,s,p⟩:=nd
 obtain⟨p0,p1,p2,p3,p4,p5,p6,p7,p8,p9,hp⟩:=Z9.XI hon.len
 simp only at hp
 subst hp
 simp only at ML HRW
 have hcx:Z9.ZX ⟨k,rr,l,s,[p0,p1,p2,p3,p4,p5,p6,p7,p8,p9]⟩=[.int .u8 k,.int .u8 rr,.int .i64 l,.int .i64 s,.int .i64 p0,.int .i64 p1,.int .i64 p2,.int .i64 p3,.int .i64 p4,.int .i64 p5,.int .i64 p6,.int .i64 p7,.int .i64 p8,.int .i64 p9]:=rfl
 obtain⟨cx,hce⟩:∃cx:List qam,cx=[.int .u8 k,.int .u8 rr,.int .i64 l,.int .i64 s,.int .i64 p0,.int .i64 p1,.int .i64 p2,.int .i64 p3,.int .i64 p4,.int .i64 p5,.int .i64 p6,.int .i64 p7,.int .i64 p8,.int .i64 p9]:=⟨_,rfl⟩
 rw[hcx]at HF OE UU fC⊢
 rw[<-hce]at HF OE UU fC⊢
 have HL:qai (cx.length=14):=χ (by rw[hce];rfl)
 have H1:qai (∀v∈cx,v.oneCell'=true):=χ (by rw[hce];intro v hv;simp only[List.mem_cons,List.mem_nil_iff,or_false]at hv;rcases hv with rfl|rfl|rfl|rfl|rfl|rfl|rfl|rfl|rfl|rfl|rfl|rfl|rfl|rfl<;>rfl)
 have VL:qai (cx[1]? =some (.int .u8 rr)):=χ (by rw[hce];rfl)
 have K9:=χ hce
 have fA:qai (rr<16):=χ ML
 clear h hb hal hv ha hk hy ho hl halt qf hon Yc hA hlab hrl hce hcx ML
 go_enter Tryz.func28,Tryz.ntmps28
 go_upto_region 1 with fail
 have HZ:qai (w.heap.size<(w.alloc (.cells #["","",(),(),(),(),(),(),(),(),(),(),(),()] 40)).heap.size):=χ (by simp)
 generalize w.alloc (.cells #["","",(),(),(),(),(),(),(),(),(),(),(),()] 40)=U at*
 go_upto_region 7 with(first|(refine qah rfl 40 (.tmp 28) rfl bi (oi+a*14) rfl cx _ OE.out Tryz.underlying40 rfl UU.out ?_)|(go_at_call 90;go_must (with_reducible refine HH.out.mono ?_);rintro e w1 ⟨he,hb⟩;obtain rfl:=he;subst hb)|(go_at_call 91;go_must (with_reducible refine(HF.out _).mono ?_);rintro e w2 ⟨he,hb⟩;obtain rfl:=he;replace HB:=χ (HB.out.trans (hb.mono HB.out.size));replace Zl:=χ (Zl.out.below hb Zl.out.lt);have HZ2:=χ (Nat.lt_of_lt_of_le HZ.out hb.size);clear hb c0 c1 c2 c3 c4 OE HH HF HZ;obtain⟨c0,c1,c2,c3,c4⟩:=(HV.out.below HB.out).vs.cells;rw[Xg.out]at c3;have OE:=χ (fC.out _ (HV.out.below HB.out))))
 go_upto_region 8 with(first|(refine qah rfl 40 (.tmp 39) rfl bi (oi+a*14) rfl cx _ OE.out Tryz.underlying40 rfl UU.out ?_)|(refine wpList_store_mid rfl 40 (.tmp 7) (.tmp 40) rfl w2.heap.size 0 cx.toArray rfl rfl (Rc w2 (xs:=["","",(),(),(),(),(),(),(),(),(),(),(),()]) rfl HL.out) UU.out (qal H1.out) ?_;have HB3:=χ (HB.out.trans ((Meta.below_setCells (Nat.le_refl _) cx.toArray.toList 0 (ZZ w2 (.cells #["","",(),(),(),(),(),(),(),(),(),(),(),()] 40))).mono HB.out.size));have NR:=χ (KR (w:=w2) (e:=40) (xs:=["","",(),(),(),(),(),(),(),(),(),(),(),()]) cx rfl HL.out);have VV:=χ ((Zl.out.below (Meta.below_setCells (Nat.le_refl _) cx.toArray.toList 0 (ZZ w2 (.cells #["","",(),(),(),(),(),(),(),(),(),(),(),()] 40))) Zl.out.lt));generalize ((w2.alloc (.cells #["","",(),(),(),(),(),(),(),(),(),(),(),()] 40)).setCells w2.heap.size 0 cx.toArray.toList)=w3 at*))
 clear c0 c1 c2 c3 c4 OE Zl
 have Vm:=χ ((HV.out.below HB3.out).below (qao _ w3).drew)
 have NT:qai (Bk w3.drew w2.heap.size 40 cx):=χ NR.out
 have Ap:qai (Bk w3.drew w.heap.size 40 ["","",(),(),(),(),(),(),(),(),(),(),(),()]):=χ VV.out
 have Yz:qai (qaj w.heap.size w w3.drew):=χ HB3.out.drew
 have FB:qai (w2.heap.size≠w.heap.size):=χ (by have:=HZ2.out;omega)
 have hS0:VM P w0 w3.drew bv bm x m (ZY j i g pp b bj be A c dead) at_ there n/\Bk w3.drew w2.heap.size 40 cx:=⟨Vm.out,NT.out⟩
 refine wp_region_held_drew (S:=fun u=>VM P w0 u bv bm x m (ZY j i g pp b bj be A c dead) at_ there n/\Bk u w2.heap.size 40 cx) (by kernel_rfl) hS0 (fun hHeld=>?_)
 clear hS0 NR HB3 VV
 generalize hu0:w3.drew=NS at*
 clear hu0
 have hr0:(0:Int)<=(rr:Int):=by omega
 have hr1:(rr:Int)<16:=by have:=fA.out;omega
 refine tk 0 _ (y:=(yieldsIf_load_mid (by rfl) 40 _ rfl w2.heap.size 0 rfl cx _ (fun u hu=>Yp hu.2) Tryz.underlying40 rfl UU.out)) (s:=by exact hHeld) (h:=?_)
 try simp only[qad,qaa,qab,qac]
 refine tk 1 ?_ (y:=.inl ⟨by rfl,?hya1⟩) (s:=by exact hHeld) (h:=?Wn)
 case hya1=>(intro u hu;obtain⟨hv,YE⟩:=hu;obtain⟨c0,c1,c2,c3,c4⟩:=hv.vs.cells;have q1:=YE.cell 1;rw[VL.out]at q1;have q2:=HRW.out _ hv;rw[HA2.out]at c0;rw[DZ.out]at c0;clear hv YE c1 c2 c3 c4;go_simp<;>with_reducible rfl)
 try simp only[qad,qaa,qab,qac]
 refine tk 2 ?_ (y:=.inl ⟨by rfl,?hya2⟩) (s:=by exact hHeld) (h:=?Wm)
 case hya2=>(intro u hu;obtain⟨hv,YE⟩:=hu;obtain⟨c0,c1,c2,c3,c4⟩:=hv.vs.cells;have q1:=YE.cell 1;rw[VL.out]at q1;have q2:=HRW.out _ hv;rw[HA2.out]at c0;rw[DZ.out]at c0;clear hv YE c1 c2 c3 c4;go_simp<;>with_reducible rfl)
 try simp only[qad,qaa,qab,qac]
 refine tk 3 ?_ (y:=.inl ⟨by rfl,?hya3⟩) (s:=by exact hHeld) (h:=?Tp)
 case hya3=>(intro u hu;obtain⟨hv,YE⟩:=hu;obtain⟨c0,c1,c2,c3,c4⟩:=hv.vs.cells;have q1:=YE.cell 1;rw[VL.out]at q1;have q2:=HRW.out _ hv;rw[HA2.out]at c0;rw[DZ.out]at c0;clear hv YE c1 c2 c3 c4;go_simp<;>with_reducible rfl)
 try simp only[qad,qaa,qab,qac]
 refine tk 4 ?_ (y:=.inl ⟨by rfl,?hya4⟩) (s:=by exact hHeld) (h:=?TJ)
 case hya4=>(intro u hu;obtain⟨hv,YE⟩:=hu;obtain⟨c0,c1,c2,c3,c4⟩:=hv.vs.cells;have q1:=YE.cell 1;rw[VL.out]at q1;have q2:=HRW.out _ hv;rw[HA2.out]at c0;rw[DZ.out]at c0;clear hv YE c1 c2 c3 c4;go_simp<;>with_reducible rfl)
 try simp only[qad,qaa,qab,qac]
 refine tk 5 ?_ (y:=.inl ⟨by rfl,?hya5⟩) (s:=by exact hHeld) (h:=?Vw)
 case hya5=>(intro u hu;obtain⟨hv,YE⟩:=hu;obtain⟨c0,c1,c2,c3,c4⟩:=hv.vs.cells;have q1:=YE.cell 1;rw[VL.out]at q1;have q2:=HRW.out _ hv;rw[HA2.out]at c0;rw[DZ.out]at c0;clear hv YE c1 c2 c3 c4;go_simp<;>with_reducible rfl)
 try simp only[qad,qaa,qab,qac]
 refine tk 6 ?_ (y:=.inl ⟨by rfl,?hya6⟩) (s:=by exact hHeld) (h:=?Vg)
 case hya6=>(intro u hu;obtain⟨hv,YE⟩:=hu;obtain⟨c0,c1,c2,c3,c4⟩:=hv.vs.cells;have q1:=YE.cell 1;rw[VL.out]at q1;have q2:=HRW.out _ hv;rw[HA2.out]at c0;rw[DZ.out]at c0;clear hv YE c1 c2 c3 c4;go_simp<;>with_reducible rfl)
 try simp only[qad,qaa,qab,qac]
 refine tk 7 ?_ (y:=.inl ⟨by rfl,?hya7⟩) (s:=by exact hHeld) (h:=?QQ)
 case hya7=>(intro u hu;obtain⟨hv,YE⟩:=hu;obtain⟨c0,c1,c2,c3,c4⟩:=hv.vs.cells;have q1:=YE.cell 1;rw[VL.out]at q1;have q2:=HRW.out _ hv;rw[HA2.out]at c0;rw[DZ.out]at c0;clear hv YE c1 c2 c3 c4;go_simp<;>with_reducible rfl)
 try simp only[qad,qaa,qab,qac]
 refine tk 8 ?_ (y:=.inl ⟨by rfl,?hya8⟩) (s:=by exact hHeld) (h:=?RJ)
 case hya8=>(intro u hu;obtain⟨hv,YE⟩:=hu;obtain⟨c0,c1,c2,c3,c4⟩:=hv.vs.cells;have q1:=YE.cell 1;rw[VL.out]at q1;have q2:=HRW.out _ hv;rw[HA2.out]at c0;rw[DZ.out]at c0;clear hv YE c1 c2 c3 c4;go_simp<;>with_reducible rfl)
 try simp only[qad,qaa,qab,qac]
 refine tk 9 ?_ (y:=.inl ⟨by rfl,?hya9⟩) (s:=by exact hHeld) (h:=?Qg)
 case hya9=>(intro u hu;obtain⟨hv,YE⟩:=hu;obtain⟨c0,c1,c2,c3,c4⟩:=hv.vs.cells;have q1:=YE.cell 1;rw[VL.out]at q1;have q2:=HRW.out _ hv;rw[HA2.out]at c0;rw[DZ.out]at c0;clear hv YE c1 c2 c3 c4;go_simp<;>with_reducible rfl)
 try simp only[qad,qaa,qab,qac]
 refine tk 10 ?_ (y:=.inl ⟨by rfl,?hya10⟩) (s:=by exact hHeld) (h:=?UG)
 case hya10=>(intro u hu;obtain⟨hv,YE⟩:=hu;obtain⟨c0,c1,c2,c3,c4⟩:=hv.vs.cells;have q1:=YE.cell 1;rw[VL.out]at q1;have q2:=HRW.out _ hv;rw[HA2.out]at c0;rw[DZ.out]at c0;clear hv YE c1 c2 c3 c4;go_simp<;>with_reducible rfl)
 try simp only[qad,qaa,qab,qac]
 refine tk 11 ?_ (y:=.inl ⟨by rfl,?hya11⟩) (s:=by exact hHeld) (h:=?Rf)
 case hya11=>(intro u hu;obtain⟨hv,YE⟩:=hu;obtain⟨c0,c1,c2,c3,c4⟩:=hv.vs.cells;have q1:=YE.cell 1;rw[VL.out]at q1;have q2:=HRW.out _ hv;rw[HA2.out]at c0;rw[DZ.out]at c0;clear hv YE c1 c2 c3 c4;go_simp<;>with_reducible rfl)
 try simp only[qad,qaa,qab,qac]
 refine rd 12 (h:=fun K hK=>?_)
 rw[if_pos (by rfl)]
 refine wp_store_mid 40 _ _ rfl w.heap.size 0 cx.toArray rfl rfl (P8 Ap.out rfl HL.out) UU.out (qal H1.out) ?_
 simp only[qad]
 have kQ:=KQ Ap.out rfl cx HL.out
 have hbs:qaj w.heap.size w (NS.setCells w.heap.size 0 cx):=Meta.below_setCells (Nat.le_refl _) cx 0 Yz.out
 have RQ:=χ (HV.out.below hbs)
 have hS:VM P w0 (NS.setCells w.heap.size 0 cx) bv bm x m (ZY j i g pp b bj be A c dead) at_ there n/\Bk (NS.setCells w.heap.size 0 cx) w2.heap.size 40 cx:=⟨RQ.out,SI FB.out cx 0 NT.out⟩
 refine hK.out _ _ hS (fun Z4=>?_)
 clear hK K hHeld hS
 have hHeld:=Z4
 clear Z4
 try simp only[qad,qaa,qab,qac]
 refine tk 13 ?_ (y:=.inl ⟨by rfl,?hya13⟩) (s:=by exact hHeld) (h:=?KP)
 case hya13=>(intro u hu;obtain⟨hv,YE⟩:=hu;obtain⟨c0,c1,c2,c3,c4⟩:=hv.vs.cells;have q1:=YE.cell 1;rw[VL.out]at q1;have q2:=HRW.out _ hv;rw[HA2.out]at c0;rw[DZ.out]at c0;clear hv YE c1 c2 c3 c4;go_simp<;>with_reducible rfl)
 try simp only[qad,qaa,qab,qac]
 refine tk 14 ?_ (y:=.inl ⟨by rfl,?hya14⟩) (s:=by exact hHeld) (h:=?Ao)
 case hya14=>(intro u hu;obtain⟨hv,YE⟩:=hu;obtain⟨c0,c1,c2,c3,c4⟩:=hv.vs.cells;have q1:=YE.cell 1;rw[VL.out]at q1;have q2:=HRW.out _ hv;rw[HA2.out]at c0;rw[DZ.out]at c0;clear hv YE c1 c2 c3 c4;go_simp<;>with_reducible rfl)
 try simp only[qad,qaa,qab,qac]
 refine wpAnyH_done (by kernel_rfl) ?_ _
 clear hHeld
 have ZB:=χ kQ
 clear kQ
 obtain rfl:=K9.out
 obtain⟨z0,z1,z2,z3,z4,z5,z6,z7,z8,z9,X5,X4,z12,X3⟩:=Z0 ZB.out
 go_wp2
 refine bodyPost_ret (v:=.tuple #[.agg #[.int .u8 k,.int .u8 rr,l,s,p0,p1,p2,p3,p4,p5,p6,p7,p8,p9],.int .u16 lab,()]) (by simp[results,Tryz.results28,go_sem,z0,z1,z2,z3,z4,z5,z6,z7,z8,z9,X5,X4,z12,X3]) rfl ⟨rfl,RQ.out⟩
end
end Go.Proofs.YtmehhgfbnfbnaaaGreat.Y7

namespace Go.Proofs.YtmehhgfbnfbnaaaGreat.Y7
open Go.RowKit Zc Meta
section
variable {w w0:qaf}{P:Nat->Prop}{bv bm n c j i g pp b bj gi a:Nat}{x:Meta.Mem}{m:Meta.Met}{at_:Int->Sx}{there:Int->Bool}{be:qam}{A:Option Addr}{dead:Bool}{rest:List qam}{nd:Z9.Zz}
theorem Vs.inode (h:Vs P w bv x m bm rest)(hok:∀n∈m.ino,Z9.YS n)(hx:x.iA=some ⟨gi,0,none⟩)(ha:a<m.ino.length)(hn:Z9.YS nd):
  Vs P (w.setCells gi (a*14) (Z9.ZX nd)) bv x {m with ino:=m.ino.set a nd} bm rest/\Kept P w (w.setCells gi (a*14) (Z9.ZX nd)):=by
 have ho:=h.met.ino
 rw[hx]at ho
 obtain⟨h1,hg⟩:=UD (Z9.ZX nd) w (a*14) _ ho
 rw[NV hok hn ha]at h1
 have hk:Kept (· =gi) w (w.setCells gi (a*14) (Z9.ZX nd)):=Kept.Zb hg (fun k hk=>by cases hk;rfl)
 have hvb:(qam.slice gi m.ino.length x.ic).ownBlock=some gi:=rfl
 have hne:bv≠gi:=fun e=>by
  subst e
  rcases ho.2 with⟨h4,_⟩|⟨q2,cap2,MR,h4,_,hc2,_⟩
  ·cases h4
  ·injection h4 with h4
   injection h4 with h4
   injection h4 with h4
   subst h4
   have hB:w.heap[bv]? =_:=h.box
   rw[hc2]at hB
   cases hB
 refine⟨⟨?_,⟨Zx h.met.rows ho hvb hk (by decide),Zx h.met.own ho hvb hk (by decide),Zx h.met.used ho hvb hk (by decide),by rw[hx];simpa using h1⟩,h.pv,h.pr,h.po,h.pu,h.pi⟩,Kept.trans (Kept.refl P w) hk (fun i hi=>by have hi:i=gi:=hi;subst hi;exact .inl (h.pi _ hx))⟩
 have hb:Bk w bv 132 (mh x m bm rest):=h.box
 have:=SI (vs:=Z9.ZX nd) (o:=a*14) hne hb
 unfold mh at this⊢
 simp only[List.length_set]
 exact this
theorem VM.inode {u:qaf}(h:VM P w u bv bm x m rest at_ there n)(hok:∀n∈m.ino,Z9.YS n)(hx:x.iA=some ⟨gi,0,none⟩)(ha:a<m.ino.length)(hn:Z9.YS nd):
  VM P w (u.setCells gi (a*14) (Z9.ZX nd)) bv bm x {m with ino:=m.ino.set a nd} rest at_ there n:=by
 obtain⟨h1,h2⟩:=h.vs.inode hok hx ha hn
 have ho:=h.vs.met.ino
 rw[hx]at ho
 obtain⟨-,hg⟩:=UD (Z9.ZX nd) u (a*14) _ ho
 have hk:Kept (· =gi) u (u.setCells gi (a*14) (Z9.ZX nd)):=Kept.Zb hg (fun k hk=>by cases hk;rfl)
 exact⟨h1,h.map.keep (hk.block bm h.map.lt (Qa ho h.map.isMap)),h.pm,h.kept.trans h2 (fun i hi=>hi)⟩
theorem Xu{base:Nat}{xs:List qam}(h:w.ownsRow base 40 14 (.slice gi n c) n xs)(ha:a<n):w.there gi (a*14) 14:=fun j hj=>by
 obtain⟨⟨v,h1⟩,h2⟩:=XN h (a*14+j) (by omega)
 exact⟨by rw[h1];rfl,h2⟩
theorem vP(h:VM P w0 w bv bm x m (ZY j i g pp b bj be A c dead) at_ there n)(k rr:Nat)(l s p0 p1 p2 p3 p4 p5 p6 p7 p8 p9:Int)(a:Int)(ha:¬ (0<=a/\a<(m.ino.length:Int))):
  qae Tryz.prog 45 #[.pointer bv,a,.agg #[.int .u8 k,.int .u8 rr,l,s,p0,p1,p2,p3,p4,p5,p6,p7,p8,p9]] w fun e w'=>e=.returned (.int .i64 1)/\VM P w0 w' bv bm x m (ZY j i g pp b bj be A c dead) at_ there n:=by
 have hal:=ZZ w (.cells #[.int .u8 k,.int .u8 rr,l,s,p0,p1,p2,p3,p4,p5,p6,p7,p8,p9] 40)
 have HB:=χ hal
 have Zl:qai (Bk (w.alloc (.cells #[.int .u8 k,.int .u8 rr,l,s,p0,p1,p2,p3,p4,p5,p6,p7,p8,p9] 40)) w.heap.size 40 [.int .u8 k,.int .u8 rr,l,s,p0,p1,p2,p3,p4,p5,p6,p7,p8,p9]):=χ (Bk.new w 40 [.int .u8 k,.int .u8 rr,l,s,p0,p1,p2,p3,p4,p5,p6,p7,p8,p9])
 have HV:=χ h
 have hv:=h.below hal
 have HH:qai (qae Tryz.prog 90 #[.pointer bv,a] (w.alloc (.cells #[.int .u8 k,.int .u8 rr,l,s,p0,p1,p2,p3,p4,p5,p6,p7,p8,p9] 40)) fun e w'=>e=.returned (.bool false)/\w.alloc (.cells #[.int .u8 k,.int .u8 rr,l,s,p0,p1,p2,p3,p4,p5,p6,p7,p8,p9] 40)=w'):=χ (by
  have:=VJ hv.vs a
  rwa[decide_eq_false ha]at this)
 obtain⟨c0,c1,c2,c3,c4⟩:=hv.vs.cells
 clear h hal hv ha
 go_enter Tryz.func45,Tryz.ntmps45
 go_upto_region 1 with fail
 generalize w.alloc (.cells #[.int .u8 k,.int .u8 rr,l,s,p0,p1,p2,p3,p4,p5,p6,p7,p8,p9] 40)=U at*
 obtain⟨z0,z1,z2,z3,z4,z5,z6,z7,z8,z9,X5,X4,z12,X3⟩:=Z0 Zl.out
 go_wp2_with (first|(go_at_call 90;go_must (with_reducible refine HH.out.mono ?_);rintro e w1 ⟨he,hb⟩;obtain rfl:=he;subst hb))
 go_ret
 exact⟨rfl,HV.out.below HB.out⟩
theorem vO(h:VM P w0 w bv bm x m (ZY j i g pp b bj be A c dead) at_ there n)(k rr:Nat)(l s p0 p1 p2 p3 p4 p5 p6 p7 p8 p9:Int)(hnd:Z9.YS ⟨k,rr,l,s,[p0,p1,p2,p3,p4,p5,p6,p7,p8,p9]⟩)(a:Nat)(ha:a<m.ino.length)(hn:¬ Z9.Right ⟨k,rr,l,s,[p0,p1,p2,p3,p4,p5,p6,p7,p8,p9]⟩):
  qae Tryz.prog 45 #[.pointer bv,a,.agg #[.int .u8 k,.int .u8 rr,l,s,p0,p1,p2,p3,p4,p5,p6,p7,p8,p9]] w fun e w'=>e=.returned (.int .i64 1)/\VM P w0 w' bv bm x m (ZY j i g pp b bj be A c dead) at_ there n:=by
 have hal:=ZZ w (.cells #[.int .u8 k,.int .u8 rr,l,s,p0,p1,p2,p3,p4,p5,p6,p7,p8,p9] 40)
 have HB:=χ hal
 have Zl:qai (Bk (w.alloc (.cells #[.int .u8 k,.int .u8 rr,l,s,p0,p1,p2,p3,p4,p5,p6,p7,p8,p9] 40)) w.heap.size 40 [.int .u8 k,.int .u8 rr,l,s,p0,p1,p2,p3,p4,p5,p6,p7,p8,p9]):=χ (Bk.new w 40 [.int .u8 k,.int .u8 rr,l,s,p0,p1,p2,p3,p4,p5,p6,p7,p8,p9])
 have HV:=χ h
 have hv:=h.below hal
 have HH:qai (qae Tryz.prog 90 #[.pointer bv,a] (w.alloc (.cells #[.int .u8 k,.int .u8 rr,l,s,p0,p1,p2,p3,p4,p5,p6,p7,p8,p9] 40)) fun e w'=>e=.returned (.bool true)/\w.alloc (.cells #[.int .u8 k,.int .u8 rr,l,s,p0,p1,p2,p3,p4,p5,p6,p7,p8,p9] 40)=w'):=χ (by
  have:=VJ hv.vs (a:Int)
  rwa[decide_eq_true ⟨by omega,by omega⟩]at this)
 have HR:qai (∀u:qaf,qae Tryz.prog 111 #[.agg #[.int .u8 k,.int .u8 rr,l,s,p0,p1,p2,p3,p4,p5,p6,p7,p8,p9]] u fun e w'=>e=.returned (.bool false)/\qaj u.heap.size u w'):=χ (fun u=>by
  have:=Z9.Ya ⟨k,rr,l,s,[p0,p1,p2,p3,p4,p5,p6,p7,p8,p9]⟩ hnd u
  rw[Z9.ZN hn]at this
  exact this)
 obtain⟨c0,c1,c2,c3,c4⟩:=hv.vs.cells
 clear h hal hv ha hnd hn
 go_enter Tryz.func45,Tryz.ntmps45
 go_upto_region 1 with fail
 generalize w.alloc (.cells #[.int .u8 k,.int .u8 rr,l,s,p0,p1,p2,p3,p4,p5,p6,p7,p8,p9] 40)=U at*
 obtain⟨z0,z1,z2,z3,z4,z5,z6,z7,z8,z9,X5,X4,z12,X3⟩:=Z0 Zl.out
 go_wp2_with (first|(go_at_call 90;go_must (with_reducible refine HH.out.mono ?_);rintro e w1 ⟨he,hb⟩;obtain rfl:=he;subst hb)|(go_at_call 111;go_must (with_reducible refine(HR.out _).mono ?_);rintro e w2 ⟨he,hb⟩;obtain rfl:=he;replace HB:=χ (HB.out.trans (hb.mono HB.out.size));replace Zl:=χ (Zl.out.below hb Zl.out.lt);clear hb;clear z0 z1 z2 z3 z4 z5 z6 z7 z8 z9 X5 X4 z12 X3;obtain⟨z0,z1,z2,z3,z4,z5,z6,z7,z8,z9,X5,X4,z12,X3⟩:=Z0 Zl.out;clear c0 c1 c2 c3 c4;obtain⟨c0,c1,c2,c3,c4⟩:=(HV.out.below HB.out).vs.cells))
 go_ret
 exact⟨rfl,HV.out.below HB.out⟩
theorem Av(h:VM P w0 w bv bm x m (ZY j i g pp b bj be A c dead) at_ there n)(k rr:Nat)(l s p0 p1 p2 p3 p4 p5 p6 p7 p8 p9:Int)(hnd:Z9.YS ⟨k,rr,l,s,[p0,p1,p2,p3,p4,p5,p6,p7,p8,p9]⟩)(a:Nat)(ha:a<m.ino.length)(hn:Z9.Right ⟨k,rr,l,s,[p0,p1,p2,p3,p4,p5,p6,p7,p8,p9]⟩)(hk:k=0):
  qae Tryz.prog 45 #[.pointer bv,a,.agg #[.int .u8 k,.int .u8 rr,l,s,p0,p1,p2,p3,p4,p5,p6,p7,p8,p9]] w fun e w'=>e=.returned (.int .i64 1)/\VM P w0 w' bv bm x m (ZY j i g pp b bj be A c dead) at_ there n:=by
 have hal:=ZZ w (.cells #[.int .u8 k,.int .u8 rr,l,s,p0,p1,p2,p3,p4,p5,p6,p7,p8,p9] 40)
 have HB:=χ hal
 have Zl:qai (Bk (w.alloc (.cells #[.int .u8 k,.int .u8 rr,l,s,p0,p1,p2,p3,p4,p5,p6,p7,p8,p9] 40)) w.heap.size 40 [.int .u8 k,.int .u8 rr,l,s,p0,p1,p2,p3,p4,p5,p6,p7,p8,p9]):=χ (Bk.new w 40 [.int .u8 k,.int .u8 rr,l,s,p0,p1,p2,p3,p4,p5,p6,p7,p8,p9])
 have HV:=χ h
 have hv:=h.below hal
 have HH:qai (qae Tryz.prog 90 #[.pointer bv,a] (w.alloc (.cells #[.int .u8 k,.int .u8 rr,l,s,p0,p1,p2,p3,p4,p5,p6,p7,p8,p9] 40)) fun e w'=>e=.returned (.bool true)/\w.alloc (.cells #[.int .u8 k,.int .u8 rr,l,s,p0,p1,p2,p3,p4,p5,p6,p7,p8,p9] 40)=w'):=χ (by
  have:=VJ hv.vs (a:Int)
  rwa[decide_eq_true ⟨by omega,by omega⟩]at this)
 have HR:qai (∀u:qaf,qae Tryz.prog 111 #[.agg #[.int .u8 k,.int .u8 rr,l,s,p0,p1,p2,p3,p4,p5,p6,p7,p8,p9]] u fun e w'=>e=.returned (.bool true)/\qaj u.heap.size u w'):=χ (fun u=>by
  have:=Z9.Ya ⟨k,rr,l,s,[p0,p1,p2,p3,p4,p5,p6,p7,p8,p9]⟩ hnd u
  rw[Z9.ZW hn]at this
  exact this)
 have HF:qai (∀u:qaf,qae Tryz.prog 91 #[.agg #[.int .u8 k,.int .u8 rr,l,s,p0,p1,p2,p3,p4,p5,p6,p7,p8,p9]] u fun e w'=>e=.returned (.bool true)/\qaj u.heap.size u w'):=χ (fun u=>by
  have:=YU ⟨k,rr,l,s,[p0,p1,p2,p3,p4,p5,p6,p7,p8,p9]⟩ hnd u
  rwa[show(k==0)=true by simp[hk]]at this)
 obtain⟨c0,c1,c2,c3,c4⟩:=hv.vs.cells
 clear h hal hv ha hnd hn hk
 go_enter Tryz.func45,Tryz.ntmps45
 go_upto_region 1 with fail
 generalize w.alloc (.cells #[.int .u8 k,.int .u8 rr,l,s,p0,p1,p2,p3,p4,p5,p6,p7,p8,p9] 40)=U at*
 obtain⟨z0,z1,z2,z3,z4,z5,z6,z7,z8,z9,X5,X4,z12,X3⟩:=Z0 Zl.out
 go_wp2_with (first|(go_at_call 90;go_must (with_reducible refine HH.out.mono ?_);rintro e w1 ⟨he,hb⟩;obtain rfl:=he;subst hb)|(go_at_call 111;go_must (with_reducible refine(HR.out _).mono ?_);rintro e w2 ⟨he,hb⟩;obtain rfl:=he;replace HB:=χ (HB.out.trans (hb.mono HB.out.size));replace Zl:=χ (Zl.out.below hb Zl.out.lt);clear hb;clear z0 z1 z2 z3 z4 z5 z6 z7 z8 z9 X5 X4 z12 X3;obtain⟨z0,z1,z2,z3,z4,z5,z6,z7,z8,z9,X5,X4,z12,X3⟩:=Z0 Zl.out;clear c0 c1 c2 c3 c4;obtain⟨c0,c1,c2,c3,c4⟩:=(HV.out.below HB.out).vs.cells)|(go_at_call 91;(with_reducible refine(HF.out _).mono ?_);rintro e w3 ⟨he,hb⟩;obtain rfl:=he;replace HB:=χ (HB.out.trans (hb.mono HB.out.size));replace Zl:=χ (Zl.out.below hb Zl.out.lt);clear hb;clear z0 z1 z2 z3 z4 z5 z6 z7 z8 z9 X5 X4 z12 X3;obtain⟨z0,z1,z2,z3,z4,z5,z6,z7,z8,z9,X5,X4,z12,X3⟩:=Z0 Zl.out;clear c0 c1 c2 c3 c4;obtain⟨c0,c1,c2,c3,c4⟩:=(HV.out.below HB.out).vs.cells))
 go_ret
 exact⟨rfl,HV.out.below HB.out⟩
theorem Au(h:VM P w0 w bv bm x m (ZY j i g pp b bj be A c dead) at_ there n)(k rr:Nat)(l s p0 p1 p2 p3 p4 p5 p6 p7 p8 p9:Int)(hnd:Z9.YS ⟨k,rr,l,s,[p0,p1,p2,p3,p4,p5,p6,p7,p8,p9]⟩)(XH:∀y∈m.ino,Z9.YS y)(hl:m.ino.length<=64)(a:Nat)(ha:a<m.ino.length)(hn:Z9.Right ⟨k,rr,l,s,[p0,p1,p2,p3,p4,p5,p6,p7,p8,p9]⟩)(hk:k≠0)(od:Z9.Zz)(hod:m.ino[a]? =some od)(hok:od.k=0):
  qae Tryz.prog 45 #[.pointer bv,a,.agg #[.int .u8 k,.int .u8 rr,l,s,p0,p1,p2,p3,p4,p5,p6,p7,p8,p9]] w fun e w'=>e=.returned (.int .i64 2)/\VM P w0 w' bv bm x m (ZY j i g pp b bj be A c dead) at_ there n:=by
 have hal:=ZZ w (.cells #[.int .u8 k,.int .u8 rr,l,s,p0,p1,p2,p3,p4,p5,p6,p7,p8,p9] 40)
 have HB:=χ hal
 have Zl:qai (Bk (w.alloc (.cells #[.int .u8 k,.int .u8 rr,l,s,p0,p1,p2,p3,p4,p5,p6,p7,p8,p9] 40)) w.heap.size 40 [.int .u8 k,.int .u8 rr,l,s,p0,p1,p2,p3,p4,p5,p6,p7,p8,p9]):=χ (Bk.new w 40 [.int .u8 k,.int .u8 rr,l,s,p0,p1,p2,p3,p4,p5,p6,p7,p8,p9])
 have HV:=χ h
 have hv:=h.below hal
 have HH:qai (qae Tryz.prog 90 #[.pointer bv,a] (w.alloc (.cells #[.int .u8 k,.int .u8 rr,l,s,p0,p1,p2,p3,p4,p5,p6,p7,p8,p9] 40)) fun e w'=>e=.returned (.bool true)/\w.alloc (.cells #[.int .u8 k,.int .u8 rr,l,s,p0,p1,p2,p3,p4,p5,p6,p7,p8,p9] 40)=w'):=χ (by
  have:=VJ hv.vs (a:Int)
  rwa[decide_eq_true ⟨by omega,by omega⟩]at this)
 have HR:qai (∀u:qaf,qae Tryz.prog 111 #[.agg #[.int .u8 k,.int .u8 rr,l,s,p0,p1,p2,p3,p4,p5,p6,p7,p8,p9]] u fun e w'=>e=.returned (.bool true)/\qaj u.heap.size u w'):=χ (fun u=>by
  have:=Z9.Ya ⟨k,rr,l,s,[p0,p1,p2,p3,p4,p5,p6,p7,p8,p9]⟩ hnd u
  rw[Z9.ZW hn]at this
  exact this)
 have HF:qai (∀u:qaf,qae Tryz.prog 91 #[.agg #[.int .u8 k,.int .u8 rr,l,s,p0,p1,p2,p3,p4,p5,p6,p7,p8,p9]] u fun e w'=>e=.returned (.bool false)/\qaj u.heap.size u w'):=χ (fun u=>by
  have:=YU ⟨k,rr,l,s,[p0,p1,p2,p3,p4,p5,p6,p7,p8,p9]⟩ hnd u
  rwa[show(k==0)=false by simp[hk]]at this)
 have Ir:=XH od (qag hod)
 have HO:qai (∀u:qaf,qae Tryz.prog 91 #[.agg (Z9.ZX od).toArray] u fun e w'=>e=.returned (.bool true)/\qaj u.heap.size u w'):=χ (fun u=>by
  have:=YU od Ir u
  rwa[show(od.k==0)=true by simp[hok]]at this)
 obtain⟨bi,ci,hA,hci⟩:=Zv hv.vs.met.ino (by omega)
 injection hA with hA _ _
 have Xg:=χ hA
 have Tk:=χ (fun(u:qaf) (hu:VM P w0 u bv bm x m (ZY j i g pp b bj be A c dead) at_ there n)=>Yo (by have:=hu.vs.met.lies.ino;rw[hA]at this;exact this) XH hod)
 simp only[qak]at Tk
 have qh:=χ (YI od Ir)
 have ha0:(0:Int)<=(a:Int):=by omega
 have ha1:(a:Int)<(m.ino.length:Int):=by omega
 have I6:qai ((Z9.ZX od)[0]? =some (.int .u8 od.k)/\(Z9.ZX od)[1]? =some (.int .u8 od.r)):=χ ⟨rfl,rfl⟩
 obtain⟨c0,c1,c2,c3,c4⟩:=hv.vs.cells
 rw[hA]at c3
 clear h hal hv ha hnd XH hl hn hk hod hok Ir hA hci
 generalize Z9.ZX od=cy at*
 generalize od.k=ok at*
 generalize od.r=or at*
 go_enter Tryz.func45,Tryz.ntmps45
 go_upto_region 1 with fail
 generalize w.alloc (.cells #[.int .u8 k,.int .u8 rr,l,s,p0,p1,p2,p3,p4,p5,p6,p7,p8,p9] 40)=U at*
 obtain⟨z0,z1,z2,z3,z4,z5,z6,z7,z8,z9,X5,X4,z12,X3⟩:=Z0 Zl.out
 go_wp2_with (first|(refine qah rfl 40 (.tmp 34) rfl bi (a*14) rfl cy _ (Tk.out _ (HV.out.below HB.out)) Tryz.underlying40 rfl qh.out ?_)|(go_at_call 90;go_must (with_reducible refine HH.out.mono ?_);rintro e w1 ⟨he,hb⟩;obtain rfl:=he;subst hb)|(go_at_call 111;go_must (with_reducible refine(HR.out _).mono ?_);rintro e w2 ⟨he,hb⟩;obtain rfl:=he;replace HB:=χ (HB.out.trans (hb.mono HB.out.size));replace Zl:=χ (Zl.out.below hb Zl.out.lt);clear hb;clear z0 z1 z2 z3 z4 z5 z6 z7 z8 z9 X5 X4 z12 X3;obtain⟨z0,z1,z2,z3,z4,z5,z6,z7,z8,z9,X5,X4,z12,X3⟩:=Z0 Zl.out;clear c0 c1 c2 c3 c4;obtain⟨c0,c1,c2,c3,c4⟩:=(HV.out.below HB.out).vs.cells;rw[Xg.out]at c3)|(go_at_call 91;(with_reducible refine(HF.out _).mono ?_);rintro e w3 ⟨he,hb⟩;obtain rfl:=he;replace HB:=χ (HB.out.trans (hb.mono HB.out.size));replace Zl:=χ (Zl.out.below hb Zl.out.lt);clear hb;clear z0 z1 z2 z3 z4 z5 z6 z7 z8 z9 X5 X4 z12 X3;obtain⟨z0,z1,z2,z3,z4,z5,z6,z7,z8,z9,X5,X4,z12,X3⟩:=Z0 Zl.out;clear c0 c1 c2 c3 c4;obtain⟨c0,c1,c2,c3,c4⟩:=(HV.out.below HB.out).vs.cells;rw[Xg.out]at c3)|(go_at_call 91;go_must (with_reducible refine(HO.out _).mono ?_);rintro e w4 ⟨he,hb⟩;obtain rfl:=he;replace HB:=χ (HB.out.trans (hb.mono HB.out.size));replace Zl:=χ (Zl.out.below hb Zl.out.lt);clear hb;clear z0 z1 z2 z3 z4 z5 z6 z7 z8 z9 X5 X4 z12 X3;obtain⟨z0,z1,z2,z3,z4,z5,z6,z7,z8,z9,X5,X4,z12,X3⟩:=Z0 Zl.out;clear c0 c1 c2 c3 c4;obtain⟨c0,c1,c2,c3,c4⟩:=(HV.out.below HB.out).vs.cells;rw[Xg.out]at c3))
 go_ret
 exact⟨rfl,HV.out.below HB.out⟩
theorem Ar(h:VM P w0 w bv bm x m (ZY j i g pp b bj be A c dead) at_ there n)(k rr:Nat)(l s p0 p1 p2 p3 p4 p5 p6 p7 p8 p9:Int)(hnd:Z9.YS ⟨k,rr,l,s,[p0,p1,p2,p3,p4,p5,p6,p7,p8,p9]⟩)(XH:∀y∈m.ino,Z9.YS y)(hl:m.ino.length<=64)(a:Nat)(ha:a<m.ino.length)(hn:Z9.Right ⟨k,rr,l,s,[p0,p1,p2,p3,p4,p5,p6,p7,p8,p9]⟩)(hk:k≠0)(od:Z9.Zz)(hod:m.ino[a]? =some od)(hok:od.k≠0)(hkk:k≠od.k):
  qae Tryz.prog 45 #[.pointer bv,a,.agg #[.int .u8 k,.int .u8 rr,l,s,p0,p1,p2,p3,p4,p5,p6,p7,p8,p9]] w fun e w'=>e=.returned (.int .i64 1)/\VM P w0 w' bv bm x m (ZY j i g pp b bj be A c dead) at_ there n:=by
 have hal:=ZZ w (.cells #[.int .u8 k,.int .u8 rr,l,s,p0,p1,p2,p3,p4,p5,p6,p7,p8,p9] 40)
 have HB:=χ hal
 have Zl:qai (Bk (w.alloc (.cells #[.int .u8 k,.int .u8 rr,l,s,p0,p1,p2,p3,p4,p5,p6,p7,p8,p9] 40)) w.heap.size 40 [.int .u8 k,.int .u8 rr,l,s,p0,p1,p2,p3,p4,p5,p6,p7,p8,p9]):=χ (Bk.new w 40 [.int .u8 k,.int .u8 rr,l,s,p0,p1,p2,p3,p4,p5,p6,p7,p8,p9])
 have HV:=χ h
 have hv:=h.below hal
 have HH:qai (qae Tryz.prog 90 #[.pointer bv,a] (w.alloc (.cells #[.int .u8 k,.int .u8 rr,l,s,p0,p1,p2,p3,p4,p5,p6,p7,p8,p9] 40)) fun e w'=>e=.returned (.bool true)/\w.alloc (.cells #[.int .u8 k,.int .u8 rr,l,s,p0,p1,p2,p3,p4,p5,p6,p7,p8,p9] 40)=w'):=χ (by
  have:=VJ hv.vs (a:Int)
  rwa[decide_eq_true ⟨by omega,by omega⟩]at this)
 have HR:qai (∀u:qaf,qae Tryz.prog 111 #[.agg #[.int .u8 k,.int .u8 rr,l,s,p0,p1,p2,p3,p4,p5,p6,p7,p8,p9]] u fun e w'=>e=.returned (.bool true)/\qaj u.heap.size u w'):=χ (fun u=>by
  have:=Z9.Ya ⟨k,rr,l,s,[p0,p1,p2,p3,p4,p5,p6,p7,p8,p9]⟩ hnd u
  rw[Z9.ZW hn]at this
  exact this)
 have HF:qai (∀u:qaf,qae Tryz.prog 91 #[.agg #[.int .u8 k,.int .u8 rr,l,s,p0,p1,p2,p3,p4,p5,p6,p7,p8,p9]] u fun e w'=>e=.returned (.bool false)/\qaj u.heap.size u w'):=χ (fun u=>by
  have:=YU ⟨k,rr,l,s,[p0,p1,p2,p3,p4,p5,p6,p7,p8,p9]⟩ hnd u
  rwa[show(k==0)=false by simp[hk]]at this)
 have Ir:=XH od (qag hod)
 have HO:qai (∀u:qaf,qae Tryz.prog 91 #[.agg (Z9.ZX od).toArray] u fun e w'=>e=.returned (.bool false)/\qaj u.heap.size u w'):=χ (fun u=>by
  have:=YU od Ir u
  rwa[show(od.k==0)=false by simp[hok]]at this)
 obtain⟨bi,ci,hA,hci⟩:=Zv hv.vs.met.ino (by omega)
 injection hA with hA _ _
 have Xg:=χ hA
 have Tk:=χ (fun(u:qaf) (hu:VM P w0 u bv bm x m (ZY j i g pp b bj be A c dead) at_ there n)=>Yo (by have:=hu.vs.met.lies.ino;rw[hA]at this;exact this) XH hod)
 simp only[qak]at Tk
 have qh:=χ (YI od Ir)
 have ha0:(0:Int)<=(a:Int):=by omega
 have ha1:(a:Int)<(m.ino.length:Int):=by omega
 have I6:qai ((Z9.ZX od)[0]? =some (.int .u8 od.k)/\(Z9.ZX od)[1]? =some (.int .u8 od.r)):=χ ⟨rfl,rfl⟩
 have hkq:((k:Int)==(od.k:Int))=false:=by simp;omega
 have hkz:¬ (k:Int)=(od.k:Int):=by omega
 obtain⟨c0,c1,c2,c3,c4⟩:=hv.vs.cells
 rw[hA]at c3
 clear h hal hv ha hnd XH hl hn hk hod hok Ir hA hci hkk
 generalize Z9.ZX od=cy at*
 generalize od.k=ok at*
 generalize od.r=or at*
 go_enter Tryz.func45,Tryz.ntmps45
 go_upto_region 1 with fail
 generalize w.alloc (.cells #[.int .u8 k,.int .u8 rr,l,s,p0,p1,p2,p3,p4,p5,p6,p7,p8,p9] 40)=U at*
 obtain⟨z0,z1,z2,z3,z4,z5,z6,z7,z8,z9,X5,X4,z12,X3⟩:=Z0 Zl.out
 go_upto_region 7 with(first|(refine qah rfl 40 (.tmp 34) rfl bi (a*14) rfl cy _ (Tk.out _ (HV.out.below HB.out)) Tryz.underlying40 rfl qh.out ?_)|(go_at_call 90;go_must (with_reducible refine HH.out.mono ?_);rintro e w1 ⟨he,hb⟩;obtain rfl:=he;subst hb)|(go_at_call 111;go_must (with_reducible refine(HR.out _).mono ?_);rintro e w2 ⟨he,hb⟩;obtain rfl:=he;replace HB:=χ (HB.out.trans (hb.mono HB.out.size));replace Zl:=χ (Zl.out.below hb Zl.out.lt);clear hb;clear z0 z1 z2 z3 z4 z5 z6 z7 z8 z9 X5 X4 z12 X3;obtain⟨z0,z1,z2,z3,z4,z5,z6,z7,z8,z9,X5,X4,z12,X3⟩:=Z0 Zl.out;clear c0 c1 c2 c3 c4;obtain⟨c0,c1,c2,c3,c4⟩:=(HV.out.below HB.out).vs.cells;rw[Xg.out]at c3)|(go_at_call 91;(with_reducible refine(HF.out _).mono ?_);rintro e w3 ⟨he,hb⟩;obtain rfl:=he;replace HB:=χ (HB.out.trans (hb.mono HB.out.size));replace Zl:=χ (Zl.out.below hb Zl.out.lt);clear hb;clear z0 z1 z2 z3 z4 z5 z6 z7 z8 z9 X5 X4 z12 X3;obtain⟨z0,z1,z2,z3,z4,z5,z6,z7,z8,z9,X5,X4,z12,X3⟩:=Z0 Zl.out;clear c0 c1 c2 c3 c4;obtain⟨c0,c1,c2,c3,c4⟩:=(HV.out.below HB.out).vs.cells;rw[Xg.out]at c3)|(go_at_call 91;go_must (with_reducible refine(HO.out _).mono ?_);rintro e w4 ⟨he,hb⟩;obtain rfl:=he;replace HB:=χ (HB.out.trans (hb.mono HB.out.size));replace Zl:=χ (Zl.out.below hb Zl.out.lt);clear hb;clear z0 z1 z2 z3 z4 z5 z6 z7 z8 z9 X5 X4 z12 X3;obtain⟨z0,z1,z2,z3,z4,z5,z6,z7,z8,z9,X5,X4,z12,X3⟩:=Z0 Zl.out;clear c0 c1 c2 c3 c4;obtain⟨c0,c1,c2,c3,c4⟩:=(HV.out.below HB.out).vs.cells;rw[Xg.out]at c3))
 have y0:=Tk.out _ (HV.out.below HB.out) 0 _ I6.out.1
 have y1:=Tk.out _ (HV.out.below HB.out) 1 _ I6.out.2
 simp only[qap]at y0
 go_quiet (fail)
 go_wp2
 go_ret
 exact⟨rfl,(HV.out.below HB.out).below (below_drewN (qao _ _) nq)⟩
theorem vN(h:VM P w0 w bv bm x m (ZY j i g pp b bj be A c dead) at_ there n)(k rr:Nat)(l s p0 p1 p2 p3 p4 p5 p6 p7 p8 p9:Int)(hnd:Z9.YS ⟨k,rr,l,s,[p0,p1,p2,p3,p4,p5,p6,p7,p8,p9]⟩)(XH:∀y∈m.ino,Z9.YS y)(hl:m.ino.length<=64)(a:Nat)(ha:a<m.ino.length)(hn:Z9.Right ⟨k,rr,l,s,[p0,p1,p2,p3,p4,p5,p6,p7,p8,p9]⟩)(hk:k≠0)(od:Z9.Zz)(hod:m.ino[a]? =some od)(hok:od.k≠0)(hkk:k=od.k)(hrr:rr≠od.r):
  qae Tryz.prog 45 #[.pointer bv,a,.agg #[.int .u8 k,.int .u8 rr,l,s,p0,p1,p2,p3,p4,p5,p6,p7,p8,p9]] w fun e w'=>e=.returned (.int .i64 1)/\VM P w0 w' bv bm x m (ZY j i g pp b bj be A c dead) at_ there n:=by
 have hal:=ZZ w (.cells #[.int .u8 k,.int .u8 rr,l,s,p0,p1,p2,p3,p4,p5,p6,p7,p8,p9] 40)
 have HB:=χ hal
 have Zl:qai (Bk (w.alloc (.cells #[.int .u8 k,.int .u8 rr,l,s,p0,p1,p2,p3,p4,p5,p6,p7,p8,p9] 40)) w.heap.size 40 [.int .u8 k,.int .u8 rr,l,s,p0,p1,p2,p3,p4,p5,p6,p7,p8,p9]):=χ (Bk.new w 40 [.int .u8 k,.int .u8 rr,l,s,p0,p1,p2,p3,p4,p5,p6,p7,p8,p9])
 have HV:=χ h
 have hv:=h.below hal
 have HH:qai (qae Tryz.prog 90 #[.pointer bv,a] (w.alloc (.cells #[.int .u8 k,.int .u8 rr,l,s,p0,p1,p2,p3,p4,p5,p6,p7,p8,p9] 40)) fun e w'=>e=.returned (.bool true)/\w.alloc (.cells #[.int .u8 k,.int .u8 rr,l,s,p0,p1,p2,p3,p4,p5,p6,p7,p8,p9] 40)=w'):=χ (by
  have:=VJ hv.vs (a:Int)
  rwa[decide_eq_true ⟨by omega,by omega⟩]at this)
 have HR:qai (∀u:qaf,qae Tryz.prog 111 #[.agg #[.int .u8 k,.int .u8 rr,l,s,p0,p1,p2,p3,p4,p5,p6,p7,p8,p9]] u fun e w'=>e=.returned (.bool true)/\qaj u.heap.size u w'):=χ (fun u=>by
  have:=Z9.Ya ⟨k,rr,l,s,[p0,p1,p2,p3,p4,p5,p6,p7,p8,p9]⟩ hnd u
  rw[Z9.ZW hn]at this
  exact this)
 have HF:qai (∀u:qaf,qae Tryz.prog 91 #[.agg #[.int .u8 k,.int .u8 rr,l,s,p0,p1,p2,p3,p4,p5,p6,p7,p8,p9]] u fun e w'=>e=.returned (.bool false)/\qaj u.heap.size u w'):=χ (fun u=>by
  have:=YU ⟨k,rr,l,s,[p0,p1,p2,p3,p4,p5,p6,p7,p8,p9]⟩ hnd u
  rwa[show(k==0)=false by simp[hk]]at this)
 have Ir:=XH od (qag hod)
 have HO:qai (∀u:qaf,qae Tryz.prog 91 #[.agg (Z9.ZX od).toArray] u fun e w'=>e=.returned (.bool false)/\qaj u.heap.size u w'):=χ (fun u=>by
  have:=YU od Ir u
  rwa[show(od.k==0)=false by simp[hok]]at this)
 obtain⟨bi,ci,hA,hci⟩:=Zv hv.vs.met.ino (by omega)
 injection hA with hA _ _
 have Xg:=χ hA
 have Tk:=χ (fun(u:qaf) (hu:VM P w0 u bv bm x m (ZY j i g pp b bj be A c dead) at_ there n)=>Yo (by have:=hu.vs.met.lies.ino;rw[hA]at this;exact this) XH hod)
 simp only[qak]at Tk
 have qh:=χ (YI od Ir)
 have ha0:(0:Int)<=(a:Int):=by omega
 have ha1:(a:Int)<(m.ino.length:Int):=by omega
 have I6:qai ((Z9.ZX od)[0]? =some (.int .u8 od.k)/\(Z9.ZX od)[1]? =some (.int .u8 od.r)):=χ ⟨rfl,rfl⟩
 rw[<-hkk]at I6
 have hrq:((rr:Int)==(od.r:Int))=false:=by simp;omega
 have hrz:¬ (rr:Int)=(od.r:Int):=by omega
 obtain⟨c0,c1,c2,c3,c4⟩:=hv.vs.cells
 rw[hA]at c3
 clear h hal hv ha hnd XH hl hn hk hod hok Ir hA hci hkk hrr
 generalize Z9.ZX od=cy at*
 generalize od.k=ok at*
 generalize od.r=or at*
 go_enter Tryz.func45,Tryz.ntmps45
 go_upto_region 1 with fail
 generalize w.alloc (.cells #[.int .u8 k,.int .u8 rr,l,s,p0,p1,p2,p3,p4,p5,p6,p7,p8,p9] 40)=U at*
 obtain⟨z0,z1,z2,z3,z4,z5,z6,z7,z8,z9,X5,X4,z12,X3⟩:=Z0 Zl.out
 go_upto_region 7 with(first|(refine qah rfl 40 (.tmp 34) rfl bi (a*14) rfl cy _ (Tk.out _ (HV.out.below HB.out)) Tryz.underlying40 rfl qh.out ?_)|(go_at_call 90;go_must (with_reducible refine HH.out.mono ?_);rintro e w1 ⟨he,hb⟩;obtain rfl:=he;subst hb)|(go_at_call 111;go_must (with_reducible refine(HR.out _).mono ?_);rintro e w2 ⟨he,hb⟩;obtain rfl:=he;replace HB:=χ (HB.out.trans (hb.mono HB.out.size));replace Zl:=χ (Zl.out.below hb Zl.out.lt);clear hb;clear z0 z1 z2 z3 z4 z5 z6 z7 z8 z9 X5 X4 z12 X3;obtain⟨z0,z1,z2,z3,z4,z5,z6,z7,z8,z9,X5,X4,z12,X3⟩:=Z0 Zl.out;clear c0 c1 c2 c3 c4;obtain⟨c0,c1,c2,c3,c4⟩:=(HV.out.below HB.out).vs.cells;rw[Xg.out]at c3)|(go_at_call 91;(with_reducible refine(HF.out _).mono ?_);rintro e w3 ⟨he,hb⟩;obtain rfl:=he;replace HB:=χ (HB.out.trans (hb.mono HB.out.size));replace Zl:=χ (Zl.out.below hb Zl.out.lt);clear hb;clear z0 z1 z2 z3 z4 z5 z6 z7 z8 z9 X5 X4 z12 X3;obtain⟨z0,z1,z2,z3,z4,z5,z6,z7,z8,z9,X5,X4,z12,X3⟩:=Z0 Zl.out;clear c0 c1 c2 c3 c4;obtain⟨c0,c1,c2,c3,c4⟩:=(HV.out.below HB.out).vs.cells;rw[Xg.out]at c3)|(go_at_call 91;go_must (with_reducible refine(HO.out _).mono ?_);rintro e w4 ⟨he,hb⟩;obtain rfl:=he;replace HB:=χ (HB.out.trans (hb.mono HB.out.size));replace Zl:=χ (Zl.out.below hb Zl.out.lt);clear hb;clear z0 z1 z2 z3 z4 z5 z6 z7 z8 z9 X5 X4 z12 X3;obtain⟨z0,z1,z2,z3,z4,z5,z6,z7,z8,z9,X5,X4,z12,X3⟩:=Z0 Zl.out;clear c0 c1 c2 c3 c4;obtain⟨c0,c1,c2,c3,c4⟩:=(HV.out.below HB.out).vs.cells;rw[Xg.out]at c3))
 have y0:=Tk.out _ (HV.out.below HB.out) 0 _ I6.out.1
 have y1:=Tk.out _ (HV.out.below HB.out) 1 _ I6.out.2
 simp only[qap]at y0
 go_quiet (fail)
 go_wp2
 go_ret
 exact⟨rfl,(HV.out.below HB.out).below (below_drewN (qao _ _) nq)⟩
theorem MJ(h:VM P w0 w bv bm x m (ZY j i g pp b bj be A c dead) at_ there n)(k rr:Nat)(l s p0 p1 p2 p3 p4 p5 p6 p7 p8 p9:Int)(hnd:Z9.YS ⟨k,rr,l,s,[p0,p1,p2,p3,p4,p5,p6,p7,p8,p9]⟩)(XH:∀y∈m.ino,Z9.YS y)(hl:m.ino.length<=64)(a:Nat)(ha:a<m.ino.length)(hn:Z9.Right ⟨k,rr,l,s,[p0,p1,p2,p3,p4,p5,p6,p7,p8,p9]⟩)(hk:k≠0)(od:Z9.Zz)(hod:m.ino[a]? =some od)(hok:od.k≠0)(hkk:k=od.k)(hrr:rr=od.r):
  qae Tryz.prog 45 #[.pointer bv,a,.agg #[.int .u8 k,.int .u8 rr,l,s,p0,p1,p2,p3,p4,p5,p6,p7,p8,p9]] w fun e w'=>e=.returned (.int .i64 0)/\VM P w0 w' bv bm x {m with ino:=m.ino.set a ⟨k,rr,l,s,[p0,p1,p2,p3,p4,p5,p6,p7,p8,p9]⟩} (ZY j i g pp b bj be A c dead) at_ there n:=by
 have hal:=ZZ w (.cells #[.int .u8 k,.int .u8 rr,l,s,p0,p1,p2,p3,p4,p5,p6,p7,p8,p9] 40)
 have HB:=χ hal
 have Zl:qai (Bk (w.alloc (.cells #[.int .u8 k,.int .u8 rr,l,s,p0,p1,p2,p3,p4,p5,p6,p7,p8,p9] 40)) w.heap.size 40 [.int .u8 k,.int .u8 rr,l,s,p0,p1,p2,p3,p4,p5,p6,p7,p8,p9]):=χ (Bk.new w 40 [.int .u8 k,.int .u8 rr,l,s,p0,p1,p2,p3,p4,p5,p6,p7,p8,p9])
 have HV:=χ h
 have hv:=h.below hal
 have HH:qai (qae Tryz.prog 90 #[.pointer bv,a] (w.alloc (.cells #[.int .u8 k,.int .u8 rr,l,s,p0,p1,p2,p3,p4,p5,p6,p7,p8,p9] 40)) fun e w'=>e=.returned (.bool true)/\w.alloc (.cells #[.int .u8 k,.int .u8 rr,l,s,p0,p1,p2,p3,p4,p5,p6,p7,p8,p9] 40)=w'):=χ (by
  have:=VJ hv.vs (a:Int)
  rwa[decide_eq_true ⟨by omega,by omega⟩]at this)
 have HR:qai (∀u:qaf,qae Tryz.prog 111 #[.agg #[.int .u8 k,.int .u8 rr,l,s,p0,p1,p2,p3,p4,p5,p6,p7,p8,p9]] u fun e w'=>e=.returned (.bool true)/\qaj u.heap.size u w'):=χ (fun u=>by
  have:=Z9.Ya ⟨k,rr,l,s,[p0,p1,p2,p3,p4,p5,p6,p7,p8,p9]⟩ hnd u
  rw[Z9.ZW hn]at this
  exact this)
 have HF:qai (∀u:qaf,qae Tryz.prog 91 #[.agg #[.int .u8 k,.int .u8 rr,l,s,p0,p1,p2,p3,p4,p5,p6,p7,p8,p9]] u fun e w'=>e=.returned (.bool false)/\qaj u.heap.size u w'):=χ (fun u=>by
  have:=YU ⟨k,rr,l,s,[p0,p1,p2,p3,p4,p5,p6,p7,p8,p9]⟩ hnd u
  rwa[show(k==0)=false by simp[hk]]at this)
 have Ir:=XH od (qag hod)
 have HO:qai (∀u:qaf,qae Tryz.prog 91 #[.agg (Z9.ZX od).toArray] u fun e w'=>e=.returned (.bool false)/\qaj u.heap.size u w'):=χ (fun u=>by
  have:=YU od Ir u
  rwa[show(od.k==0)=false by simp[hok]]at this)
 obtain⟨bi,ci,hA,hci⟩:=Zv hv.vs.met.ino (by omega)
 injection hA with hA _ _
 have Xg:=χ hA
 have Tk:=χ (fun(u:qaf) (hu:VM P w0 u bv bm x m (ZY j i g pp b bj be A c dead) at_ there n)=>Yo (by have:=hu.vs.met.lies.ino;rw[hA]at this;exact this) XH hod)
 simp only[qak]at Tk
 have qh:=χ (YI od Ir)
 have ha0:(0:Int)<=(a:Int):=by omega
 have ha1:(a:Int)<(m.ino.length:Int):=by omega
 have I6:qai ((Z9.ZX od)[0]? =some (.int .u8 od.k)/\(Z9.ZX od)[1]? =some (.int .u8 od.r)):=χ ⟨rfl,rfl⟩
 rw[<-hkk]at I6
 rw[<-hrr]at I6
 have NW:qai (∀(u:qaf),VM P w0 u bv bm x m (ZY j i g pp b bj be A c dead) at_ there n->VM P w0 (u.setCells bi (a*14) [.int .u8 k,.int .u8 rr,l,s,p0,p1,p2,p3,p4,p5,p6,p7,p8,p9]) bv bm x {m with ino:=m.ino.set a ⟨k,rr,l,s,[p0,p1,p2,p3,p4,p5,p6,p7,p8,p9]⟩} (ZY j i g pp b bj be A c dead) at_ there n):=χ (fun u hu=>by
  have hcell:Z9.ZX ⟨k,rr,l,s,[p0,p1,p2,p3,p4,p5,p6,p7,p8,p9]⟩=[.int .u8 k,.int .u8 rr,.int .i64 l,.int .i64 s,.int .i64 p0,.int .i64 p1,.int .i64 p2,.int .i64 p3,.int .i64 p4,.int .i64 p5,.int .i64 p6,.int .i64 p7,.int .i64 p8,.int .i64 p9]:=rfl
  rw[<-hcell]
  exact hu.inode XH hA ha hnd)
 have Oz:=χ (fun(u:qaf) (hu:VM P w0 u bv bm x m (ZY j i g pp b bj be A c dead) at_ there n)=>Xu (by have:=hu.vs.met.ino;rw[hA]at this;exact this) ha)
 obtain⟨c0,c1,c2,c3,c4⟩:=hv.vs.cells
 rw[hA]at c3
 clear h hal hv ha hnd XH hl hn hk hod hok Ir hA hci hkk hrr
 generalize Z9.ZX od=cy at*
 generalize od.k=ok at*
 generalize od.r=or at*
 go_enter Tryz.func45,Tryz.ntmps45
 go_upto_region 1 with fail
 have su:qai (w.heap.size≠bi):=χ (by
  intro e
  have:=(HV.out.vs.met.ino).lt bi (by rw[Xg.out];rfl)
  omega)
 generalize w.alloc (.cells #[.int .u8 k,.int .u8 rr,l,s,p0,p1,p2,p3,p4,p5,p6,p7,p8,p9] 40)=U at*
 obtain⟨z0,z1,z2,z3,z4,z5,z6,z7,z8,z9,X5,X4,z12,X3⟩:=Z0 Zl.out
 go_upto_region 7 with(first|(refine qah rfl 40 (.tmp 34) rfl bi (a*14) rfl cy _ (Tk.out _ (HV.out.below HB.out)) Tryz.underlying40 rfl qh.out ?_)|(go_at_call 90;go_must (with_reducible refine HH.out.mono ?_);rintro e w1 ⟨he,hb⟩;obtain rfl:=he;subst hb)|(go_at_call 111;go_must (with_reducible refine(HR.out _).mono ?_);rintro e w2 ⟨he,hb⟩;obtain rfl:=he;replace HB:=χ (HB.out.trans (hb.mono HB.out.size));replace Zl:=χ (Zl.out.below hb Zl.out.lt);clear hb;clear z0 z1 z2 z3 z4 z5 z6 z7 z8 z9 X5 X4 z12 X3;obtain⟨z0,z1,z2,z3,z4,z5,z6,z7,z8,z9,X5,X4,z12,X3⟩:=Z0 Zl.out;clear c0 c1 c2 c3 c4;obtain⟨c0,c1,c2,c3,c4⟩:=(HV.out.below HB.out).vs.cells;rw[Xg.out]at c3)|(go_at_call 91;(with_reducible refine(HF.out _).mono ?_);rintro e w3 ⟨he,hb⟩;obtain rfl:=he;replace HB:=χ (HB.out.trans (hb.mono HB.out.size));replace Zl:=χ (Zl.out.below hb Zl.out.lt);clear hb;clear z0 z1 z2 z3 z4 z5 z6 z7 z8 z9 X5 X4 z12 X3;obtain⟨z0,z1,z2,z3,z4,z5,z6,z7,z8,z9,X5,X4,z12,X3⟩:=Z0 Zl.out;clear c0 c1 c2 c3 c4;obtain⟨c0,c1,c2,c3,c4⟩:=(HV.out.below HB.out).vs.cells;rw[Xg.out]at c3)|(go_at_call 91;go_must (with_reducible refine(HO.out _).mono ?_);rintro e w4 ⟨he,hb⟩;obtain rfl:=he;replace HB:=χ (HB.out.trans (hb.mono HB.out.size));replace Zl:=χ (Zl.out.below hb Zl.out.lt);clear hb;clear z0 z1 z2 z3 z4 z5 z6 z7 z8 z9 X5 X4 z12 X3;obtain⟨z0,z1,z2,z3,z4,z5,z6,z7,z8,z9,X5,X4,z12,X3⟩:=Z0 Zl.out;clear c0 c1 c2 c3 c4;obtain⟨c0,c1,c2,c3,c4⟩:=(HV.out.below HB.out).vs.cells;rw[Xg.out]at c3))
 have y0:=Tk.out _ (HV.out.below HB.out) 0 _ I6.out.1
 have y1:=Tk.out _ (HV.out.below HB.out) 1 _ I6.out.2
 simp only[qap]at y0
 go_quiet (fail)
 go_upto_region 9 with fail
 obtain⟨cx,hcx⟩:∃cx:List qam,cx=[.int .u8 k,.int .u8 rr,.int .i64 l,.int .i64 s,.int .i64 p0,.int .i64 p1,.int .i64 p2,.int .i64 p3,.int .i64 p4,.int .i64 p5,.int .i64 p6,.int .i64 p7,.int .i64 p8,.int .i64 p9]:=⟨_,rfl⟩
 have qg:qai (Bk w4 w.heap.size 40 cx):=χ (by rw[hcx];exact Zl.out)
 have HL:qai (cx.length=14):=χ (by rw[hcx];rfl)
 have H1:qai (∀v∈cx,v.oneCell'=true):=χ (by rw[hcx];exact XW ⟨k,rr,l,s,[p0,p1,p2,p3,p4,p5,p6,p7,p8,p9]⟩)
 have fF:qai (∀(u:qaf),VM P w0 u bv bm x m (ZY j i g pp b bj be A c dead) at_ there n->VM P w0 (u.setCells bi (a*14) cx) bv bm x {m with ino:=m.ino.set a ⟨k,rr,l,s,[p0,p1,p2,p3,p4,p5,p6,p7,p8,p9]⟩} (ZY j i g pp b bj be A c dead) at_ there n):=χ (by rw[hcx];exact NW.out)
 have fE:qai (∀(u:qaf),VM P w0 u bv bm x m (ZY j i g pp b bj be A c dead) at_ there n->u.there bi (a*14) cx.toArray.size):=χ (fun u hu=>by rw[show cx.toArray.size=14 by simp[HL.out]];exact Oz.out u hu)
 have kR:qai ((Tryz.prog.info? 40).map (·.size)=some cx.length):=χ (by rw[HL.out];exact Zj)
 have fD:=χ (NU cx HL.out)
 clear hcx NW Oz Zl
 have Vm:=χ (((HV.out.below HB.out).below (below_drewN (qao _ _) nq)).below (qao _ _).drew)
 have NT:qai (Bk (w4.drewN nq).drew w.heap.size 40 cx):=χ qg.out
 obtain⟨e0,e1,e2,e3,e4⟩:=Vm.out.vs.cells
 rw[Xg.out]at e3
 have hS0:(w4.drewN nq).drew.cell? ⟨bv,3,none⟩=some (.slice bi m.ino.length x.ic)/\Bk (w4.drewN nq).drew w.heap.size 40 cx:=⟨e3,NT.out⟩
 refine wp_region_held_drew (S:=fun u=>u.cell? ⟨bv,3,none⟩=some (.slice bi m.ino.length x.ic)/\Bk u w.heap.size 40 cx) (by kernel_rfl) hS0 (fun hHeld=>?_)
 clear hS0 qg HB y0 y1 c0 c1 c2 c3 c4 e0 e1 e2 e3 e4 z0 z1 z2 z3 z4 z5 z6 z7 z8 z9 X5 X4 z12 X3
 generalize hu0:(w4.drewN nq).drew=NS at*
 clear hu0
 refine tk 0 ?_ (y:=.inl ⟨by rfl,?hya0⟩) (s:=by exact hHeld) (h:=?V4)
 case hya0=>(rintro u ⟨c3,YE⟩;clear YE;go_simp<;>with_reducible rfl)
 try simp only[qad,qaa,qab,qac]
 refine tk 1 ?_ (y:=.inl ⟨by rfl,?hya1⟩) (s:=by exact hHeld) (h:=?Wn)
 case hya1=>(rintro u ⟨c3,YE⟩;clear YE;go_simp<;>with_reducible rfl)
 try simp only[qad,qaa,qab,qac]
 refine tk 2 ?_ (y:=.inl ⟨by rfl,?hya2⟩) (s:=by exact hHeld) (h:=?Wm)
 case hya2=>(rintro u ⟨c3,YE⟩;clear YE;go_simp<;>with_reducible rfl)
 try simp only[qad,qaa,qab,qac]
 refine tk 3 ?_ (y:=.inl ⟨by rfl,?hya3⟩) (s:=by exact hHeld) (h:=?Tp)
 case hya3=>(rintro u ⟨c3,YE⟩;clear YE;go_simp<;>with_reducible rfl)
 try simp only[qad,qaa,qab,qac]
 refine tk 4 ?_ (y:=.inl ⟨by rfl,?hya4⟩) (s:=by exact hHeld) (h:=?TJ)
 case hya4=>(rintro u ⟨c3,YE⟩;clear YE;go_simp<;>with_reducible rfl)
 try simp only[qad,qaa,qab,qac]
 refine tk 5 ?_ (y:=.inl ⟨by rfl,?hya5⟩) (s:=by exact hHeld) (h:=?Vw)
 case hya5=>(rintro u ⟨c3,YE⟩;clear YE;go_simp<;>with_reducible rfl)
 try simp only[qad,qaa,qab,qac]
 refine tk 6 ?_ (y:=.inl ⟨by rfl,?hya6⟩) (s:=by exact hHeld) (h:=?Vg)
 case hya6=>(rintro u ⟨c3,YE⟩;clear YE;go_simp<;>with_reducible rfl)
 try simp only[qad,qaa,qab,qac]
 refine tk 7 _ (y:=(yieldsIf_load_mid (by rfl) 40 _ rfl w.heap.size 0 rfl cx _ (fun u hu=>Yp hu.2) Tryz.underlying40 rfl kR.out)) (s:=by exact hHeld) (h:=?_)
 try simp only[qad,qaa,qab,qac]
 refine tk 8 ?_ (y:=.inl ⟨by rfl,?hya8⟩) (s:=by exact hHeld) (h:=?RJ)
 case hya8=>(rintro u ⟨c3,YE⟩;clear YE;go_simp<;>with_reducible rfl)
 try simp only[qad,qaa,qab,qac]
 refine rd 9 (h:=fun K hK=>?_)
 rw[if_pos (by rfl)]
 refine wp_store_mid 40 _ _ rfl bi (a*14) cx.toArray rfl rfl (fE.out _ Vm.out) fD.out (qal H1.out) ?_
 simp only[qad]
 have RQ:=χ (fF.out _ Vm.out)
 obtain⟨e0,e1,e2,e3,e4⟩:=RQ.out.vs.cells
 rw[Xg.out]at e3
 simp only[List.length_set]at e3
 refine hK.out _ _ ⟨e3,SI su.out cx (a*14) NT.out⟩ (fun Z4=>?_)
 clear hK K hHeld Z4 e0 e1 e2 e3 e4
 try simp only[qad,qaa,qab,qac]
 refine wpAnyH_done (by kernel_rfl) ?_ _
 go_wp2
 go_ret
 exact⟨rfl,RQ.out⟩
end
end Go.Proofs.YtmehhgfbnfbnaaaGreat.Y7
