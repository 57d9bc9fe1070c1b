import Derived.Test.YtmehhgfbnfbnaaaGreatQVolC
import Derived.Test.YtmehhgfbnfbnaaaGreatQMetaX9
import Derived.Test.YtmehhgfbnfbnaaaGreatQTk
set_option maxRecDepth 100000
set_option maxHeartbeats 25600000
open List renaming setIfInBounds_toArray->qaa,set_cons_zero->qab,set_cons_succ->qac,getElem?_eq_some_iff->qaf
open Go.Act renaming put->qad
open Nat renaming zero_add->qae
open Go renaming Value->qag,World->qah,wp_region_held_drew->qaj,Calls->qak
open Int renaming natCast_mul->qai
open Go.IntKind renaming wrap_i64->qal
open Go.RowKit.Below renaming refl->qam
namespace Go.Proofs.YtmehhgfbnfbnaaaGreat.Y7
open Go.RowKit Zc Meta
section
variable {w w':qah}{bm bv e n:Nat}{P:Nat->Prop}{x:Meta.Mem}{m:Meta.Met}{rest xs:List qag}
theorem KH(h:Vs P w bv x m bm rest)(q r:Nat)(y:Z8.Rw)(hq:m.own[q]? =some ((r:Int)+1))(hy:m.rows[r]? =some y)(hl:m.rows.length=16)(hg:m.own.length<=64):
  qak Tryz.prog 172 #[.pointer bv,q] w fun e w'=>e=.returned (.int .u16 y.lab)/\∃n,w'=w.drewN n:=by
 obtain⟨c0,c1,c2,c3,c4⟩:=h.cells
 have hlr:=h.met.lies
 have eU:=(qaf.1 hy).1
 have MK:=(qaf.1 hq).1
 obtain⟨b,o,hA,-⟩:=Y3 hlr.own (by rw[Z9.Zp];omega)
 have hlo:=hlr.own
 rw[hA]at hlo c1
 have hco:=Yy hlo hq
 rcases Z8.VW hlr.rows with h0|⟨b2,o2,hA2,-,hat⟩
 ·rw[h0]at hy;simp at hy
 obtain⟨h1,-⟩:=hat r y hy
 rw[hA2,hl]at c0
 have hq0:(0:Int)<=(q:Int):=by omega
 have hq1:(q:Int)<(m.own.length:Int):=by omega
 have hr0:(0:Int)<=(r:Int):=by omega
 have hr1:(r:Int)<16:=by omega
 have hw:IntKind.i64.wrap ((r:Int)+1-1)=(r:Int):=by rw[qal];omega
 clear h hlr hlo hat hq hy hl eU MK hA hA2 hg
 generalize m.own.length=G at*
 go_enter Tryz.func172,Tryz.ntmps172
 go_upto_region 1 with fail
 go_quiet (fail)
 go_wp2
 go_ret
 exact⟨rfl,nq,rfl⟩
theorem QD(hM:∃es clock,w.heap[bm]? =some (.map es clock))(hk:Kept (· =bm) w w'){base k:Nat}{v:qag}(h:w.ownsRow base e k v n xs):w'.ownsRow base e k v n xs:=by
 refine⟨h.1,?_⟩
 rcases h.2 with h2|⟨g,cap,cur,h1,hb,hc,h3⟩
 ·exact .inl h2
 ·refine .inr ⟨g,cap,cur,h1,hb,?_,h3⟩
  rw[hk.block g (Xp hc) (fun hg=>by
   have hg:g=bm:=hg
   subst hg
   obtain⟨es,cl,hM⟩:=hM
   rw[hc]at hM
   cases hM)]
  exact hc
theorem Ac(hM:∃es clock,w.heap[bm]? =some (.map es clock))(hk:Kept (· =bm) w w')(h:Bk w bv e xs):Bk w' bv e xs:=
 (hk.block bv h.lt (fun hg=>by
   have hg:bv=bm:=hg
   subst hg
   obtain⟨es,cl,hM⟩:=hM
   have h:w.heap[bv]? =_:=h
   rw[h]at hM
   cases hM)).trans h
theorem Vs.map (h:Vs P w bv x m bm rest){b:Nat}(hM:∃es clock,w.heap[b]? =some (.map es clock))(hk:Kept (· =b) w w'):Vs P w' bv x m bm rest:=
 ⟨Ac hM hk h.box,⟨QD hM hk h.met.rows,QD hM hk h.met.own,QD hM hk h.met.used,QD hM hk h.met.ino⟩,h.pv,h.pr,h.po,h.pu,h.pi⟩
theorem below_drewN{B:Nat}{a:qah}(h:Below B a w)(n:Nat):Below B a (w.drewN n):=⟨h.os,h.tape,h.output,h.size,h.block⟩
theorem KG(c:Sx)(Z:Array qag)(hz:Z.size=65):((Z7 c.b).zipIdx.foldl (fun cs x=>cs.setIfInBounds x.2 x.1) Z).size=65/\(((Z7 c.b).zipIdx.foldl (fun cs x=>cs.setIfInBounds x.2 x.1) Z).setIfInBounds 64 (.int .u16 c.t))=(sx c).toArray:=by
 have hl:(Z7 c.b).length=64:=by rw[Z5,c.hb]
 have hg:=fun k=>NI (Z7 c.b) 0 0 Z k
 simp only[qae,Nat.sub_zero,Nat.zero_le,true_and,hl,hz]at hg
 have hs:∀(l:List (qag × Nat))(Y:Array qag),(l.foldl (fun cs x=>cs.setIfInBounds x.2 x.1) Y).size=Y.size:=fun l=>by
  induction l with
  |nil=>intro Y;rfl
  |cons p r ih=>intro Y;rw[List.foldl_cons,ih];simp
 refine⟨(hs _ _).trans hz,?_⟩
 apply Array.ext_getElem?
 intro k
 rw[Array.getElem?_setIfInBounds,hg,hs,hz]
 have h2:(sx c).toArray[k]? =(Z7 c.b++[.int .u16 c.t])[k]? :=by simp[sx]
 rw[h2]
 rcases Nat.lt_trichotomy k 64 with h|h|h
 ·rw[if_neg (by omega),if_pos (by omega),List.getElem?_append_left (by omega)]
 ·subst h
  rw[if_pos rfl,if_pos (by omega),List.getElem?_append_right (by omega),hl]
  rfl
 ·rw[if_neg (by omega),if_neg (by omega),Array.getElem?_eq_none (by omega),List.getElem?_eq_none (by simp[hl];omega)]
theorem SG:Tryz.zeroCells163.size=65:=by kernel_rfl
theorem KL:(Tryz.prog.info? 161).map (·.size)=some 64:=by kernel_rfl
theorem Al(h:Vs P w bv x m bm rest){at_:Int->Sx}{there:Int->Bool}(hm:Yt RI RH zx w bm at_ there n)(hn:n<maxLen)(q r:Nat)(y:Z8.Rw)(hq:m.own[q]? =some ((r:Int)+1))(hy:m.rows[r]? =some y)(hl:m.rows.length=16)(hg:m.own.length<=64)(a:Nat)(ha:a<512)(c:Sx)(hct:c.t=y.lab):
  qak Tryz.prog 108 #[.pointer bv,a,q,.agg (Z7 c.b).toArray] w fun e w'=>e=.returned (.tuple #[])/\Yt RI RH zx w' bm (fun k=>if k=(a:Int)then c else at_ k) (fun k=>k==(a:Int)||there k) (if there (a:Int)then n else n+1)/\Kept (· =bm) w w':=by
 have HV:=χ h
 have HM:=χ hm
 have HN:=χ hn
 have eX:Hid (∀u:qah,Vs P u bv x m bm rest->qak Tryz.prog 172 #[.pointer bv,q] u fun e w'=>e=.returned (.int .u16 c.t)/\Below u.heap.size u w'):=χ (fun u hu=>by
  refine(KH hu q r y hq hy hl hg).mono ?_
  rintro e w' ⟨he,k,rfl⟩
  rw[hct]
  exact⟨he,below_drewN (qam _ _) k⟩)
 have HI:Hid (DK (a:Int)):=χ (by unfold DK;omega)
 have Fz:Hid ((Z7 c.b).length=64):=χ (by rw[Z5,c.hb])
 clear h hm hn hq hy hl hg hct ha
 generalize hnn:(if there (a:Int)then n else n+1)=n' at*
 have rZ:=χ hnn
 clear hnn
 go_enter Tryz.func108,Tryz.ntmps108
 go_upto_region 1 with fail
 have hal:=ZZ w (.cells (Z7 c.b).toArray 161)
 have Zl:=χ (Bk.new w 161 (Z7 c.b))
 have HB:=χ hal
 clear hal
 generalize hU:w.alloc (.cells (Z7 c.b).toArray 161)=U1 at*
 clear hU
 replace HV:=χ (HV.out.below HB.out)
 replace HM:=χ (HM.out.keep (HB.out.block bm HM.out.lt))
 have vL:=χ HM.out.isMap
 have hS0:Kept (· =bm) U1 U1.drew:=(Kept.refl _ _).drew
 refine qaj (S:=fun u=>Kept (· =bm) U1 u) (by kernel_rfl) hS0 (fun hHeld=>?_)
 clear hS0
 have HM0:Hid (Yt RI RH zx U1.drew bm at_ there n):=HM
 generalize hu0:U1.drew=NS at*
 clear hu0
 refine tk 0 ?_ (y:=.inl ⟨by rfl,?hya0⟩) (s:=by exact hHeld) (h:=?V4)
 case hya0=>(intro u hu;obtain⟨c0,c1,c2,c3,c4⟩:=(HV.out.map vL.out hu).cells;clear hu;go_simp<;>with_reducible rfl)
 try simp only[qad,qaa,qab,qac]
 refine tk 1 ?_ (y:=.inl ⟨by rfl,?hya1⟩) (s:=by exact hHeld) (h:=?Wn)
 case hya1=>(intro u hu;obtain⟨c0,c1,c2,c3,c4⟩:=(HV.out.map vL.out hu).cells;clear hu;go_simp<;>with_reducible rfl)
 try simp only[qad,qaa,qab,qac]
 refine tk 2 ?_ (y:=.inl ⟨by rfl,?hya2⟩) (s:=by exact hHeld) (h:=?Wm)
 case hya2=>(intro u hu;obtain⟨c0,c1,c2,c3,c4⟩:=(HV.out.map vL.out hu).cells;clear hu;go_simp<;>with_reducible rfl)
 try simp only[qad,qaa,qab,qac]
 refine tk 3 ?_ (y:=.inl ⟨by rfl,?hya3⟩) (s:=by exact hHeld) (h:=?Tp)
 case hya3=>(intro u hu;obtain⟨c0,c1,c2,c3,c4⟩:=(HV.out.map vL.out hu).cells;clear hu;go_simp<;>with_reducible rfl)
 try simp only[qad,qaa,qab,qac]
 refine tk 4 ?_ (y:=.inl ⟨by rfl,?hya4⟩) (s:=by exact hHeld) (h:=?TJ)
 case hya4=>(intro u hu;obtain⟨c0,c1,c2,c3,c4⟩:=(HV.out.map vL.out hu).cells;clear hu;go_simp<;>with_reducible rfl)
 try simp only[qad,qaa,qab,qac]
 refine tk 5 _ (y:=(yieldsIf_load_mid (by rfl) 161 _ rfl w.heap.size 0 rfl (Z7 c.b) _ (fun u hu=>(fun j v hv=>by rw[qae,(Ac vL.out hu Zl.out).cell j];exact hv)) Tryz.underlying161 rfl (by rw[KL,Fz.out]))) (s:=by exact hHeld) (h:=?_)
 try simp only[qad,qaa,qab,qac]
 refine tk 6 ?_ (y:=.inl ⟨by rfl,?hya6⟩) (s:=by exact hHeld) (h:=?Vg)
 case hya6=>(intro u hu;obtain⟨c0,c1,c2,c3,c4⟩:=(HV.out.map vL.out hu).cells;clear hu;go_simp<;>with_reducible rfl)
 try simp only[qad,qaa,qab,qac]
 refine tk 7 ?_ (y:=.inl ⟨by rfl,?hya7⟩) (s:=by exact hHeld) (h:=?QQ)
 case hya7=>(intro u hu;obtain⟨c0,c1,c2,c3,c4⟩:=(HV.out.map vL.out hu).cells;clear hu;go_simp<;>with_reducible rfl)
 try simp only[qad,qaa,qab,qac]
 refine rd 8 (h:=fun K hK=>?_)
 go_simp
 (with_reducible refine(eX.out _ (HV.out.map vL.out hHeld)).mono ?_)
 rintro e x1 ⟨he,hb⟩;obtain rfl:=he
 have hS:Kept (· =bm) U1 x1:=hHeld.trans (Kept.of_below (S:=(· =bm)) hb) (fun i hi=>.inl hi)
 have qg:=χ hb
 clear hb
 go_simp
 refine hK.out _ _ hS (fun Z4=>?_)
 clear hK K hHeld hS
 have hHeld:=Z4
 clear Z4
 try simp only[qad,qaa,qab,qac]
 refine tk 9 (Rz c) (y:=.inl ⟨by rfl,?hya9⟩) (s:=by exact hHeld) (h:=?Qg)
 case hya9=>(intro u hu;go_simp;rw[Fz.out,(KG c _ SG).1,(KG c _ SG).2];rfl)
 try simp only[qad,qaa,qab,qac]
 have hMX:=HM0.out.keep (qg.out.block bm HM0.out.lt)
 refine rd 10 (h:=fun K hK=>?_)
 refine vK (t:=125) _ _ _ rfl pX Tryz.underlying125 rfl hMX HN.out HI.out rfl trivial rfl ?_
 intro w' h1 h2
 rw[rZ.out]at h1
 have hS:=hHeld.trans (Kept.Zb (S:=(· =bm)) h2 (fun k hk=>by cases hk;rfl)) (fun i hi=>.inl hi)
 refine hK.out _ _ hS (fun Z4=>?_)
 clear hK K
 refine wpAnyH_done (by kernel_rfl) ?_ _
 go_wp2
 go_end0
 exact⟨rfl,h1,(Kept.of_below HB.out).trans Z4 (fun i hi=>.inl hi)⟩
end
end Go.Proofs.YtmehhgfbnfbnaaaGreat.Y7

namespace Go.Proofs.YtmehhgfbnfbnaaaGreat.Y7
open Go.RowKit Zc Meta
def ZY(j i g pp b bj:Nat)(be:qag)(A:Option Addr)(c:Nat)(dead:Bool):List qag:=
  [be,.pointer b,.pointer bj,
   j,i,g,pp,
   .int .i64 1,.int .i64 (1+(j:Int)),.int .i64 (1+(j:Int)+1),.int .i64 (1+(j:Int)+1+1),.int .i64 (1+(j:Int)+1+1+1),.int .i64 (1+(j:Int)+1+1+1+(i:Int)/2),.int .i64 (1+(j:Int)+1+1+1+(i:Int)/2+(g:Int)*(pp:Int)),
   .slice A (3+i/2) c,dead]
section
variable {P Q:Nat->Prop}{w w':qah}{bv bm j i g pp b bj c:Nat}{x:Meta.Mem}{m:Meta.Met}{be:qag}{A:Option Addr}{dead:Bool}
theorem Vs.Yr (h:Vs P w bv x m bm (ZY j i g pp b bj be A c dead)):w.cell? ⟨bv,8,none⟩=some (.int .i64 j)/\w.cell? ⟨bv,9,none⟩=some (.int .i64 i)/\w.cell? ⟨bv,10,none⟩=some (.int .i64 g)/\w.cell? ⟨bv,11,none⟩=some (.int .i64 pp):=
 ⟨h.box.cell 8,h.box.cell 9,h.box.cell 10,h.box.cell 11⟩
end
section
variable {w:qah}{g bv bm:Nat}{P:Nat->Prop}{x:Meta.Mem}{m:Meta.Met}
theorem Zx{w':qah}{base b2 e k n e2 k2 n2:Nat}{v v2:qag}{xs ys:List qag}(h:w.ownsRow base e k v n xs)(h2:w.ownsRow b2 e2 k2 v2 n2 ys)(hv:v2.ownBlock=some g)(hg:Kept (· =g) w w')(he:e≠e2):w'.ownsRow base e k v n xs:=by
 refine⟨h.1,?_⟩
 rcases h.2 with h3|⟨q,cap,cur,h1,hb,hc,h3⟩
 ·exact .inl h3
 ·refine .inr ⟨q,cap,cur,h1,hb,?_,h3⟩
  rw[hg.block q (Xp hc) (fun hq=>by
   have hq:q=g:=hq
   subst hq
   rcases h2.2 with⟨h4,_⟩|⟨q2,cap2,MR,h4,_,hc2,_⟩
   ·subst h4;cases hv
   ·subst h4
    injection hv with hv
    subst hv
    rw[hc]at hc2
    cases hc2
    exact he rfl)]
  exact hc
theorem Vs.owner {rest:List qag}(h:Vs P w bv x m bm rest){go:Nat}(hx:x.oA=some ⟨go,0,none⟩)(a:Nat)(v:Int):
  Vs P (w.setCell ⟨go,a,none⟩ (.int .i64 v)) bv x {m with own:=m.own.set a v} bm rest/\Kept P w (w.setCell ⟨go,a,none⟩ (.int .i64 v)):=by
 have ho:=h.met.own
 rw[hx]at ho
 have hk:=YN w go a (.int .i64 v)
 obtain⟨h1,-⟩:=ho.stored a (.int .i64 v)
 rw[Z9.RA]at h1
 have hvb:(qag.slice go m.own.length x.oc).ownBlock=some go:=rfl
 have hne:bv≠go:=fun e=>by
  subst e
  rcases ho.2 with⟨h4,_⟩|⟨q2,cap2,MR,h4,_,hc2,_⟩
  ·cases h4
  ·injection h4 with h4
   injection h4 with h4
   injection h4 with h4
   subst h4
   have hb:w.heap[bv]? =_:=h.box
   rw[hb]at hc2
   cases hc2
 refine⟨⟨?_,⟨Zx h.met.rows ho hvb hk (by decide),by rw[hx];simpa using h1,Zx h.met.used ho hvb hk (by decide),Zx h.met.ino ho hvb hk (by decide)⟩,h.pv,h.pr,h.po,h.pu,h.pi⟩,?_⟩
 ·have hb:=(hk.block bv h.box.lt hne).trans h.box
  have e:mh x {m with own:=m.own.set a v} bm rest=mh x m bm rest:=by simp[mh]
  rw[e]
  exact hb
 ·exact⟨hk.os,hk.tape,hk.output,hk.size,fun q hq hp=>hk.block q hq (fun e=>by
   have e:q=go:=e
   subst e
   exact hp (h.po _ hx))⟩
theorem Xw{j i pp:Nat}(Y8:VG j i g pp){b bj c:Nat}{be:qag}{A:Option Addr}{dead:Bool}(h:Vs P w bv x m bm (ZY j i g pp b bj be A c dead))(a:Nat)(ha:a<g*pp):
  qak Tryz.prog 97 #[.pointer bv,a] w fun e w'=>e=.returned (.tuple #[.int .i64 ((a/pp:Nat):Int),()])/\Below w.heap.size w w':=by
 have HG:Hid (qak Tryz.prog 95 #[.agg #[j,i,g,pp],a] w fun e w'=>e=.returned (.tuple #[.int .i64 ((a/pp:Nat):Int),true])/\Below w.heap.size w w'):=χ (by
  have:=ZF.DL (a:Int) Y8.v ⟨by omega,by rw[<-qai];omega⟩ w
  rwa[<-Int.natCast_ediv]at this)
 obtain⟨g0,g1,g2,g3⟩:=h.Yr
 clear h Y8 ha
 go_enter Tryz.func97,Tryz.ntmps97
 go_wp2_with (go_at_call 95;(with_reducible refine HG.out.mono ?_);rintro e w1 ⟨he,hb⟩;obtain rfl:=he;have HB:=χ hb;clear hb g0 g1 g2 g3)
 refine bodyPost_ret (v:=.tuple #[.int .i64 ((a/pp:Nat):Int),()]) (by simp[results,Tryz.results97,go_sem]) rfl ?_
 exact⟨rfl,HB.out⟩
end
end Go.Proofs.YtmehhgfbnfbnaaaGreat.Y7

namespace Go.Proofs.YtmehhgfbnfbnaaaGreat.Y7
open Go.RowKit Zc Meta
section
variable {w:qah}{bm e:Nat}{xs:List qag}
theorem qa{bv:Nat}(hB:Bk w bv e xs)(hM:∃es clock,w.heap[bm]? =some (.map es clock)):bm≠bv:=fun h=>by
 subst h
 obtain⟨es,cl,hM⟩:=hM
 have hB:w.heap[bm]? =_:=hB
 rw[hB]at hM
 cases hM
theorem Qa{go base k n c:Nat}(h:w.ownsRow base e k (.slice go n c) n xs)(hM:∃es clock,w.heap[bm]? =some (.map es clock)):bm≠go:=fun hg=>by
 subst hg
 obtain⟨es,cl,hM⟩:=hM
 rcases h.2 with⟨h4,_⟩|⟨q2,cap2,MR,h4,_,hc2,_⟩
 ·cases h4
 ·injection h4 with h4
  injection h4 with h4
  injection h4 with h4
  subst h4
  rw[hM]at hc2
  cases hc2
structure VM(P:Nat->Prop)(w u:qah)(bv bm:Nat)(x:Meta.Mem)(m:Meta.Met)(rest:List qag)(at_:Int->Sx)(there:Int->Bool)(n:Nat):Prop where
 vs:Vs (fun i=>P i\/w.heap.size<=i) u bv x m bm rest
 map:Yt RI RH zx u bm at_ there n
 pm:P bm\/w.heap.size<=bm
 kept:Kept P w u
end
section
variable {P:Nat->Prop}{w u u':qah}{bv bm n:Nat}{x:Meta.Mem}{m:Meta.Met}{rest:List qag}{at_:Int->Sx}{there:Int->Bool}
theorem VM.start (h:Vs P w bv x m bm rest)(hm:Yt RI RH zx w bm at_ there n)(hp:P bm):VM P w w bv bm x m rest at_ there n:=⟨h.mono (fun _ h=>.inl h),hm,.inl hp,Kept.refl _ _⟩
theorem VM.below (h:VM P w u bv bm x m rest at_ there n)(hb:Below u.heap.size u u'):VM P w u' bv bm x m rest at_ there n:=⟨h.vs.below hb,h.map.keep (hb.block bm h.map.lt),h.pm,h.kept.trans (Kept.of_below (S:=P) hb) (fun _ h=>.inl h)⟩
theorem VM.turn {x':Meta.Mem}{m':Meta.Met}(h:VM P w u bv bm x m rest at_ there n)(hv:Vs (fun i=>(P i\/w.heap.size<=i)\/u.heap.size<=i) u' bv x' m' bm rest)(hk:Kept (· =bv) u u'):VM P w u' bv bm x' m' rest at_ there n:=
 ⟨hv.mono (fun i hi=>hi.elim id (fun h2=>.inr (Nat.le_trans h.kept.size h2))),h.map.keep (hk.block bm h.map.lt (qa h.vs.box h.map.isMap)),h.pm,h.kept.trans hk (fun i hi=>by have hi:i=bv:=hi;subst hi;exact h.vs.pv)⟩
theorem VM.put {at2:Int->Sx}{Xo:Int->Bool}{n2:Nat}(h:VM P w u bv bm x m rest at_ there n)(hm:Yt RI RH zx u' bm at2 Xo n2)(hk:Kept (· =bm) u u'):VM P w u' bv bm x m rest at2 Xo n2:=
 ⟨h.vs.map h.map.isMap hk,hm,h.pm,h.kept.trans hk (fun i hi=>by have hi:i=bm:=hi;subst hi;exact h.pm)⟩
theorem VM.owner (h:VM P w u bv bm x m rest at_ there n){go:Nat}(hx:x.oA=some ⟨go,0,none⟩)(a:Nat)(v:Int):VM P w (u.setCell ⟨go,a,none⟩ (.int .i64 v)) bv bm x {m with own:=m.own.set a v} rest at_ there n:=by
 obtain⟨h1,h2⟩:=h.vs.owner hx a v
 have ho:=h.vs.met.own
 rw[hx]at ho
 exact⟨h1,h.map.keep ((YN u go a (.int .i64 v)).block bm h.map.lt (Qa ho h.map.isMap)),h.pm,h.kept.trans h2 (fun i hi=>hi)⟩
end
def Xn(m:Meta.Met)(a:Nat):Meta.Met:={m with used:=Bits.wb m.used a false}
noncomputable def TB(m:Meta.Met)(pp a r:Nat):Meta.Met:={m with rows:=(Z8.YM m.rows (r:Int)).rows,own:=m.own.set (a/pp) 0,used:=Bits.wb m.used a false}
def NK(t:Nat)(h:t<65536):Sx:=⟨List.replicate 64 0,t,by simp,h⟩
theorem Fx{j i g pp:Nat}(Y8:VG j i g pp){P:Nat->Prop}{w:qah}{bv bm b bj c:Nat}{x:Meta.Mem}{m:Meta.Met}{be:qag}{A:Option Addr}{dead:Bool}{at_:Int->Sx}{there:Int->Bool}{n:Nat}(h:VM P w w bv bm x m (ZY j i g pp b bj be A c dead) at_ there n)(hn:n<maxLen)(a r:Nat)(y:Z8.Rw)(ha:a<g*pp)(hbit:Bits.hb m.used a=true)(hq:m.own[a/pp]? =some ((r:Int)+1))(hy:m.rows[r]? =some y)(hyl:y.lab<65536)(hl:m.rows.length=16)(hg:m.own.length=g)(hu:m.used.length=64)
  (hrel:Yk pp (Bits.wb m.used a false) (a/pp)=false->(Z8.YM m.rows (r:Int)).err=0):
  qak Tryz.prog 42 #[.pointer bv,a] w fun e w'=>e=.returned (.int .i64 0)/\∃x',VM P w w' bv bm x' (if Yk pp (Bits.wb m.used a false) (a/pp)then Xn m a else TB m pp a r) (ZY j i g pp b bj be A c dead) (fun k=>if k=(a:Int)then NK y.lab hyl else at_ k) (fun k=>k==(a:Int)||there k) (if there (a:Int)then n else n+1):=by
 have UC:g<=64:=by have:=Y8.v.g2;omega
 have WV:=Y8.v.gp
 have NQ:a<512:=by rw[<-qai]at WV;omega
 have QN:0<pp:=by rcases Nat.eq_zero_or_pos pp with h0|h0;(subst h0;omega);exact h0
 have hqg:a/pp<g:=by rw[Nat.div_lt_iff_lt_mul QN];exact ha
 have I8:((a/pp:Nat):Int)*(pp:Int)+(pp:Int)<=512:=by
  have h1:(a/pp+1)*pp<=g*pp:=Nat.mul_le_mul_right _ hqg
  rw[<-qai]at WV
  rw[<-qai]
  rw[Nat.add_mul,Nat.one_mul]at h1
  omega
 have KN:Hid (∀u:qah,VM P w u bv bm x m (ZY j i g pp b bj be A c dead) at_ there n->qak Tryz.prog 97 #[.pointer bv,a] u fun e w'=>e=.returned (.tuple #[.int .i64 ((a/pp:Nat):Int),()])/\Below u.heap.size u w'):=χ (fun u hv=>Xw Y8 hv.vs a ha)
 have Xg:Hid (∀u:qah,VM P w u bv bm x m (ZY j i g pp b bj be A c dead) at_ there n->qak Tryz.prog 107 #[.slice x.uA m.used.length x.uc,a] u fun e w'=>e=.returned (.bool true)/\Below u.heap.size u w'):=χ (fun u hv=>by
  refine(Bits.X0 m.used x.uA m.used.length x.uc u.heap.size (a:Int) u rfl hv.vs.met.lies.used (by omega)).mono ?_
  rintro e w' ⟨he,k,rfl⟩
  rw[Bits.YA,hbit]at he
  exact⟨he,below_drewN (qam _ _) k⟩)
 have fu:Hid (∀u:qah,VM P w u bv bm x m (ZY j i g pp b bj be A c dead) at_ there n->qak Tryz.prog 108 #[.pointer bv,a,.int .i64 ((a/pp:Nat):Int),.agg #[.int .u8 0,.int .u8 0,.int .u8 0,.int .u8 0,.int .u8 0,.int .u8 0,.int .u8 0,.int .u8 0,.int .u8 0,.int .u8 0,.int .u8 0,.int .u8 0,.int .u8 0,.int .u8 0,.int .u8 0,.int .u8 0,.int .u8 0,.int .u8 0,.int .u8 0,.int .u8 0,.int .u8 0,.int .u8 0,.int .u8 0,.int .u8 0,.int .u8 0,.int .u8 0,.int .u8 0,.int .u8 0,.int .u8 0,.int .u8 0,.int .u8 0,.int .u8 0,.int .u8 0,.int .u8 0,.int .u8 0,.int .u8 0,.int .u8 0,.int .u8 0,.int .u8 0,.int .u8 0,.int .u8 0,.int .u8 0,.int .u8 0,.int .u8 0,.int .u8 0,.int .u8 0,.int .u8 0,.int .u8 0,.int .u8 0,.int .u8 0,.int .u8 0,.int .u8 0,.int .u8 0,.int .u8 0,.int .u8 0,.int .u8 0,.int .u8 0,.int .u8 0,.int .u8 0,.int .u8 0,.int .u8 0,.int .u8 0,.int .u8 0,.int .u8 0]] u fun e w'=>e=.returned (.tuple #[])/\VM P w w' bv bm x m (ZY j i g pp b bj be A c dead) (fun k=>if k=(a:Int)then NK y.lab hyl else at_ k) (fun k=>k==(a:Int)||there k) (if there (a:Int)then n else n+1)):=χ (fun u hv=>by
  have hz:(Z7 (NK y.lab hyl).b).toArray=(#[.int .u8 0,.int .u8 0,.int .u8 0,.int .u8 0,.int .u8 0,.int .u8 0,.int .u8 0,.int .u8 0,.int .u8 0,.int .u8 0,.int .u8 0,.int .u8 0,.int .u8 0,.int .u8 0,.int .u8 0,.int .u8 0,.int .u8 0,.int .u8 0,.int .u8 0,.int .u8 0,.int .u8 0,.int .u8 0,.int .u8 0,.int .u8 0,.int .u8 0,.int .u8 0,.int .u8 0,.int .u8 0,.int .u8 0,.int .u8 0,.int .u8 0,.int .u8 0,.int .u8 0,.int .u8 0,.int .u8 0,.int .u8 0,.int .u8 0,.int .u8 0,.int .u8 0,.int .u8 0,.int .u8 0,.int .u8 0,.int .u8 0,.int .u8 0,.int .u8 0,.int .u8 0,.int .u8 0,.int .u8 0,.int .u8 0,.int .u8 0,.int .u8 0,.int .u8 0,.int .u8 0,.int .u8 0,.int .u8 0,.int .u8 0,.int .u8 0,.int .u8 0,.int .u8 0,.int .u8 0,.int .u8 0,.int .u8 0,.int .u8 0,.int .u8 0]:Array qag):=rfl
  rw[<-hz]
  refine(Al hv.vs hv.map hn (a/pp) r y hq hy hl (by omega) a NQ (NK y.lab hyl) rfl).mono ?_
  rintro e w' ⟨he,h1,h2⟩
  exact⟨he,hv.put h1 h2⟩)
 generalize Xv:(fun k=>if k=(a:Int)then NK y.lab hyl else at_ k)=at2 at*
 generalize qc:(fun k=>k==(a:Int)||there k)=Xo at*
 generalize hn2:(if there (a:Int)then n else n+1)=n2 at*
 clear Xv qc hn2
 have kP:Hid (∀u:qah,VM P w u bv bm x m (ZY j i g pp b bj be A c dead) at2 Xo n2->qak Tryz.prog 104 #[.pointer bv,a,false] u fun e w'=>e=.returned (.tuple #[])/\∃x',x'.oA=x.oA/\VM P w w' bv bm x' (Xn m a) (ZY j i g pp b bj be A c dead) at2 Xo n2):=χ (fun u hv=>by
  refine(Il hv.vs hu a NQ false).mono ?_
  rintro e w' ⟨he,⟨A2,c2,h1⟩,h2⟩
  exact⟨he,{x with uA:=A2,uc:=c2},rfl,hv.turn h1 h2⟩)
 have NW:Hid (∀(u:qah)(x':Meta.Mem),VM P w u bv bm x' (Xn m a) (ZY j i g pp b bj be A c dead) at2 Xo n2->qak Tryz.prog 109 #[.agg #[j,i,g,pp],.slice x'.uA 64 x'.uc,.int .i64 ((a/pp:Nat):Int)] u fun e w'=>e=.returned (.bool (Yk pp (Bits.wb m.used a false) (a/pp)))/\Below u.heap.size u w'):=χ (fun u x' hv=>
  NJ j i g pp (a/pp) (Bits.wb m.used a false) x'.uA x'.uc u (by rw[Bits.X9];exact hu) hv.vs.met.lies.used I8)
 have DN:Hid (∀(u:qah)(x':Meta.Mem),VM P w u bv bm x' (Xn m a) (ZY j i g pp b bj be A c dead) at2 Xo n2->Yk pp (Bits.wb m.used a false) (a/pp)=false->qak Tryz.prog 110 #[.pointer bv,r] u fun e w'=>e=.returned (.tuple #[])/\∃x2,x2.oA=x'.oA/\x2.oc=x'.oc/\VM P w w' bv bm x2 {Xn m a with rows:=(Z8.YM m.rows (r:Int)).rows} (ZY j i g pp b bj be A c dead) at2 Xo n2):=χ (fun u x' hv h0=>by
  refine(Ra hv.vs (r:Int) (hrel h0)).mono ?_
  rintro e w' ⟨he,⟨A2,c2,h1⟩,h2⟩
  exact⟨he,{x' with rA:=A2,rc:=c2},rfl,rfl,hv.turn h1 h2⟩)
 have HV:=χ h
 have HQ:=χ hq
 have HU:=χ hu
 have HG:=χ hg
 have kN:=χ hqg
 have l9:Hid (r<16):=χ (by have:=(qaf.1 hy).1;omega)
 clear h Y8 hn ha hbit hq hy hl hg hu hrel UC WV NQ QN hqg I8
 generalize ha':a/pp=q at*
 generalize hub:Yk pp (Bits.wb m.used a false) q=ub at*
 go_enter Tryz.func42,Tryz.ntmps42
 go_wp2_with (first|(go_at_call 97;(with_reducible refine(KN.out _ HV.out).mono ?_);rintro e w1 ⟨he,hb⟩;obtain rfl:=he;replace HV:=χ (HV.out.below hb);clear hb;obtain⟨c0,c1,c2,c3,c4⟩:=HV.out.vs.cells)|(go_at_call 107;(with_reducible refine(Xg.out _ HV.out).mono ?_);rintro e w2 ⟨he,hb⟩;obtain rfl:=he;replace HV:=χ (HV.out.below hb);clear hb c0 c1 c2 c3 c4;obtain⟨c0,c1,c2,c3,c4⟩:=HV.out.vs.cells)|(go_at_call 108;(with_reducible refine(fu.out _ HV.out).mono ?_);rintro e w3 ⟨he,hv⟩;obtain rfl:=he;replace HV:=χ hv;clear hv c0 c1 c2 c3 c4)|(go_at_call 104;(with_reducible refine(kP.out _ HV.out).mono ?_);rintro e w4 ⟨he,x4,hx4,hv⟩;obtain rfl:=he;replace HV:=χ hv;have HX4:=χ hx4;clear hv hx4))
 have Bw:Hid ((Xn m a).used.length=64):=χ (by unfold Xn;simp only[Bits.X9];exact HU.out)
 have hS0:VM P w w4.drew bv bm x4 (Xn m a) (ZY j i g pp b bj be A c dead) at2 Xo n2:=HV.out.below (qam _ _).drew
 refine qaj (S:=fun u=>VM P w u bv bm x4 (Xn m a) (ZY j i g pp b bj be A c dead) at2 Xo n2) (by kernel_rfl) hS0 (fun hHeld=>?_)
 clear hS0 HV
 generalize hu0:w4.drew=NS at*
 clear hu0
 refine tk 0 ?_ (y:=.inl ⟨by rfl,?hya0⟩) (s:=by exact hHeld) (h:=?V4)
 case hya0=>(intro u hu;obtain⟨c0,c1,c2,c3,c4⟩:=hu.vs.cells;obtain⟨g0,g1,g2,g3⟩:=hu.vs.Yr;rw[Bw.out]at c2;clear hu;go_simp<;>with_reducible rfl)
 try simp only[qad,qaa,qab,qac]
 refine tk 1 ?_ (y:=.inl ⟨by rfl,?hya1⟩) (s:=by exact hHeld) (h:=?Wn)
 case hya1=>(intro u hu;obtain⟨c0,c1,c2,c3,c4⟩:=hu.vs.cells;obtain⟨g0,g1,g2,g3⟩:=hu.vs.Yr;rw[Bw.out]at c2;clear hu;go_simp<;>with_reducible rfl)
 try simp only[qad,qaa,qab,qac]
 refine tk 2 ?_ (y:=.inl ⟨by rfl,?hya2⟩) (s:=by exact hHeld) (h:=?Wm)
 case hya2=>(intro u hu;obtain⟨c0,c1,c2,c3,c4⟩:=hu.vs.cells;obtain⟨g0,g1,g2,g3⟩:=hu.vs.Yr;rw[Bw.out]at c2;clear hu;go_simp<;>with_reducible rfl)
 try simp only[qad,qaa,qab,qac]
 refine tk 3 ?_ (y:=.inl ⟨by rfl,?hya3⟩) (s:=by exact hHeld) (h:=?Tp)
 case hya3=>(intro u hu;obtain⟨c0,c1,c2,c3,c4⟩:=hu.vs.cells;obtain⟨g0,g1,g2,g3⟩:=hu.vs.Yr;rw[Bw.out]at c2;clear hu;go_simp<;>with_reducible rfl)
 try simp only[qad,qaa,qab,qac]
 refine tk 4 ?_ (y:=.inl ⟨by rfl,?hya4⟩) (s:=by exact hHeld) (h:=?TJ)
 case hya4=>(intro u hu;obtain⟨c0,c1,c2,c3,c4⟩:=hu.vs.cells;obtain⟨g0,g1,g2,g3⟩:=hu.vs.Yr;rw[Bw.out]at c2;clear hu;go_simp<;>with_reducible rfl)
 try simp only[qad,qaa,qab,qac]
 refine tk 5 ?_ (y:=.inl ⟨by rfl,?hya5⟩) (s:=by exact hHeld) (h:=?Vw)
 case hya5=>(intro u hu;obtain⟨c0,c1,c2,c3,c4⟩:=hu.vs.cells;obtain⟨g0,g1,g2,g3⟩:=hu.vs.Yr;rw[Bw.out]at c2;clear hu;go_simp<;>with_reducible rfl)
 try simp only[qad,qaa,qab,qac]
 refine tk 6 ?_ (y:=.inl ⟨by rfl,?hya6⟩) (s:=by exact hHeld) (h:=?Vg)
 case hya6=>(intro u hu;obtain⟨c0,c1,c2,c3,c4⟩:=hu.vs.cells;obtain⟨g0,g1,g2,g3⟩:=hu.vs.Yr;rw[Bw.out]at c2;clear hu;go_simp<;>with_reducible rfl)
 try simp only[qad,qaa,qab,qac]
 refine tk 7 ?_ (y:=.inl ⟨by rfl,?hya7⟩) (s:=by exact hHeld) (h:=?QQ)
 case hya7=>(intro u hu;obtain⟨c0,c1,c2,c3,c4⟩:=hu.vs.cells;obtain⟨g0,g1,g2,g3⟩:=hu.vs.Yr;rw[Bw.out]at c2;clear hu;go_simp<;>with_reducible rfl)
 try simp only[qad,qaa,qab,qac]
 refine tk 8 ?_ (y:=.inl ⟨by rfl,?hya8⟩) (s:=by exact hHeld) (h:=?RJ)
 case hya8=>(intro u hu;obtain⟨c0,c1,c2,c3,c4⟩:=hu.vs.cells;obtain⟨g0,g1,g2,g3⟩:=hu.vs.Yr;rw[Bw.out]at c2;clear hu;go_simp<;>with_reducible rfl)
 try simp only[qad,qaa,qab,qac]
 refine tk 9 ?_ (y:=.inl ⟨by rfl,?hya9⟩) (s:=by exact hHeld) (h:=?Qg)
 case hya9=>(intro u hu;obtain⟨c0,c1,c2,c3,c4⟩:=hu.vs.cells;obtain⟨g0,g1,g2,g3⟩:=hu.vs.Yr;rw[Bw.out]at c2;clear hu;go_simp<;>with_reducible rfl)
 try simp only[qad,qaa,qab,qac]
 refine tk 10 ?_ (y:=.inl ⟨by rfl,?hya10⟩) (s:=by exact hHeld) (h:=?UG)
 case hya10=>(intro u hu;obtain⟨c0,c1,c2,c3,c4⟩:=hu.vs.cells;obtain⟨g0,g1,g2,g3⟩:=hu.vs.Yr;rw[Bw.out]at c2;clear hu;go_simp<;>with_reducible rfl)
 try simp only[qad,qaa,qab,qac]
 refine rd 11 (h:=fun K hK=>?_)
 go_simp
 (with_reducible refine(NW.out _ _ hHeld).mono ?_)
 rintro e w5 ⟨he,hb⟩;obtain rfl:=he
 have hS:=hHeld.below hb
 clear hb
 go_simp
 refine hK.out _ _ hS (fun Z4=>?_)
 clear hK K hHeld hS
 have hHeld:=Z4
 clear Z4
 try simp only[qad,qaa,qab,qac]
 refine tk 12 ?_ (y:=.inl ⟨by rfl,?hya12⟩) (s:=by exact hHeld) (h:=?Qf)
 case hya12=>(intro u hu;obtain⟨c0,c1,c2,c3,c4⟩:=hu.vs.cells;obtain⟨g0,g1,g2,g3⟩:=hu.vs.Yr;rw[Bw.out]at c2;clear hu;go_simp<;>with_reducible rfl)
 try simp only[qad,qaa,qab,qac]
 refine wpAnyH_done (by kernel_rfl) ?_ _
 have HV:=χ hHeld
 clear hHeld NW
 cases ub
 ·have HUB:=χ hub
  clear hub
  go_upto_region 9 with fail
  obtain⟨gb,cb,hv,hcb⟩:=Zv HV.out.vs.met.own (by unfold Xn;simp only;rw[HG.out];have:=kN.out;omega)
  injection hv with hxo _ _
  have SH:=χ hxo
  have hw:IntKind.i64.wrap ((r:Int)+1-1)=(r:Int):=by rw[qal];have:=l9.out;omega
  have hw2:IntKind.i64.wrap (r:Int)=(r:Int):=by rw[qal];have:=l9.out;omega
  have hq0:(0:Int)<=(q:Int):=by omega
  have hq1:(q:Int)<(g:Int):=by have:=kN.out;omega
  have hS0:∃x5 M5,x5.oA=x4.oA/\x5.oc=x4.oc/\M5.own=m.own/\VM P w w5.drew bv bm x5 M5 (ZY j i g pp b bj be A c dead) at2 Xo n2:=⟨x4,Xn m a,rfl,rfl,rfl,HV.out.below (qam _ _).drew⟩
  have Vm:=χ (HV.out.below (qam _ w5).drew)
  refine qaj (S:=fun u=>∃x5 M5,x5.oA=x4.oA/\x5.oc=x4.oc/\M5.own=m.own/\VM P w u bv bm x5 M5 (ZY j i g pp b bj be A c dead) at2 Xo n2) (by kernel_rfl) hS0 (fun hHeld=>?_)
  clear hS0 HV
  generalize hu0:w5.drew=z1_ at*
  clear hu0
  refine tk 0 ?_ (y:=.inl ⟨by rfl,?hyb0⟩) (s:=by exact hHeld) (h:=?AU)
  case hyb0=>(intro u hu;obtain⟨x5,M5,e1,e2,e3,hu⟩:=hu;obtain⟨c0,c1,c2,c3,c4⟩:=hu.vs.cells;have hlo:=hu.vs.met.lies.own;rw[e1,SH.out]at hlo;rw[e3]at hlo;have hco:=Yy hlo HQ.out;rw[qae]at hco;rw[e1,e2,e3,SH.out,HG.out]at c1;clear hlo hu e1 e2 e3 c0 c2 c3 c4;go_simp<;>with_reducible rfl)
  try simp only[qad,qaa,qab,qac]
  refine tk 1 ?_ (y:=.inl ⟨by rfl,?hyb1⟩) (s:=by exact hHeld) (h:=?AR)
  case hyb1=>(intro u hu;obtain⟨x5,M5,e1,e2,e3,hu⟩:=hu;obtain⟨c0,c1,c2,c3,c4⟩:=hu.vs.cells;have hlo:=hu.vs.met.lies.own;rw[e1,SH.out]at hlo;rw[e3]at hlo;have hco:=Yy hlo HQ.out;rw[qae]at hco;rw[e1,e2,e3,SH.out,HG.out]at c1;clear hlo hu e1 e2 e3 c0 c2 c3 c4;go_simp<;>with_reducible rfl)
  try simp only[qad,qaa,qab,qac]
  refine tk 2 ?_ (y:=.inl ⟨by rfl,?hyb2⟩) (s:=by exact hHeld) (h:=?AQ)
  case hyb2=>(intro u hu;obtain⟨x5,M5,e1,e2,e3,hu⟩:=hu;obtain⟨c0,c1,c2,c3,c4⟩:=hu.vs.cells;have hlo:=hu.vs.met.lies.own;rw[e1,SH.out]at hlo;rw[e3]at hlo;have hco:=Yy hlo HQ.out;rw[qae]at hco;rw[e1,e2,e3,SH.out,HG.out]at c1;clear hlo hu e1 e2 e3 c0 c2 c3 c4;go_simp<;>with_reducible rfl)
  try simp only[qad,qaa,qab,qac]
  refine tk 3 ?_ (y:=.inl ⟨by rfl,?hyb3⟩) (s:=by exact hHeld) (h:=?AP)
  case hyb3=>(intro u hu;obtain⟨x5,M5,e1,e2,e3,hu⟩:=hu;obtain⟨c0,c1,c2,c3,c4⟩:=hu.vs.cells;have hlo:=hu.vs.met.lies.own;rw[e1,SH.out]at hlo;rw[e3]at hlo;have hco:=Yy hlo HQ.out;rw[qae]at hco;rw[e1,e2,e3,SH.out,HG.out]at c1;clear hlo hu e1 e2 e3 c0 c2 c3 c4;go_simp<;>with_reducible rfl)
  try simp only[qad,qaa,qab,qac]
  refine tk 4 ?_ (y:=.inl ⟨by rfl,?hyb4⟩) (s:=by exact hHeld) (h:=?AO)
  case hyb4=>(intro u hu;obtain⟨x5,M5,e1,e2,e3,hu⟩:=hu;obtain⟨c0,c1,c2,c3,c4⟩:=hu.vs.cells;have hlo:=hu.vs.met.lies.own;rw[e1,SH.out]at hlo;rw[e3]at hlo;have hco:=Yy hlo HQ.out;rw[qae]at hco;rw[e1,e2,e3,SH.out,HG.out]at c1;clear hlo hu e1 e2 e3 c0 c2 c3 c4;go_simp<;>with_reducible rfl)
  try simp only[qad,qaa,qab,qac]
  refine tk 5 ?_ (y:=.inl ⟨by rfl,?hyb5⟩) (s:=by exact hHeld) (h:=?vM)
  case hyb5=>(intro u hu;obtain⟨x5,M5,e1,e2,e3,hu⟩:=hu;obtain⟨c0,c1,c2,c3,c4⟩:=hu.vs.cells;have hlo:=hu.vs.met.lies.own;rw[e1,SH.out]at hlo;rw[e3]at hlo;have hco:=Yy hlo HQ.out;rw[qae]at hco;rw[e1,e2,e3,SH.out,HG.out]at c1;clear hlo hu e1 e2 e3 c0 c2 c3 c4;go_simp<;>with_reducible rfl)
  try simp only[qad,qaa,qab,qac]
  refine tk 6 ?_ (y:=.inl ⟨by rfl,?hyb6⟩) (s:=by exact hHeld) (h:=?pY)
  case hyb6=>(intro u hu;obtain⟨x5,M5,e1,e2,e3,hu⟩:=hu;obtain⟨c0,c1,c2,c3,c4⟩:=hu.vs.cells;have hlo:=hu.vs.met.lies.own;rw[e1,SH.out]at hlo;rw[e3]at hlo;have hco:=Yy hlo HQ.out;rw[qae]at hco;rw[e1,e2,e3,SH.out,HG.out]at c1;clear hlo hu e1 e2 e3 c0 c2 c3 c4;go_simp<;>with_reducible rfl)
  try simp only[qad,qaa,qab,qac]
  refine tk 7 ?_ (y:=.inl ⟨by rfl,?hyb7⟩) (s:=by exact hHeld) (h:=?vS)
  case hyb7=>(intro u hu;obtain⟨x5,M5,e1,e2,e3,hu⟩:=hu;obtain⟨c0,c1,c2,c3,c4⟩:=hu.vs.cells;have hlo:=hu.vs.met.lies.own;rw[e1,SH.out]at hlo;rw[e3]at hlo;have hco:=Yy hlo HQ.out;rw[qae]at hco;rw[e1,e2,e3,SH.out,HG.out]at c1;clear hlo hu e1 e2 e3 c0 c2 c3 c4;go_simp<;>with_reducible rfl)
  try simp only[qad,qaa,qab,qac]
  refine tk 8 ?_ (y:=.inl ⟨by rfl,?hyb8⟩) (s:=by exact hHeld) (h:=?qm)
  case hyb8=>(intro u hu;obtain⟨x5,M5,e1,e2,e3,hu⟩:=hu;obtain⟨c0,c1,c2,c3,c4⟩:=hu.vs.cells;have hlo:=hu.vs.met.lies.own;rw[e1,SH.out]at hlo;rw[e3]at hlo;have hco:=Yy hlo HQ.out;rw[qae]at hco;rw[e1,e2,e3,SH.out,HG.out]at c1;clear hlo hu e1 e2 e3 c0 c2 c3 c4;go_simp<;>with_reducible rfl)
  try simp only[qad,qaa,qab,qac]
  refine tk 9 ?_ (y:=.inl ⟨by rfl,?hyb9⟩) (s:=by exact hHeld) (h:=?vR)
  case hyb9=>(intro u hu;obtain⟨x5,M5,e1,e2,e3,hu⟩:=hu;obtain⟨c0,c1,c2,c3,c4⟩:=hu.vs.cells;have hlo:=hu.vs.met.lies.own;rw[e1,SH.out]at hlo;rw[e3]at hlo;have hco:=Yy hlo HQ.out;rw[qae]at hco;rw[e1,e2,e3,SH.out,HG.out]at c1;clear hlo hu e1 e2 e3 c0 c2 c3 c4;go_simp<;>with_reducible rfl)
  try simp only[qad,qaa,qab,qac]
  refine tk 10 ?_ (y:=.inl ⟨by rfl,?hyb10⟩) (s:=by exact hHeld) (h:=?FE)
  case hyb10=>(intro u hu;obtain⟨x5,M5,e1,e2,e3,hu⟩:=hu;obtain⟨c0,c1,c2,c3,c4⟩:=hu.vs.cells;have hlo:=hu.vs.met.lies.own;rw[e1,SH.out]at hlo;rw[e3]at hlo;have hco:=Yy hlo HQ.out;rw[qae]at hco;rw[e1,e2,e3,SH.out,HG.out]at c1;clear hlo hu e1 e2 e3 c0 c2 c3 c4;go_simp<;>with_reducible rfl)
  try simp only[qad,qaa,qab,qac]
  refine tk 11 ?_ (y:=.inl ⟨by rfl,?hyb11⟩) (s:=by exact hHeld) (h:=?FD)
  case hyb11=>(intro u hu;obtain⟨x5,M5,e1,e2,e3,hu⟩:=hu;obtain⟨c0,c1,c2,c3,c4⟩:=hu.vs.cells;have hlo:=hu.vs.met.lies.own;rw[e1,SH.out]at hlo;rw[e3]at hlo;have hco:=Yy hlo HQ.out;rw[qae]at hco;rw[e1,e2,e3,SH.out,HG.out]at c1;clear hlo hu e1 e2 e3 c0 c2 c3 c4;go_simp<;>with_reducible rfl)
  try simp only[qad,qaa,qab,qac]
  refine tk 12 ?_ (y:=.inl ⟨by rfl,?hyb12⟩) (s:=by exact hHeld) (h:=?si)
  case hyb12=>(intro u hu;obtain⟨x5,M5,e1,e2,e3,hu⟩:=hu;obtain⟨c0,c1,c2,c3,c4⟩:=hu.vs.cells;have hlo:=hu.vs.met.lies.own;rw[e1,SH.out]at hlo;rw[e3]at hlo;have hco:=Yy hlo HQ.out;rw[qae]at hco;rw[e1,e2,e3,SH.out,HG.out]at c1;clear hlo hu e1 e2 e3 c0 c2 c3 c4;go_simp<;>with_reducible rfl)
  try simp only[qad,qaa,qab,qac]
  refine rd 13 (h:=fun K hK=>?_)
  go_simp
  (with_reducible refine(DN.out _ _ Vm.out rfl).mono ?_)
  rintro e w6 ⟨he,x7,e1,e2,hv⟩;obtain rfl:=he
  have hS:∃x5 M5,x5.oA=x4.oA/\x5.oc=x4.oc/\M5.own=m.own/\VM P w w6 bv bm x5 M5 (ZY j i g pp b bj be A c dead) at2 Xo n2:=⟨x7,{Xn m a with rows:=(Z8.YM m.rows (r:Int)).rows},e1,e2,rfl,hv⟩
  have HV:=χ hv
  have HX7:=χ (e1.trans SH.out)
  clear hv e1 e2
  go_simp
  refine hK.out _ _ hS (fun Z4=>?_)
  clear hK K hHeld hS
  have hHeld:=Z4
  clear Z4
  try simp only[qad,qaa,qab,qac]
  refine wpAnyH_done (by kernel_rfl) ?_ _
  clear hHeld DN hw hw2
  obtain⟨c0,c1,c2,c3,c4⟩:=HV.out.vs.cells
  have ho:=HV.out.vs.met.own
  rw[HX7.out]at ho c1
  have hol:(Xn m a).own.length=g:=HG.out
  obtain⟨⟨zc,hzc⟩,hfz⟩:=XN ho q (by rw[Nat.mul_one,hol];exact kN.out)
  simp only[hol]at c1
  clear ho c0 c2 c3 c4
  go_wp2
  go_ret
  refine⟨rfl,x7,?_⟩
  have:=HV.out.owner HX7.out q 0
  unfold TB
  rw[ha']
  exact this
 ·go_wp2
  go_ret
  exact⟨rfl,x4,HV.out⟩
end Go.Proofs.YtmehhgfbnfbnaaaGreat.Y7
