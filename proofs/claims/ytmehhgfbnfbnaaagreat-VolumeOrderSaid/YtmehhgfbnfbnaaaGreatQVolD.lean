import Derived.Test.YtmehhgfbnfbnaaaGreatQVolC
import Derived.Test.YtmehhgfbnfbnaaaGreatQMetaX9
import Derived.Test.YtmehhgfbnfbnaaaGreatQTk
set_option maxRecDepth 100000
set_option maxHeartbeats 25600000
open Nat renaming zero_add->qaa
open List renaming getElem?_eq_some_iff->qab
open Go renaming Value->qac,World->qad,wp_region_held_drew->qaf,Calls->qag
open Int renaming natCast_mul->qae
open Go.IntKind renaming wrap_i64->qah
open Go.RowKit.Below renaming refl->qai
namespace Go.Proofs.YtmehhgfbnfbnaaaGreat
theorem zV0{P:Prop}(h:P:=by
 (intro u hu;obtain⟨x5,M5,e1,e2,e3,hu⟩:=hu;obtain⟨c0,c1,c2,c3,c4⟩:=hu.vs.cells;have hlo:=hu.vs.met.lies.own;rw[e1,Qx.out]at hlo;rw[e3]at hlo;have hco:=Yf hlo HQ.out;rw[qaa]at hco;rw[e1,e2,e3,Qx.out,HG.out]at c1;clear hlo hu e1 e2 e3 c0 c2 c3 c4;go_simp<;>with_reducible rfl)):P:=h
theorem zV1{P:Prop}(h:P:=by
 (intro u hu;obtain⟨c0,c1,c2,c3,c4⟩:=hu.vs.cells;obtain⟨g0,g1,g2,g3⟩:=hu.vs.YV;rw[wG.out]at c2;clear hu;go_simp<;>with_reducible rfl)):P:=h
theorem zV2{P:Prop}(h:P:=by
 (intro u hu;obtain⟨c0,c1,c2,c3,c4⟩:=(HV.out.map Fz.out hu).cells;clear hu;go_simp<;>with_reducible rfl)):P:=h
end Go.Proofs.YtmehhgfbnfbnaaaGreat
namespace Go.Proofs.YtmehhgfbnfbnaaaGreat.Zl
open Go.RowKit Zq Meta
section
variable {w w':qad}{bm bv e n:Nat}{P:Nat->Prop}{x:Meta.Mem}{m:Meta.Met}{rest xs:List qac}
theorem FC(h:Vs P w bv x m bm rest)(q r:Nat)(y:Z8.Rw)(hq:m.own[q]? =some ((r:Int)+1))(hy:m.rows[r]? =some y)(hl:m.rows.length=16)(hg:m.own.length<=64):
  qag Tryz.prog 172 #[.pointer bv,q] w fun e w'=>e=.returned (.int .u16 y.lab)/\∃n,w'=w.drewN n:=by
 obtain⟨c0,c1,c2,c3,c4⟩:=h.cells
 have hlr:=h.met.lies
 have acH:=(qab.1 hy).1
 have Ja:=(qab.1 hq).1
 obtain⟨b,o,hA,-⟩:=YU hlr.own (by rw[Z9.Zt];omega)
 have hlo:=hlr.own
 rw[hA]at hlo c1
 have hco:=Yf hlo hq
 rcases Z8.Va hlr.rows with h0|⟨b2,o2,hA2,-,hat⟩
 ·rw[h0]at hy;simp at hy
 obtain⟨h1,-⟩:=hat r y hy
 rw[hA2,hl]at c0
 have hq0:(0:Int)<=(q:Int):=by omega
 have hq1:(q:Int)<(m.own.length:Int):=by omega
 have hr0:(0:Int)<=(r:Int):=by omega
 have hr1:(r:Int)<16:=by omega
 have hw:IntKind.i64.wrap ((r:Int)+1-1)=(r:Int):=by rw[qah];omega
 clear h hlr hlo hat hq hy hl acH Ja hA hA2 hg
 generalize m.own.length=G at*
 go_enter Tryz.func172,Tryz.ntmps172
 go_upto_region 1 with fail
 go_quiet (fail)
 go_wp2
 go_ret
 exact⟨rfl,nq,rfl⟩
theorem Ov(hM:∃es clock,w.heap[bm]? =some (.map es clock))(hk:Kept (· =bm) w w'){base k:Nat}{v:qac}(h:w.ownsRow base e k v n xs):w'.ownsRow base e k v n xs:=by
 refine⟨h.1,?_⟩
 rcases h.2 with h2|⟨g,cap,cur,h1,hb,hc,h3⟩
 ·exact .inl h2
 ·refine .inr ⟨g,cap,cur,h1,hb,?_,h3⟩
  rw[hk.block g (XZ hc) (fun hg=>by
   have hg:g=bm:=hg
   subst hg
   obtain⟨es,cl,hM⟩:=hM
   rw[hc]at hM
   cases hM)]
  exact hc
theorem qc(hM:∃es clock,w.heap[bm]? =some (.map es clock))(hk:Kept (· =bm) w w')(h:Bk w bv e xs):Bk w' bv e xs:=
 (hk.block bv h.lt (fun hg=>by
   have hg:bv=bm:=hg
   subst hg
   obtain⟨es,cl,hM⟩:=hM
   have h:w.heap[bv]? =_:=h
   rw[h]at hM
   cases hM)).trans h
theorem Vs.map (h:Vs P w bv x m bm rest){b:Nat}(hM:∃es clock,w.heap[b]? =some (.map es clock))(hk:Kept (· =b) w w'):Vs P w' bv x m bm rest:=
 ⟨qc hM hk h.box,⟨Ov hM hk h.met.rows,Ov hM hk h.met.own,Ov hM hk h.met.used,Ov hM hk h.met.ino⟩,h.pv,h.pr,h.po,h.pu,h.pi⟩
theorem below_drewN{B:Nat}{a:qad}(h:Below B a w)(n:Nat):Below B a (w.drewN n):=⟨h.os,h.tape,h.output,h.size,h.block⟩
theorem FB(c:Sx)(Z:Array qac)(hz:Z.size=65):((Z6 c.b).zipIdx.foldl (fun cs x=>cs.setIfInBounds x.2 x.1) Z).size=65/\(((Z6 c.b).zipIdx.foldl (fun cs x=>cs.setIfInBounds x.2 x.1) Z).setIfInBounds 64 (.int .u16 c.t))=(sx c).toArray:=by
 have hl:(Z6 c.b).length=64:=by rw[Z4,c.hb]
 have hg:=fun k=>KR (Z6 c.b) 0 0 Z k
 simp only[qaa,Nat.sub_zero,Nat.zero_le,true_and,hl,hz]at hg
 have hs:∀(l:List (qac × Nat))(Y:Array qac),(l.foldl (fun cs x=>cs.setIfInBounds x.2 x.1) Y).size=Y.size:=fun l=>by
  induction l with
  |nil=>intro Y;rfl
  |cons p r ih=>intro Y;rw[List.foldl_cons,ih];simp
 refine⟨(hs _ _).trans hz,?_⟩
 apply Array.ext_getElem?
 intro k
 rw[Array.getElem?_setIfInBounds,hg,hs,hz]
 have h2:(sx c).toArray[k]? =(Z6 c.b++[.int .u16 c.t])[k]? :=by simp[sx]
 rw[h2]
 rcases Nat.lt_trichotomy k 64 with h|h|h
 ·rw[if_neg (by omega),if_pos (by omega),List.getElem?_append_left (by omega)]
 ·subst h
  rw[if_pos rfl,if_pos (by omega),List.getElem?_append_right (by omega),hl]
  rfl
 ·rw[if_neg (by omega),if_neg (by omega),Array.getElem?_eq_none (by omega),List.getElem?_eq_none (by simp[hl];omega)]
theorem Oe:Tryz.zeroCells163.size=65:=by kernel_rfl
theorem FH:(Tryz.prog.info? 161).map (·.size)=some 64:=by kernel_rfl
theorem qh(h:Vs P w bv x m bm rest){at_:Int->Sx}{there:Int->Bool}(hm:Zu XA Xz zx w bm at_ there n)(hn:n<maxLen)(q r:Nat)(y:Z8.Rw)(hq:m.own[q]? =some ((r:Int)+1))(hy:m.rows[r]? =some y)(hl:m.rows.length=16)(hg:m.own.length<=64)(a:Nat)(ha:a<512)(c:Sx)(hct:c.t=y.lab):
  qag Tryz.prog 108 #[.pointer bv,a,q,.agg (Z6 c.b).toArray] w fun e w'=>e=.returned (.tuple #[])/\Zu XA Xz zx w' bm (fun k=>if k=(a:Int)then c else at_ k) (fun k=>k==(a:Int)||there k) (if there (a:Int)then n else n+1)/\Kept (· =bm) w w':=by
 have HV:=χ h
 have HM:=χ hm
 have HN:=χ hn
 have HLB:Hid (∀u:qad,Vs P u bv x m bm rest->qag Tryz.prog 172 #[.pointer bv,q] u fun e w'=>e=.returned (.int .u16 c.t)/\Below u.heap.size u w'):=χ (fun u hu=>by
  refine(FC hu q r y hq hy hl hg).mono ?_
  rintro e w' ⟨he,k,rfl⟩
  rw[hct]
  exact⟨he,below_drewN (qai _ _) k⟩)
 have HI:Hid (Fe (a:Int)):=χ (by unfold Fe;omega)
 have KC:Hid ((Z6 c.b).length=64):=χ (by rw[Z4,c.hb])
 clear h hm hn hq hy hl hg hct ha
 generalize hnn:(if there (a:Int)then n else n+1)=n' at*
 have iV:=χ hnn
 clear hnn
 go_enter Tryz.func108,Tryz.ntmps108
 go_upto_region 1 with fail
 have hal:=Z0 w (.cells (Z6 c.b).toArray 161)
 have Zk:=χ (Bk.new w 161 (Z6 c.b))
 have HB:=χ hal
 clear hal
 generalize hU:w.alloc (.cells (Z6 c.b).toArray 161)=U1 at*
 clear hU
 replace HV:=χ (HV.out.below HB.out)
 replace HM:=χ (HM.out.keep (HB.out.block bm HM.out.lt))
 have Fz:=χ HM.out.isMap
 have hS0:Kept (· =bm) U1 U1.drew:=(Kept.refl _ _).drew
 refine qaf (S:=fun u=>Kept (· =bm) U1 u) (by kernel_rfl) hS0 (fun hHeld=>?_)
 clear hS0
 have HM0:Hid (Zu XA Xz zx U1.drew bm at_ there n):=HM
 generalize hu0:U1.drew=IX at*
 clear hu0
 refine tk 0 ?_ (y:=.inl ⟨by rfl,?hya0⟩) (s:=by exact hHeld) (h:=?V6)
 case hya0=>exact zV2
 refine tk 1 ?_ (y:=.inl ⟨by rfl,?hya1⟩) (s:=by exact hHeld) (h:=?V5)
 case hya1=>exact zV2
 refine tk 2 ?_ (y:=.inl ⟨by rfl,?hya2⟩) (s:=by exact hHeld) (h:=?V4)
 case hya2=>exact zV2
 refine tk 3 ?_ (y:=.inl ⟨by rfl,?hya3⟩) (s:=by exact hHeld) (h:=?TD)
 case hya3=>exact zV2
 refine tk 4 ?_ (y:=.inl ⟨by rfl,?hya4⟩) (s:=by exact hHeld) (h:=?TN)
 case hya4=>exact zV2
 refine tk 5 _ (y:=(yieldsIf_load_mid (by rfl) 161 _ rfl w.heap.size 0 rfl (Z6 c.b) _ (fun u hu=>(fun j v hv=>by rw[qaa,(qc Fz.out hu Zk.out).cell j];exact hv)) Tryz.underlying161 rfl (by rw[FH,KC.out]))) (s:=by exact hHeld) (h:=?_)
 refine tk 6 ?_ (y:=.inl ⟨by rfl,?hya6⟩) (s:=by exact hHeld) (h:=?UR)
 case hya6=>exact zV2
 refine tk 7 ?_ (y:=.inl ⟨by rfl,?hya7⟩) (s:=by exact hHeld) (h:=?RU)
 case hya7=>exact zV2
 refine rd 8 (h:=fun K hK=>?_)
 go_simp
 (with_reducible refine(HLB.out _ (HV.out.map Fz.out hHeld)).mono ?_)
 rintro e x1 ⟨he,hb⟩;obtain rfl:=he
 have hS:Kept (· =bm) U1 x1:=hHeld.trans (Kept.of_below (S:=(· =bm)) hb) (fun i hi=>.inl hi)
 have dz:=χ hb
 clear hb
 go_simp
 refine hK.out _ _ hS (fun Z5=>?_)
 clear hK K hHeld hS
 have hHeld:=Z5
 clear Z5
 refine tk 9 (Kh c) (y:=.inl ⟨by rfl,?hya9⟩) (s:=by exact hHeld) (h:=?OW)
 case hya9=>(intro u hu;go_simp;rw[KC.out,(FB c _ Oe).1,(FB c _ Oe).2];rfl)
 have hMX:=HM0.out.keep (dz.out.block bm HM0.out.lt)
 refine rd 10 (h:=fun K hK=>?_)
 refine BV (t:=125) _ _ _ rfl aaj Tryz.underlying125 rfl hMX HN.out HI.out rfl trivial rfl ?_
 intro w' h1 h2
 rw[iV.out]at h1
 have hS:=hHeld.trans (Kept.Y4 (S:=(· =bm)) h2 (fun k hk=>by cases hk;rfl)) (fun i hi=>.inl hi)
 refine hK.out _ _ hS (fun Z5=>?_)
 clear hK K
 refine wpAnyH_done (by kernel_rfl) ?_ _
 go_wp2
 go_end0
 exact⟨rfl,h1,(Kept.of_below HB.out).trans Z5 (fun i hi=>.inl hi)⟩
end
end Go.Proofs.YtmehhgfbnfbnaaaGreat.Zl

namespace Go.Proofs.YtmehhgfbnfbnaaaGreat.Zl
open Go.RowKit Zq Meta
def ZZ(j i g pp b bj:Nat)(be:qac)(A:Option Addr)(c:Nat)(dead:Bool):List qac:=
  [be,.pointer b,.pointer bj,
   j,i,g,pp,
   .int .i64 1,.int .i64 (1+(j:Int)),.int .i64 (1+(j:Int)+1),.int .i64 (1+(j:Int)+1+1),.int .i64 (1+(j:Int)+1+1+1),.int .i64 (1+(j:Int)+1+1+1+(i:Int)/2),.int .i64 (1+(j:Int)+1+1+1+(i:Int)/2+(g:Int)*(pp:Int)),
   .slice A (3+i/2) c,dead]
section
variable {P Q:Nat->Prop}{w w':qad}{bv bm j i g pp b bj c:Nat}{x:Meta.Mem}{m:Meta.Met}{be:qac}{A:Option Addr}{dead:Bool}
theorem Vs.YV (h:Vs P w bv x m bm (ZZ j i g pp b bj be A c dead)):w.cell? ⟨bv,8,none⟩=some (.int .i64 j)/\w.cell? ⟨bv,9,none⟩=some (.int .i64 i)/\w.cell? ⟨bv,10,none⟩=some (.int .i64 g)/\w.cell? ⟨bv,11,none⟩=some (.int .i64 pp):=
 ⟨h.box.cell 8,h.box.cell 9,h.box.cell 10,h.box.cell 11⟩
end
section
variable {w:qad}{g bv bm:Nat}{P:Nat->Prop}{x:Meta.Mem}{m:Meta.Met}
theorem Zw{w':qad}{base b2 e k n e2 k2 n2:Nat}{v v2:qac}{xs ys:List qac}(h:w.ownsRow base e k v n xs)(h2:w.ownsRow b2 e2 k2 v2 n2 ys)(hv:v2.ownBlock=some g)(hg:Kept (· =g) w w')(he:e≠e2):w'.ownsRow base e k v n xs:=by
 refine⟨h.1,?_⟩
 rcases h.2 with h3|⟨q,cap,cur,h1,hb,hc,h3⟩
 ·exact .inl h3
 ·refine .inr ⟨q,cap,cur,h1,hb,?_,h3⟩
  rw[hg.block q (XZ hc) (fun hq=>by
   have hq:q=g:=hq
   subst hq
   rcases h2.2 with⟨h4,_⟩|⟨q2,cap2,JF,h4,_,hc2,_⟩
   ·subst h4;cases hv
   ·subst h4
    injection hv with hv
    subst hv
    rw[hc]at hc2
    cases hc2
    exact he rfl)]
  exact hc
theorem Vs.owner {rest:List qac}(h:Vs P w bv x m bm rest){go:Nat}(hx:x.oA=some ⟨go,0,none⟩)(a:Nat)(v:Int):
  Vs P (w.setCell ⟨go,a,none⟩ (.int .i64 v)) bv x {m with own:=m.own.set a v} bm rest/\Kept P w (w.setCell ⟨go,a,none⟩ (.int .i64 v)):=by
 have ho:=h.met.own
 rw[hx]at ho
 have hk:=YY w go a (.int .i64 v)
 obtain⟨h1,-⟩:=ho.stored a (.int .i64 v)
 rw[Z9.PY]at h1
 have hvb:(qac.slice go m.own.length x.oc).ownBlock=some go:=rfl
 have hne:bv≠go:=fun e=>by
  subst e
  rcases ho.2 with⟨h4,_⟩|⟨q2,cap2,JF,h4,_,hc2,_⟩
  ·cases h4
  ·injection h4 with h4
   injection h4 with h4
   injection h4 with h4
   subst h4
   have hb:w.heap[bv]? =_:=h.box
   rw[hb]at hc2
   cases hc2
 refine⟨⟨?_,⟨Zw h.met.rows ho hvb hk (by decide),by rw[hx];simpa using h1,Zw h.met.used ho hvb hk (by decide),Zw h.met.ino ho hvb hk (by decide)⟩,h.pv,h.pr,h.po,h.pu,h.pi⟩,?_⟩
 ·have hb:=(hk.block bv h.box.lt hne).trans h.box
  have e:Rk x {m with own:=m.own.set a v} bm rest=Rk x m bm rest:=by simp[Rk]
  rw[e]
  exact hb
 ·exact⟨hk.os,hk.tape,hk.output,hk.size,fun q hq hp=>hk.block q hq (fun e=>by
   have e:q=go:=e
   subst e
   exact hp (h.po _ hx))⟩
theorem Vn{j i pp:Nat}(Za:VG j i g pp){b bj c:Nat}{be:qac}{A:Option Addr}{dead:Bool}(h:Vs P w bv x m bm (ZZ j i g pp b bj be A c dead))(a:Nat)(ha:a<g*pp):
  qag Tryz.prog 97 #[.pointer bv,a] w fun e w'=>e=.returned (.tuple #[.int .i64 ((a/pp:Nat):Int),()])/\Below w.heap.size w w':=by
 have HG:Hid (qag Tryz.prog 95 #[.agg #[j,i,g,pp],a] w fun e w'=>e=.returned (.tuple #[.int .i64 ((a/pp:Nat):Int),true])/\Below w.heap.size w w'):=χ (by
  have:=ZG.yA (a:Int) Za.v ⟨by omega,by rw[<-qae];omega⟩ w
  rwa[<-Int.natCast_ediv]at this)
 obtain⟨g0,g1,g2,g3⟩:=h.YV
 clear h Za ha
 go_enter Tryz.func97,Tryz.ntmps97
 go_wp2_with (go_at_call 95;(with_reducible refine HG.out.mono ?_);rintro e w1 ⟨he,hb⟩;obtain rfl:=he;have HB:=χ hb;clear hb g0 g1 g2 g3)
 refine bodyPost_ret (v:=.tuple #[.int .i64 ((a/pp:Nat):Int),()]) (by simp[results,Tryz.results97,go_sem]) rfl ?_
 exact⟨rfl,HB.out⟩
end
end Go.Proofs.YtmehhgfbnfbnaaaGreat.Zl

namespace Go.Proofs.YtmehhgfbnfbnaaaGreat.Zl
open Go.RowKit Zq Meta
section
variable {w:qad}{bm e:Nat}{xs:List qac}
theorem Kv{bv:Nat}(hB:Bk w bv e xs)(hM:∃es clock,w.heap[bm]? =some (.map es clock)):bm≠bv:=fun h=>by
 subst h
 obtain⟨es,cl,hM⟩:=hM
 have hB:w.heap[bm]? =_:=hB
 rw[hB]at hM
 cases hM
theorem MK{go base k n c:Nat}(h:w.ownsRow base e k (.slice go n c) n xs)(hM:∃es clock,w.heap[bm]? =some (.map es clock)):bm≠go:=fun hg=>by
 subst hg
 obtain⟨es,cl,hM⟩:=hM
 rcases h.2 with⟨h4,_⟩|⟨q2,cap2,JF,h4,_,hc2,_⟩
 ·cases h4
 ·injection h4 with h4
  injection h4 with h4
  injection h4 with h4
  subst h4
  rw[hM]at hc2
  cases hc2
structure VM(P:Nat->Prop)(w u:qad)(bv bm:Nat)(x:Meta.Mem)(m:Meta.Met)(rest:List qac)(at_:Int->Sx)(there:Int->Bool)(n:Nat):Prop where
 vs:Vs (fun i=>P i\/w.heap.size<=i) u bv x m bm rest
 map:Zu XA Xz zx u bm at_ there n
 pm:P bm\/w.heap.size<=bm
 kept:Kept P w u
end
section
variable {P:Nat->Prop}{w u u':qad}{bv bm n:Nat}{x:Meta.Mem}{m:Meta.Met}{rest:List qac}{at_:Int->Sx}{there:Int->Bool}
theorem VM.start (h:Vs P w bv x m bm rest)(hm:Zu XA Xz zx w bm at_ there n)(hp:P bm):VM P w w bv bm x m rest at_ there n:=⟨h.mono (fun _ h=>.inl h),hm,.inl hp,Kept.refl _ _⟩
theorem VM.below (h:VM P w u bv bm x m rest at_ there n)(hb:Below u.heap.size u u'):VM P w u' bv bm x m rest at_ there n:=⟨h.vs.below hb,h.map.keep (hb.block bm h.map.lt),h.pm,h.kept.trans (Kept.of_below (S:=P) hb) (fun _ h=>.inl h)⟩
theorem VM.turn {x':Meta.Mem}{m':Meta.Met}(h:VM P w u bv bm x m rest at_ there n)(hv:Vs (fun i=>(P i\/w.heap.size<=i)\/u.heap.size<=i) u' bv x' m' bm rest)(hk:Kept (· =bv) u u'):VM P w u' bv bm x' m' rest at_ there n:=
 ⟨hv.mono (fun i hi=>hi.elim id (fun h2=>.inr (Nat.le_trans h.kept.size h2))),h.map.keep (hk.block bm h.map.lt (Kv h.vs.box h.map.isMap)),h.pm,h.kept.trans hk (fun i hi=>by have hi:i=bv:=hi;subst hi;exact h.vs.pv)⟩
theorem VM.put {at2:Int->Sx}{WG:Int->Bool}{n2:Nat}(h:VM P w u bv bm x m rest at_ there n)(hm:Zu XA Xz zx u' bm at2 WG n2)(hk:Kept (· =bm) u u'):VM P w u' bv bm x m rest at2 WG n2:=
 ⟨h.vs.map h.map.isMap hk,hm,h.pm,h.kept.trans hk (fun i hi=>by have hi:i=bm:=hi;subst hi;exact h.pm)⟩
theorem VM.owner (h:VM P w u bv bm x m rest at_ there n){go:Nat}(hx:x.oA=some ⟨go,0,none⟩)(a:Nat)(v:Int):VM P w (u.setCell ⟨go,a,none⟩ (.int .i64 v)) bv bm x {m with own:=m.own.set a v} rest at_ there n:=by
 obtain⟨h1,h2⟩:=h.vs.owner hx a v
 have ho:=h.vs.met.own
 rw[hx]at ho
 exact⟨h1,h.map.keep ((YY u go a (.int .i64 v)).block bm h.map.lt (MK ho h.map.isMap)),h.pm,h.kept.trans h2 (fun i hi=>hi)⟩
end
def WE(m:Meta.Met)(a:Nat):Meta.Met:={m with used:=Bits.wb m.used a false}
noncomputable def RX(m:Meta.Met)(pp a r:Nat):Meta.Met:={m with rows:=(Z8.YH m.rows (r:Int)).rows,own:=m.own.set (a/pp) 0,used:=Bits.wb m.used a false}
def KJ(t:Nat)(h:t<65536):Sx:=⟨List.replicate 64 0,t,by simp,h⟩
theorem AQ{j i g pp:Nat}(Za:VG j i g pp){P:Nat->Prop}{w:qad}{bv bm b bj c:Nat}{x:Meta.Mem}{m:Meta.Met}{be:qac}{A:Option Addr}{dead:Bool}{at_:Int->Sx}{there:Int->Bool}{n:Nat}(h:VM P w w bv bm x m (ZZ j i g pp b bj be A c dead) at_ there n)(hn:n<maxLen)(a r:Nat)(y:Z8.Rw)(ha:a<g*pp)(hbit:Bits.hb m.used a=true)(hq:m.own[a/pp]? =some ((r:Int)+1))(hy:m.rows[r]? =some y)(hyl:y.lab<65536)(hl:m.rows.length=16)(hg:m.own.length=g)(hu:m.used.length=64)
  (hrel:X4 pp (Bits.wb m.used a false) (a/pp)=false->(Z8.YH m.rows (r:Int)).err=0):
  qag Tryz.prog 42 #[.pointer bv,a] w fun e w'=>e=.returned (.int .i64 0)/\∃x',VM P w w' bv bm x' (if X4 pp (Bits.wb m.used a false) (a/pp)then WE m a else RX m pp a r) (ZZ j i g pp b bj be A c dead) (fun k=>if k=(a:Int)then KJ y.lab hyl else at_ k) (fun k=>k==(a:Int)||there k) (if there (a:Int)then n else n+1):=by
 have S9:g<=64:=by have:=Za.v.g2;omega
 have V8:=Za.v.gp
 have KP:a<512:=by rw[<-qae]at V8;omega
 have OT:0<pp:=by rcases Nat.eq_zero_or_pos pp with h0|h0;(subst h0;omega);exact h0
 have hqg:a/pp<g:=by rw[Nat.div_lt_iff_lt_mul OT];exact ha
 have EZ:((a/pp:Nat):Int)*(pp:Int)+(pp:Int)<=512:=by
  have h1:(a/pp+1)*pp<=g*pp:=Nat.mul_le_mul_right _ hqg
  rw[<-qae]at V8
  rw[<-qae]
  rw[Nat.add_mul,Nat.one_mul]at h1
  omega
 have xD:Hid (∀u:qad,VM P w u bv bm x m (ZZ j i g pp b bj be A c dead) at_ there n->qag Tryz.prog 97 #[.pointer bv,a] u fun e w'=>e=.returned (.tuple #[.int .i64 ((a/pp:Nat):Int),()])/\Below u.heap.size u w'):=χ (fun u hv=>Vn Za hv.vs a ha)
 have Wz:Hid (∀u:qad,VM P w u bv bm x m (ZZ j i g pp b bj be A c dead) at_ there n->qag Tryz.prog 107 #[.slice x.uA m.used.length x.uc,a] u fun e w'=>e=.returned (.bool true)/\Below u.heap.size u w'):=χ (fun u hv=>by
  refine(Bits.XF m.used x.uA m.used.length x.uc u.heap.size (a:Int) u rfl hv.vs.met.lies.used (by omega)).mono ?_
  rintro e w' ⟨he,k,rfl⟩
  rw[Bits.Ym,hbit]at he
  exact⟨he,below_drewN (qai _ _) k⟩)
 have HPU:Hid (∀u:qad,VM P w u bv bm x m (ZZ j i g pp b bj be A c dead) at_ there n->qag Tryz.prog 108 #[.pointer bv,a,.int .i64 ((a/pp:Nat):Int),.agg #[.int .u8 0,.int .u8 0,.int .u8 0,.int .u8 0,.int .u8 0,.int .u8 0,.int .u8 0,.int .u8 0,.int .u8 0,.int .u8 0,.int .u8 0,.int .u8 0,.int .u8 0,.int .u8 0,.int .u8 0,.int .u8 0,.int .u8 0,.int .u8 0,.int .u8 0,.int .u8 0,.int .u8 0,.int .u8 0,.int .u8 0,.int .u8 0,.int .u8 0,.int .u8 0,.int .u8 0,.int .u8 0,.int .u8 0,.int .u8 0,.int .u8 0,.int .u8 0,.int .u8 0,.int .u8 0,.int .u8 0,.int .u8 0,.int .u8 0,.int .u8 0,.int .u8 0,.int .u8 0,.int .u8 0,.int .u8 0,.int .u8 0,.int .u8 0,.int .u8 0,.int .u8 0,.int .u8 0,.int .u8 0,.int .u8 0,.int .u8 0,.int .u8 0,.int .u8 0,.int .u8 0,.int .u8 0,.int .u8 0,.int .u8 0,.int .u8 0,.int .u8 0,.int .u8 0,.int .u8 0,.int .u8 0,.int .u8 0,.int .u8 0,.int .u8 0]] u fun e w'=>e=.returned (.tuple #[])/\VM P w w' bv bm x m (ZZ j i g pp b bj be A c dead) (fun k=>if k=(a:Int)then KJ y.lab hyl else at_ k) (fun k=>k==(a:Int)||there k) (if there (a:Int)then n else n+1)):=χ (fun u hv=>by
  have hz:(Z6 (KJ y.lab hyl).b).toArray=(#[.int .u8 0,.int .u8 0,.int .u8 0,.int .u8 0,.int .u8 0,.int .u8 0,.int .u8 0,.int .u8 0,.int .u8 0,.int .u8 0,.int .u8 0,.int .u8 0,.int .u8 0,.int .u8 0,.int .u8 0,.int .u8 0,.int .u8 0,.int .u8 0,.int .u8 0,.int .u8 0,.int .u8 0,.int .u8 0,.int .u8 0,.int .u8 0,.int .u8 0,.int .u8 0,.int .u8 0,.int .u8 0,.int .u8 0,.int .u8 0,.int .u8 0,.int .u8 0,.int .u8 0,.int .u8 0,.int .u8 0,.int .u8 0,.int .u8 0,.int .u8 0,.int .u8 0,.int .u8 0,.int .u8 0,.int .u8 0,.int .u8 0,.int .u8 0,.int .u8 0,.int .u8 0,.int .u8 0,.int .u8 0,.int .u8 0,.int .u8 0,.int .u8 0,.int .u8 0,.int .u8 0,.int .u8 0,.int .u8 0,.int .u8 0,.int .u8 0,.int .u8 0,.int .u8 0,.int .u8 0,.int .u8 0,.int .u8 0,.int .u8 0,.int .u8 0]:Array qac):=rfl
  rw[<-hz]
  refine(qh hv.vs hv.map hn (a/pp) r y hq hy hl (by omega) a KP (KJ y.lab hyl) rfl).mono ?_
  rintro e w' ⟨he,h1,h2⟩
  exact⟨he,hv.put h1 h2⟩)
 generalize Xi:(fun k=>if k=(a:Int)then KJ y.lab hyl else at_ k)=at2 at*
 generalize dC:(fun k=>k==(a:Int)||there k)=WG at*
 generalize hn2:(if there (a:Int)then n else n+1)=n2 at*
 clear Xi dC hn2
 have HUS:Hid (∀u:qad,VM P w u bv bm x m (ZZ j i g pp b bj be A c dead) at2 WG n2->qag Tryz.prog 104 #[.pointer bv,a,false] u fun e w'=>e=.returned (.tuple #[])/\∃x',x'.oA=x.oA/\VM P w w' bv bm x' (WE m a) (ZZ j i g pp b bj be A c dead) at2 WG n2):=χ (fun u hv=>by
  refine(EK hv.vs hu a KP false).mono ?_
  rintro e w' ⟨he,⟨A2,c2,h1⟩,h2⟩
  exact⟨he,{x with uA:=A2,uc:=c2},rfl,hv.turn h1 h2⟩)
 have KH:Hid (∀(u:qad)(x':Meta.Mem),VM P w u bv bm x' (WE m a) (ZZ j i g pp b bj be A c dead) at2 WG n2->qag Tryz.prog 109 #[.agg #[j,i,g,pp],.slice x'.uA 64 x'.uc,.int .i64 ((a/pp:Nat):Int)] u fun e w'=>e=.returned (.bool (X4 pp (Bits.wb m.used a false) (a/pp)))/\Below u.heap.size u w'):=χ (fun u x' hv=>
  LG j i g pp (a/pp) (Bits.wb m.used a false) x'.uA x'.uc u (by rw[Bits.XK];exact hu) hv.vs.met.lies.used EZ)
 have xw:Hid (∀(u:qad)(x':Meta.Mem),VM P w u bv bm x' (WE m a) (ZZ j i g pp b bj be A c dead) at2 WG n2->X4 pp (Bits.wb m.used a false) (a/pp)=false->qag Tryz.prog 110 #[.pointer bv,r] u fun e w'=>e=.returned (.tuple #[])/\∃x2,x2.oA=x'.oA/\x2.oc=x'.oc/\VM P w w' bv bm x2 {WE m a with rows:=(Z8.YH m.rows (r:Int)).rows} (ZZ j i g pp b bj be A c dead) at2 WG n2):=χ (fun u x' hv h0=>by
  refine(Pq hv.vs (r:Int) (hrel h0)).mono ?_
  rintro e w' ⟨he,⟨A2,c2,h1⟩,h2⟩
  exact⟨he,{x' with rA:=A2,rc:=c2},rfl,rfl,hv.turn h1 h2⟩)
 have HV:=χ h
 have HQ:=χ hq
 have HU:=χ hu
 have HG:=χ hg
 have HQG:=χ hqg
 have aC:Hid (r<16):=χ (by have:=(qab.1 hy).1;omega)
 clear h Za hn ha hbit hq hy hl hg hu hrel S9 V8 KP OT hqg EZ
 generalize ha':a/pp=q at*
 generalize hub:X4 pp (Bits.wb m.used a false) q=ub at*
 go_enter Tryz.func42,Tryz.ntmps42
 go_wp2_with (first|(go_at_call 97;(with_reducible refine(xD.out _ HV.out).mono ?_);rintro e w1 ⟨he,hb⟩;obtain rfl:=he;replace HV:=χ (HV.out.below hb);clear hb;obtain⟨c0,c1,c2,c3,c4⟩:=HV.out.vs.cells)|(go_at_call 107;(with_reducible refine(Wz.out _ HV.out).mono ?_);rintro e w2 ⟨he,hb⟩;obtain rfl:=he;replace HV:=χ (HV.out.below hb);clear hb c0 c1 c2 c3 c4;obtain⟨c0,c1,c2,c3,c4⟩:=HV.out.vs.cells)|(go_at_call 108;(with_reducible refine(HPU.out _ HV.out).mono ?_);rintro e w3 ⟨he,hv⟩;obtain rfl:=he;replace HV:=χ hv;clear hv c0 c1 c2 c3 c4)|(go_at_call 104;(with_reducible refine(HUS.out _ HV.out).mono ?_);rintro e w4 ⟨he,x4,hx4,hv⟩;obtain rfl:=he;replace HV:=χ hv;have HX4:=χ hx4;clear hv hx4))
 have wG:Hid ((WE m a).used.length=64):=χ (by unfold WE;simp only[Bits.XK];exact HU.out)
 have hS0:VM P w w4.drew bv bm x4 (WE m a) (ZZ j i g pp b bj be A c dead) at2 WG n2:=HV.out.below (qai _ _).drew
 refine qaf (S:=fun u=>VM P w u bv bm x4 (WE m a) (ZZ j i g pp b bj be A c dead) at2 WG n2) (by kernel_rfl) hS0 (fun hHeld=>?_)
 clear hS0 HV
 generalize hu0:w4.drew=IX at*
 clear hu0
 refine tk 0 ?_ (y:=.inl ⟨by rfl,?hya0⟩) (s:=by exact hHeld) (h:=?V6)
 case hya0=>exact zV1
 refine tk 1 ?_ (y:=.inl ⟨by rfl,?hya1⟩) (s:=by exact hHeld) (h:=?V5)
 case hya1=>exact zV1
 refine tk 2 ?_ (y:=.inl ⟨by rfl,?hya2⟩) (s:=by exact hHeld) (h:=?V4)
 case hya2=>exact zV1
 refine tk 3 ?_ (y:=.inl ⟨by rfl,?hya3⟩) (s:=by exact hHeld) (h:=?TD)
 case hya3=>exact zV1
 refine tk 4 ?_ (y:=.inl ⟨by rfl,?hya4⟩) (s:=by exact hHeld) (h:=?TN)
 case hya4=>exact zV1
 refine tk 5 ?_ (y:=.inl ⟨by rfl,?hya5⟩) (s:=by exact hHeld) (h:=?Vi)
 case hya5=>exact zV1
 refine tk 6 ?_ (y:=.inl ⟨by rfl,?hya6⟩) (s:=by exact hHeld) (h:=?UR)
 case hya6=>exact zV1
 refine tk 7 ?_ (y:=.inl ⟨by rfl,?hya7⟩) (s:=by exact hHeld) (h:=?RU)
 case hya7=>exact zV1
 refine tk 8 ?_ (y:=.inl ⟨by rfl,?hya8⟩) (s:=by exact hHeld) (h:=?RS)
 case hya8=>exact zV1
 refine tk 9 ?_ (y:=.inl ⟨by rfl,?hya9⟩) (s:=by exact hHeld) (h:=?OW)
 case hya9=>exact zV1
 refine tk 10 ?_ (y:=.inl ⟨by rfl,?hya10⟩) (s:=by exact hHeld) (h:=?Vb)
 case hya10=>exact zV1
 refine rd 11 (h:=fun K hK=>?_)
 go_simp
 (with_reducible refine(KH.out _ _ hHeld).mono ?_)
 rintro e w5 ⟨he,hb⟩;obtain rfl:=he
 have hS:=hHeld.below hb
 clear hb
 go_simp
 refine hK.out _ _ hS (fun Z5=>?_)
 clear hK K hHeld hS
 have hHeld:=Z5
 clear Z5
 refine tk 12 ?_ (y:=.inl ⟨by rfl,?hya12⟩) (s:=by exact hHeld) (h:=?Ra)
 case hya12=>exact zV1
 refine wpAnyH_done (by kernel_rfl) ?_ _
 have HV:=χ hHeld
 clear hHeld KH
 cases ub
 ·have HUB:=χ hub
  clear hub
  go_upto_region 9 with fail
  obtain⟨gb,cb,hv,hcb⟩:=Zp HV.out.vs.met.own (by unfold WE;simp only;rw[HG.out];have:=HQG.out;omega)
  injection hv with hxo _ _
  have Qx:=χ hxo
  have hw:IntKind.i64.wrap ((r:Int)+1-1)=(r:Int):=by rw[qah];have:=aC.out;omega
  have hw2:IntKind.i64.wrap (r:Int)=(r:Int):=by rw[qah];have:=aC.out;omega
  have hq0:(0:Int)<=(q:Int):=by omega
  have hq1:(q:Int)<(g:Int):=by have:=HQG.out;omega
  have hS0:∃x5 M5,x5.oA=x4.oA/\x5.oc=x4.oc/\M5.own=m.own/\VM P w w5.drew bv bm x5 M5 (ZZ j i g pp b bj be A c dead) at2 WG n2:=⟨x4,WE m a,rfl,rfl,rfl,HV.out.below (qai _ _).drew⟩
  have Uv:=χ (HV.out.below (qai _ w5).drew)
  refine qaf (S:=fun u=>∃x5 M5,x5.oA=x4.oA/\x5.oc=x4.oc/\M5.own=m.own/\VM P w u bv bm x5 M5 (ZZ j i g pp b bj be A c dead) at2 WG n2) (by kernel_rfl) hS0 (fun hHeld=>?_)
  clear hS0 HV
  generalize hu0:w5.drew=z1_ at*
  clear hu0
  refine tk 0 ?_ (y:=.inl ⟨by rfl,?hyb0⟩) (s:=by exact hHeld) (h:=?Ad)
  case hyb0=>exact zV0
  refine tk 1 ?_ (y:=.inl ⟨by rfl,?hyb1⟩) (s:=by exact hHeld) (h:=?Ac)
  case hyb1=>exact zV0
  refine tk 2 ?_ (y:=.inl ⟨by rfl,?hyb2⟩) (s:=by exact hHeld) (h:=?Ab)
  case hyb2=>exact zV0
  refine tk 3 ?_ (y:=.inl ⟨by rfl,?hyb3⟩) (s:=by exact hHeld) (h:=?Aa)
  case hyb3=>exact zV0
  refine tk 4 ?_ (y:=.inl ⟨by rfl,?hyb4⟩) (s:=by exact hHeld) (h:=?zZ)
  case hyb4=>exact zV0
  refine tk 5 ?_ (y:=.inl ⟨by rfl,?hyb5⟩) (s:=by exact hHeld) (h:=?vK)
  case hyb5=>exact zV0
  refine tk 6 ?_ (y:=.inl ⟨by rfl,?hyb6⟩) (s:=by exact hHeld) (h:=?eF)
  case hyb6=>exact zV0
  refine tk 7 ?_ (y:=.inl ⟨by rfl,?hyb7⟩) (s:=by exact hHeld) (h:=?vJ)
  case hyb7=>exact zV0
  refine tk 8 ?_ (y:=.inl ⟨by rfl,?hyb8⟩) (s:=by exact hHeld) (h:=?eB)
  case hyb8=>exact zV0
  refine tk 9 ?_ (y:=.inl ⟨by rfl,?hyb9⟩) (s:=by exact hHeld) (h:=?lQ)
  case hyb9=>exact zV0
  refine tk 10 ?_ (y:=.inl ⟨by rfl,?hyb10⟩) (s:=by exact hHeld) (h:=?Bl)
  case hyb10=>exact zV0
  refine tk 11 ?_ (y:=.inl ⟨by rfl,?hyb11⟩) (s:=by exact hHeld) (h:=?Bj)
  case hyb11=>exact zV0
  refine tk 12 ?_ (y:=.inl ⟨by rfl,?hyb12⟩) (s:=by exact hHeld) (h:=?vI)
  case hyb12=>exact zV0
  refine rd 13 (h:=fun K hK=>?_)
  go_simp
  (with_reducible refine(xw.out _ _ Uv.out rfl).mono ?_)
  rintro e w6 ⟨he,x7,e1,e2,hv⟩;obtain rfl:=he
  have hS:∃x5 M5,x5.oA=x4.oA/\x5.oc=x4.oc/\M5.own=m.own/\VM P w w6 bv bm x5 M5 (ZZ j i g pp b bj be A c dead) at2 WG n2:=⟨x7,{WE m a with rows:=(Z8.YH m.rows (r:Int)).rows},e1,e2,rfl,hv⟩
  have HV:=χ hv
  have PM:=χ (e1.trans Qx.out)
  clear hv e1 e2
  go_simp
  refine hK.out _ _ hS (fun Z5=>?_)
  clear hK K hHeld hS
  have hHeld:=Z5
  clear Z5
  refine wpAnyH_done (by kernel_rfl) ?_ _
  clear hHeld xw hw hw2
  obtain⟨c0,c1,c2,c3,c4⟩:=HV.out.vs.cells
  have ho:=HV.out.vs.met.own
  rw[PM.out]at ho c1
  have hol:(WE m a).own.length=g:=HG.out
  obtain⟨⟨zc,hzc⟩,hfz⟩:=Xo ho q (by rw[Nat.mul_one,hol];exact HQG.out)
  simp only[hol]at c1
  clear ho c0 c2 c3 c4
  go_wp2
  go_ret
  refine⟨rfl,x7,?_⟩
  have:=HV.out.owner PM.out q 0
  unfold RX
  rw[ha']
  exact this
 ·go_wp2
  go_ret
  exact⟨rfl,x4,HV.out⟩
end Go.Proofs.YtmehhgfbnfbnaaaGreat.Zl
