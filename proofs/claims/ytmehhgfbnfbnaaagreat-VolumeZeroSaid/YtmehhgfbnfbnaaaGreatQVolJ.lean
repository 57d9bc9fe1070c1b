import Derived.Test.YtmehhgfbnfbnaaaGreatQVolI
import Derived.Test.YtmehhgfbnfbnaaaGreatQVolN
import Derived.Test.YtmehhgfbnfbnaaaGreatQTk
import Derived.Test.YtmehhgfbnfbnaaaGreatQVolD
set_option maxRecDepth 100000
set_option maxHeartbeats 25600000
open List renaming setIfInBounds_toArray->qaa,set_cons_zero->qab,set_cons_succ->qac,getElem?_eq_some_iff->qae,getElem?_eq_getElem->qap,getElem?_eq_none->qaq
open Go.Act renaming put->qad
open Go renaming bodyPost_ret->qaf,Calls->qag,wpList_store_mid->qah,World->qai,all_oneCell_toArray->qaj,Value->qam
open Go.RowKit renaming Below->qak,Hid->qal
open Nat renaming le_refl->qan
open Go.Value.slice renaming inj->qao
namespace Go.Proofs.YtmehhgfbnfbnaaaGreat.Y7
open Go.RowKit Zc Meta
section
variable {j i g pp bv bm b bj c n:Nat}{P:Nat->Prop}{w0 w:qai}{x:Meta.Mem}{m:Meta.Met}{be:qam}{A:Option Addr}{dead:Bool}{at_:Int->Sx}{there:Int->Bool}
def kT(o:Option Nat):Int:=match o with|some q=>(q:Int)|none=> -1
theorem RG{l:List Z9.Zz}{q:Nat}{x:Z9.Zz}(hx:l[q]? =some x)(hk:x.k=0)(h0:∀k y,k<q->l[k]? =some y->y.k≠0):V3 l=some q:=by
 unfold V3
 obtain⟨h1,h2⟩:=qae.1 hx
 rw[List.findIdx?_eq_some_iff_getElem]
 refine⟨h1,by rw[h2];simp[hk],fun k hk2=>?_⟩
 have:=h0 k (l[k]) hk2 (qap _)
 simpa using this
theorem Yh(l:List Z9.Zz)(ho:∀m∈l,Z9.YS m)(A:Option Addr)(n c:Nat)(w:qai)(hn:l.length=n)(hr:Rd w w.heap.size A (YZ l))(hm:n<=1000000):
  qag Tryz.prog 105 #[.slice A n c,.func (.func 91) #[] #[]] w fun e w'=>e=.returned (.int .i64 (kT (V3 l)))/\qak w.heap.size w w':=by
 have Hn:=χ hn
 have Hr:=χ hr
 have HO:=χ ho
 clear ho hn hr
 obtain⟨res,hres⟩:∃res,V3 l=res:=⟨_,rfl⟩
 rw[hres]
 have KS:=χ hres
 clear hres
 go_enter Tryz.func105,Tryz.ntmps105
 go_wp2
 go_loopw [5,8] (fun _ i wr=>∃j:Nat,j<=n/\i=.int .i64 j/\qal (qak w.heap.size w wr)/\qal (∀k y,k<j->l[k]? =some y->y.k≠0)) (fun _ i _=>n-(intOf i).toNat)
 case atStart=>exact⟨0,Nat.zero_le _,rfl,χ (qak.refl _ _),χ (fun k y hk=>by omega)⟩
 case round=>
  obtain⟨j,hj,rfl,HB,UJ⟩:=hrel
  by_cases hlt:j<n
  ·obtain⟨x,hx⟩:∃x,l[j]? =some x:=⟨_,qap (by rw[Hn.out];exact hlt)⟩
   have hmem:=List.mem_of_getElem? hx
   have hox:=HO.out x hmem
   obtain⟨b,o,hA,hb⟩:=Y3 Hr.out (by rw[Y2 HO.out,Hn.out];omega)
   subst hA
   have OE:=χ (Yo (Hr.out.below HB.out) HO.out hx)
   have UU:=χ (YI x hox)
   have I7:=χ (YU x hox wr)
   have HX:=χ hx
   obtain⟨bb,hbb⟩:∃bb,(x.k==0)=bb:=⟨_,rfl⟩
   rw[hbb]at I7
   have Yz:=χ hbb
   clear hox hmem hx hbb
   generalize hcx:Z9.ZX x=cx at*
   clear hcx
   have Wz:(j:Int)<(n:Int):=by omega
   have hj0:(0:Int)<=(j:Int):=by omega
   cases bb
   ·have Vj:qal (∀k y,k<j+1->l[k]? =some y->y.k≠0):=χ (fun k y hk hy=>by
     rcases Nat.lt_or_ge k j with h|h
     ·exact UJ.out k y h hy
     ·obtain rfl:k=j:=by omega
      rw[HX.out]at hy
      cases hy
      have:=Yz.out
      simpa using this)
    go_wp2_with (first|(refine wpList_load_mid rfl 40 (.tmp 14) rfl b (o+j*14) rfl cx _ OE.out Tryz.underlying40 rfl UU.out ?_)|(go_at_call 91;(with_reducible refine I7.out.mono ?_);rintro e w2 ⟨he,hb⟩;obtain rfl:=he;have HB2:=χ (HB.out.trans (hb.mono HB.out.size));clear hb))
    go_roundw
    case rel=>exact⟨j+1,by omega,by go_num,HB2,Vj⟩
    case measure=>simp[intOf];omega
   ·go_wp2_with (first|(refine wpList_load_mid rfl 40 (.tmp 14) rfl b (o+j*14) rfl cx _ OE.out Tryz.underlying40 rfl UU.out ?_)|(go_at_call 91;(with_reducible refine I7.out.mono ?_);rintro e w2 ⟨he,hb⟩;obtain rfl:=he;have HB2:=χ (HB.out.trans (hb.mono HB.out.size));clear hb))
    go_ret
    have:res=some j:=by rw[<-KS.out];exact RG HX.out (by simpa using Yz.out) UJ.out
    subst this
    exact⟨rfl,HB2.out⟩
  ·obtain rfl:j=n:=by omega
   go_wp2
   go_ret
   have:res=none:=by
    rw[<-KS.out]
    unfold V3
    rw[List.findIdx?_eq_none_iff]
    intro y hy
    obtain⟨k,hk⟩:=List.mem_iff_getElem?.1 hy
    have:=UJ.out k y (by have:=(qae.1 hk).1;rw[Hn.out]at this;exact this) hk
    simpa using this
   subst this
   exact⟨rfl,HB.out⟩
theorem D7(h:VM P w0 w bv bm x m (ZY j i g pp b bj be A c dead) at_ there n)(kd a:Nat)(h1:kd≠1)(h2:kd≠2):
  qag Tryz.prog 40 #[.pointer bv,.int .u8 kd,.int .u16 a] w fun e w'=>e=.returned (.tuple #[(),.int .i64 1])/\VM P w0 w' bv bm x m (ZY j i g pp b bj be A c dead) at_ there n:=by
 have e1:((kd:Int) != 1)=true:=by simp;omega
 have e2:((kd:Int) != 2)=true:=by simp;omega
 have e3:¬ (kd:Int)=1:=by omega
 have e4:¬ (kd:Int)=2:=by omega
 have HV:=χ h
 clear h h1 h2
 go_enter Tryz.func40,Tryz.ntmps40
 go_wp2
 refine qaf (v:=.tuple #[(),.int .i64 1]) (by simp[results,Tryz.results40,go_sem]) rfl ?_
 exact⟨rfl,HV.out⟩
theorem Iw(h:VM P w0 w bv bm x m (ZY j i g pp b bj be A c dead) at_ there n)(a:Nat)(ho:∀y∈m.ino,Z9.YS y)(hl:m.ino.length<=64)(hq:V3 m.ino=none):
  qag Tryz.prog 40 #[.pointer bv,.int .u8 1,.int .u16 a] w fun e w'=>e=.returned (.tuple #[(),.int .i64 5])/\VM P w0 w' bv bm x m (ZY j i g pp b bj be A c dead) at_ there n:=by
 have SK:qal (qag Tryz.prog 105 #[.slice x.iA m.ino.length x.ic,.func (.func 91) #[] #[]] w fun e w'=>e=.returned (.int .i64 (-1))/\qak w.heap.size w w'):=χ (by
  have:=Yh m.ino ho x.iA m.ino.length x.ic w rfl h.vs.met.lies.ino (by omega)
  rw[hq]at this
  exact this)
 have HV:=χ h
 obtain⟨c0,c1,c2,c3,c4⟩:=h.vs.cells
 clear h ho hl hq
 go_enter Tryz.func40,Tryz.ntmps40
 go_wp2_with ((go_at_call 105;go_must (with_reducible refine SK.out.mono ?_);rintro e w1 ⟨he,hb⟩;obtain rfl:=he;have Ub:=χ (HV.out.below hb);clear hb c0 c1 c2 c3 c4;obtain⟨c0,c1,c2,c3,c4⟩:=Ub.out.vs.cells))
 refine qaf (v:=.tuple #[(),.int .i64 5]) (by simp[results,Tryz.results40,go_sem]) rfl ?_
 exact⟨rfl,Ub.out⟩
theorem D6(h:VM P w0 w bv bm x m (ZY j i g pp b bj be A c dead) at_ there n)(a:Nat)(ho:∀y∈m.ino,Z9.YS y)(hl:m.ino.length<=64)(q:Nat)(hq:V3 m.ino=some q)(h0:(Z8.ZH m.rows a).err≠0):
  qag Tryz.prog 40 #[.pointer bv,.int .u8 1,.int .u16 a] w fun e w'=>e=.returned (.tuple #[(),.int .i64 ((Z8.ZH m.rows a).err:Int)])/\VM P w0 w' bv bm x m (ZY j i g pp b bj be A c dead) at_ there n:=by
 have SK:qal (qag Tryz.prog 105 #[.slice x.iA m.ino.length x.ic,.func (.func 91) #[] #[]] w fun e w'=>e=.returned (.int .i64 ((q:Int)))/\qak w.heap.size w w'):=χ (by
  have:=Yh m.ino ho x.iA m.ino.length x.ic w rfl h.vs.met.lies.ino (by omega)
  rw[hq]at this
  exact this)
 have HV:=χ h
 obtain⟨c0,c1,c2,c3,c4⟩:=h.vs.cells
 have Ua:qal (∀u:qai,VM P w0 u bv bm x m (ZY j i g pp b bj be A c dead) at_ there n->qag Tryz.prog 106 #[.pointer bv,.int .u16 a] u fun e w'=>e=.returned (.tuple #[(),.int .i64 ((Z8.ZH m.rows a).err:Int)])/\VM P w0 w' bv bm x m (ZY j i g pp b bj be A c dead) at_ there n):=χ (fun u hv=>by
  refine(RF hv.vs a h0).mono ?_
  rintro e w' ⟨he,hb⟩
  exact⟨he,hv.below hb⟩)
 have hne:((Z8.ZH m.rows a).err:Int)≠0:=by omega
 have hq0:¬ (q:Int)<0:=by omega
 clear h ho hl hq h0
 generalize hr:Z8.ZH m.rows a=r at*
 clear hr
 go_enter Tryz.func40,Tryz.ntmps40
 go_wp2_with (first|(go_at_call 105;go_must (with_reducible refine SK.out.mono ?_);rintro e w1 ⟨he,hb⟩;obtain rfl:=he;have Ub:=χ (HV.out.below hb);clear hb c0 c1 c2 c3 c4;obtain⟨c0,c1,c2,c3,c4⟩:=Ub.out.vs.cells)|(go_at_call 106;go_must (with_reducible refine(Ua.out _ Ub.out).mono ?_);rintro e w2 ⟨he,hv⟩;obtain rfl:=he;have X7:=χ hv;clear hv))
 refine qaf (v:=.tuple #[(),r.err]) (by simp[results,Tryz.results40,go_sem]) rfl ?_
 exact⟨rfl,X7.out⟩
theorem Ay(h:VM P w0 w bv bm x m (ZY j i g pp b bj be A c dead) at_ there n)(a:Nat)(ho:∀y∈m.ino,Z9.YS y)(hl:m.ino.length<=64)(q:Nat)(hq:V3 m.ino=some q)(h0:(Z8.ZH m.rows a).err=0)(hat:(Z8.ZH m.rows a).at_<16):
  qag Tryz.prog 40 #[.pointer bv,.int .u8 1,.int .u16 a] w fun e w'=>e=.returned (.tuple #[q,()])/\∃x',VM P w0 w' bv bm x' {m with rows:=(Z8.ZH m.rows a).rows,ino:=m.ino.set q (La 1 (Z8.ZH m.rows a).at_)} (ZY j i g pp b bj be A c dead) at_ there n:=by
 have SK:qal (qag Tryz.prog 105 #[.slice x.iA m.ino.length x.ic,.func (.func 91) #[] #[]] w fun e w'=>e=.returned (.int .i64 ((q:Int)))/\qak w.heap.size w w'):=χ (by
  have:=Yh m.ino ho x.iA m.ino.length x.ic w rfl h.vs.met.lies.ino (by omega)
  rw[hq]at this
  exact this)
 have HV:=χ h
 obtain⟨c0,c1,c2,c3,c4⟩:=h.vs.cells
 have Ua:qal (∀u:qai,VM P w0 u bv bm x m (ZY j i g pp b bj be A c dead) at_ there n->qag Tryz.prog 106 #[.pointer bv,.int .u16 a] u fun e w'=>e=.returned (.tuple #[.int .i64 ((Z8.ZH m.rows a).at_:Int),()])/\∃x',x'.iA=x.iA/\x'.ic=x.ic/\VM P w0 w' bv bm x' {m with rows:=(Z8.ZH m.rows a).rows} (ZY j i g pp b bj be A c dead) at_ there n):=χ (fun u hv=>by
  refine(Tn hv.vs a h0).mono ?_
  rintro e w' ⟨he,⟨A2,c2,h1⟩,h2⟩
  exact⟨he,{x with rA:=A2,rc:=c2},rfl,rfl,hv.turn h1 h2⟩)
 have hq0:¬ (q:Int)<0:=by omega
 have fG:(0:Int)<=(q:Int):=by omega
 obtain⟨nq,hnq,-,-⟩:=Qb hq
 have MK:=(qae.1 hnq).1
 have kS:(q:Int)<(m.ino.length:Int):=by omega
 obtain⟨bi,ci,WL,hci⟩:=Zv h.vs.met.ino (by omega)
 have hA:=(qao WL).1
 clear WL
 have Xg:=χ hA
 generalize hr0:Z8.ZH m.rows a=R at*
 obtain⟨r,hr⟩:∃r:Nat,R.at_=r:=⟨_,rfl⟩
 rw[hr]at hat Ua⊢
 have hw8:IntKind.u8.wrap (r:Int)=(r:Int):=by rw[IntKind.wrap_u8];omega
 have NW:qal (∀(u:qai)(x':Meta.Mem),x'.iA=some ⟨bi,0,none⟩->VM P w0 u bv bm x' {m with rows:=R.rows} (ZY j i g pp b bj be A c dead) at_ there n->VM P w0 (u.setCells bi (q*14) [.int .u8 1,.int .u8 r,(),(),(),(),(),(),(),(),(),(),(),()]) bv bm x' {m with rows:=R.rows,ino:=m.ino.set q (La 1 r)} (ZY j i g pp b bj be A c dead) at_ there n):=χ (fun u x' hx hu=>by
  have hcell:Z9.ZX (La 1 r)=[.int .u8 1,.int .u8 r,.int .i64 0,.int .i64 0,.int .i64 0,.int .i64 0,.int .i64 0,.int .i64 0,.int .i64 0,.int .i64 0,.int .i64 0,.int .i64 0,.int .i64 0,.int .i64 0]:=rfl
  rw[<-hcell]
  exact hu.inode ho hx MK (Vt (by decide) hat).2)
 have Oz:qal (∀(u:qai)(x':Meta.Mem),x'.iA=some ⟨bi,0,none⟩->VM P w0 u bv bm x' {m with rows:=R.rows} (ZY j i g pp b bj be A c dead) at_ there n->u.there bi (q*14) 14):=χ (fun u x' hx hu=>Xu (by have:=hu.vs.met.ino;rw[hx]at this;exact this) MK)
 have Tm:qal ((#[.int .u8 1,.int .u8 r,(),(),(),(),(),(),(),(),(),(),(),()]:Array qam).all (·.oneCell')=true):=χ (by kernel_rfl)
 clear h ho hl hq h0 hat hnq MK hA hci hr0 hr
 go_enter Tryz.func40,Tryz.ntmps40
 go_wp2_with (first|(go_at_call 105;go_must (with_reducible refine SK.out.mono ?_);rintro e w1 ⟨he,hb⟩;obtain rfl:=he;have Ub:=χ (HV.out.below hb);clear hb c0 c1 c2 c3 c4;obtain⟨c0,c1,c2,c3,c4⟩:=Ub.out.vs.cells)|(go_at_call 106;go_must (with_reducible refine(Ua.out _ Ub.out).mono ?_);rintro e w2 ⟨he,x2,hx2,hx3,hv⟩;obtain rfl:=he;have X7:=χ hv;have OC:=χ (hx2.trans Xg.out);clear hv c0 c1 c2 c3 c4;obtain⟨c0,c1,c2,c3,c4⟩:=X7.out.vs.cells;rw[OC.out]at c3;have HT2:=χ (Oz.out _ _ OC.out X7.out);clear hx2 hx3)|(refine qah rfl 40 (.tmp 50) (.tmp 49) rfl bi (q*14) #[.int .u8 1,.int .u8 r,(),(),(),(),(),(),(),(),(),(),(),()] rfl rfl HT2.out Zj Tm.out ?_;have RQ:=χ (NW.out _ _ OC.out X7.out);generalize w2.setCells bi (q*14) [.int .u8 1,.int .u8 r,.int .i64 0,.int .i64 0,.int .i64 0,.int .i64 0,.int .i64 0,.int .i64 0,.int .i64 0,.int .i64 0,.int .i64 0,.int .i64 0,.int .i64 0,.int .i64 0]=w3 at*))
 refine qaf (v:=.tuple #[q,()]) (by simp[results,Tryz.results40,go_sem]) rfl ?_
 exact⟨rfl,x2,RQ.out⟩
theorem Iu(h:VM P w0 w bv bm x m (ZY j i g pp b bj be A c dead) at_ there n)(a:Nat)(ho:∀y∈m.ino,Z9.YS y)(hl:m.ino.length<=64)(hq:V3 m.ino=none):
  qag Tryz.prog 40 #[.pointer bv,.int .u8 2,.int .u16 a] w fun e w'=>e=.returned (.tuple #[(),.int .i64 5])/\VM P w0 w' bv bm x m (ZY j i g pp b bj be A c dead) at_ there n:=by
 have SK:qal (qag Tryz.prog 105 #[.slice x.iA m.ino.length x.ic,.func (.func 91) #[] #[]] w fun e w'=>e=.returned (.int .i64 (-1))/\qak w.heap.size w w'):=χ (by
  have:=Yh m.ino ho x.iA m.ino.length x.ic w rfl h.vs.met.lies.ino (by omega)
  rw[hq]at this
  exact this)
 have HV:=χ h
 obtain⟨c0,c1,c2,c3,c4⟩:=h.vs.cells
 clear h ho hl hq
 go_enter Tryz.func40,Tryz.ntmps40
 go_wp2_with ((go_at_call 105;go_must (with_reducible refine SK.out.mono ?_);rintro e w1 ⟨he,hb⟩;obtain rfl:=he;have Ub:=χ (HV.out.below hb);clear hb c0 c1 c2 c3 c4;obtain⟨c0,c1,c2,c3,c4⟩:=Ub.out.vs.cells))
 refine qaf (v:=.tuple #[(),.int .i64 5]) (by simp[results,Tryz.results40,go_sem]) rfl ?_
 exact⟨rfl,Ub.out⟩
theorem D5(h:VM P w0 w bv bm x m (ZY j i g pp b bj be A c dead) at_ there n)(a:Nat)(ho:∀y∈m.ino,Z9.YS y)(hl:m.ino.length<=64)(q:Nat)(hq:V3 m.ino=some q)(h0:(Z8.ZH m.rows a).err≠0):
  qag Tryz.prog 40 #[.pointer bv,.int .u8 2,.int .u16 a] w fun e w'=>e=.returned (.tuple #[(),.int .i64 ((Z8.ZH m.rows a).err:Int)])/\VM P w0 w' bv bm x m (ZY j i g pp b bj be A c dead) at_ there n:=by
 have SK:qal (qag Tryz.prog 105 #[.slice x.iA m.ino.length x.ic,.func (.func 91) #[] #[]] w fun e w'=>e=.returned (.int .i64 ((q:Int)))/\qak w.heap.size w w'):=χ (by
  have:=Yh m.ino ho x.iA m.ino.length x.ic w rfl h.vs.met.lies.ino (by omega)
  rw[hq]at this
  exact this)
 have HV:=χ h
 obtain⟨c0,c1,c2,c3,c4⟩:=h.vs.cells
 have Ua:qal (∀u:qai,VM P w0 u bv bm x m (ZY j i g pp b bj be A c dead) at_ there n->qag Tryz.prog 106 #[.pointer bv,.int .u16 a] u fun e w'=>e=.returned (.tuple #[(),.int .i64 ((Z8.ZH m.rows a).err:Int)])/\VM P w0 w' bv bm x m (ZY j i g pp b bj be A c dead) at_ there n):=χ (fun u hv=>by
  refine(RF hv.vs a h0).mono ?_
  rintro e w' ⟨he,hb⟩
  exact⟨he,hv.below hb⟩)
 have hne:((Z8.ZH m.rows a).err:Int)≠0:=by omega
 have hq0:¬ (q:Int)<0:=by omega
 clear h ho hl hq h0
 generalize hr:Z8.ZH m.rows a=r at*
 clear hr
 go_enter Tryz.func40,Tryz.ntmps40
 go_wp2_with (first|(go_at_call 105;go_must (with_reducible refine SK.out.mono ?_);rintro e w1 ⟨he,hb⟩;obtain rfl:=he;have Ub:=χ (HV.out.below hb);clear hb c0 c1 c2 c3 c4;obtain⟨c0,c1,c2,c3,c4⟩:=Ub.out.vs.cells)|(go_at_call 106;go_must (with_reducible refine(Ua.out _ Ub.out).mono ?_);rintro e w2 ⟨he,hv⟩;obtain rfl:=he;have X7:=χ hv;clear hv))
 refine qaf (v:=.tuple #[(),r.err]) (by simp[results,Tryz.results40,go_sem]) rfl ?_
 exact⟨rfl,X7.out⟩
theorem Aw(h:VM P w0 w bv bm x m (ZY j i g pp b bj be A c dead) at_ there n)(a:Nat)(ho:∀y∈m.ino,Z9.YS y)(hl:m.ino.length<=64)(q:Nat)(hq:V3 m.ino=some q)(h0:(Z8.ZH m.rows a).err=0)(hat:(Z8.ZH m.rows a).at_<16):
  qag Tryz.prog 40 #[.pointer bv,.int .u8 2,.int .u16 a] w fun e w'=>e=.returned (.tuple #[q,()])/\∃x',VM P w0 w' bv bm x' {m with rows:=(Z8.ZH m.rows a).rows,ino:=m.ino.set q (La 2 (Z8.ZH m.rows a).at_)} (ZY j i g pp b bj be A c dead) at_ there n:=by
 have SK:qal (qag Tryz.prog 105 #[.slice x.iA m.ino.length x.ic,.func (.func 91) #[] #[]] w fun e w'=>e=.returned (.int .i64 ((q:Int)))/\qak w.heap.size w w'):=χ (by
  have:=Yh m.ino ho x.iA m.ino.length x.ic w rfl h.vs.met.lies.ino (by omega)
  rw[hq]at this
  exact this)
 have HV:=χ h
 obtain⟨c0,c1,c2,c3,c4⟩:=h.vs.cells
 have Ua:qal (∀u:qai,VM P w0 u bv bm x m (ZY j i g pp b bj be A c dead) at_ there n->qag Tryz.prog 106 #[.pointer bv,.int .u16 a] u fun e w'=>e=.returned (.tuple #[.int .i64 ((Z8.ZH m.rows a).at_:Int),()])/\∃x',x'.iA=x.iA/\x'.ic=x.ic/\VM P w0 w' bv bm x' {m with rows:=(Z8.ZH m.rows a).rows} (ZY j i g pp b bj be A c dead) at_ there n):=χ (fun u hv=>by
  refine(Tn hv.vs a h0).mono ?_
  rintro e w' ⟨he,⟨A2,c2,h1⟩,h2⟩
  exact⟨he,{x with rA:=A2,rc:=c2},rfl,rfl,hv.turn h1 h2⟩)
 have hq0:¬ (q:Int)<0:=by omega
 have fG:(0:Int)<=(q:Int):=by omega
 obtain⟨nq,hnq,-,-⟩:=Qb hq
 have MK:=(qae.1 hnq).1
 have kS:(q:Int)<(m.ino.length:Int):=by omega
 obtain⟨bi,ci,WL,hci⟩:=Zv h.vs.met.ino (by omega)
 have hA:=(qao WL).1
 clear WL
 have Xg:=χ hA
 generalize hr0:Z8.ZH m.rows a=R at*
 obtain⟨r,hr⟩:∃r:Nat,R.at_=r:=⟨_,rfl⟩
 rw[hr]at hat Ua⊢
 have hw8:IntKind.u8.wrap (r:Int)=(r:Int):=by rw[IntKind.wrap_u8];omega
 have NW:qal (∀(u:qai)(x':Meta.Mem),x'.iA=some ⟨bi,0,none⟩->VM P w0 u bv bm x' {m with rows:=R.rows} (ZY j i g pp b bj be A c dead) at_ there n->VM P w0 (u.setCells bi (q*14) [.int .u8 2,.int .u8 r,(),(),(),(),(),(),(),(),(),(),(),()]) bv bm x' {m with rows:=R.rows,ino:=m.ino.set q (La 2 r)} (ZY j i g pp b bj be A c dead) at_ there n):=χ (fun u x' hx hu=>by
  have hcell:Z9.ZX (La 2 r)=[.int .u8 2,.int .u8 r,.int .i64 0,.int .i64 0,.int .i64 0,.int .i64 0,.int .i64 0,.int .i64 0,.int .i64 0,.int .i64 0,.int .i64 0,.int .i64 0,.int .i64 0,.int .i64 0]:=rfl
  rw[<-hcell]
  exact hu.inode ho hx MK (Vt (by decide) hat).2)
 have Oz:qal (∀(u:qai)(x':Meta.Mem),x'.iA=some ⟨bi,0,none⟩->VM P w0 u bv bm x' {m with rows:=R.rows} (ZY j i g pp b bj be A c dead) at_ there n->u.there bi (q*14) 14):=χ (fun u x' hx hu=>Xu (by have:=hu.vs.met.ino;rw[hx]at this;exact this) MK)
 have Tm:qal ((#[.int .u8 2,.int .u8 r,(),(),(),(),(),(),(),(),(),(),(),()]:Array qam).all (·.oneCell')=true):=χ (by kernel_rfl)
 clear h ho hl hq h0 hat hnq MK hA hci hr0 hr
 go_enter Tryz.func40,Tryz.ntmps40
 go_wp2_with (first|(go_at_call 105;go_must (with_reducible refine SK.out.mono ?_);rintro e w1 ⟨he,hb⟩;obtain rfl:=he;have Ub:=χ (HV.out.below hb);clear hb c0 c1 c2 c3 c4;obtain⟨c0,c1,c2,c3,c4⟩:=Ub.out.vs.cells)|(go_at_call 106;go_must (with_reducible refine(Ua.out _ Ub.out).mono ?_);rintro e w2 ⟨he,x2,hx2,hx3,hv⟩;obtain rfl:=he;have X7:=χ hv;have OC:=χ (hx2.trans Xg.out);clear hv c0 c1 c2 c3 c4;obtain⟨c0,c1,c2,c3,c4⟩:=X7.out.vs.cells;rw[OC.out]at c3;have HT2:=χ (Oz.out _ _ OC.out X7.out);clear hx2 hx3)|(refine qah rfl 40 (.tmp 50) (.tmp 49) rfl bi (q*14) #[.int .u8 2,.int .u8 r,(),(),(),(),(),(),(),(),(),(),(),()] rfl rfl HT2.out Zj Tm.out ?_;have RQ:=χ (NW.out _ _ OC.out X7.out);generalize w2.setCells bi (q*14) [.int .u8 2,.int .u8 r,.int .i64 0,.int .i64 0,.int .i64 0,.int .i64 0,.int .i64 0,.int .i64 0,.int .i64 0,.int .i64 0,.int .i64 0,.int .i64 0,.int .i64 0,.int .i64 0]=w3 at*))
 refine qaf (v:=.tuple #[q,()]) (by simp[results,Tryz.results40,go_sem]) rfl ?_
 exact⟨rfl,x2,RQ.out⟩
end
end Go.Proofs.YtmehhgfbnfbnaaaGreat.Y7

namespace Go.Proofs.YtmehhgfbnfbnaaaGreat.Y7
open Go.RowKit Zc Meta
section
variable {j i g pp bv bm b bj c n:Nat}{P:Nat->Prop}{w0 w:qai}{x:Meta.Mem}{m:Meta.Met}{be:qam}{A:Option Addr}{dead:Bool}{at_:Int->Sx}{there:Int->Bool}
theorem FW(h:VM P w0 w bv bm x m (ZY j i g pp b bj be A c dead) at_ there n)(a:Int)(ha:¬ (0<=a/\a<(m.ino.length:Int))):
  qag Tryz.prog 44 #[.pointer bv,a] w fun e w'=>e=.returned (.int .i64 1)/\VM P w0 w' bv bm x m (ZY j i g pp b bj be A c dead) at_ there n:=by
 have HI:=χ (DY h a ha)
 clear h ha
 go_enter Tryz.func44,Tryz.ntmps44
 go_upto_region 2 with(go_at_call 28;go_must (with_reducible refine HI.out.mono ?_);rintro e w1 ⟨he,hv⟩;obtain rfl:=he;have Ub:=χ hv;clear hv)
 have X7:=χ (Ub.out.below (ZZ w1 (.cells #["","",(),(),(),(),(),(),(),(),(),(),(),()] 40)))
 go_wp2
 go_ret
 exact⟨rfl,X7.out⟩
theorem Jd(h:VM P w0 w bv bm x m (ZY j i g pp b bj be A c dead) at_ there n)(a:Nat)(nd:Z9.Zz)(ha:m.ino[a]? =some nd)(hk:nd.k=0)(ho:∀y∈m.ino,Z9.YS y)(hl:m.ino.length<=64):
  qag Tryz.prog 44 #[.pointer bv,a] w fun e w'=>e=.returned (.int .i64 2)/\VM P w0 w' bv bm x m (ZY j i g pp b bj be A c dead) at_ there n:=by
 have HI:=χ (Iq h a nd ha hk ho hl)
 clear h ha hk ho hl
 go_enter Tryz.func44,Tryz.ntmps44
 go_upto_region 2 with(go_at_call 28;go_must (with_reducible refine HI.out.mono ?_);rintro e w1 ⟨he,hv⟩;obtain rfl:=he;have Ub:=χ hv;clear hv)
 have X7:=χ (Ub.out.below (ZZ w1 (.cells #["","",(),(),(),(),(),(),(),(),(),(),(),()] 40)))
 go_wp2
 go_ret
 exact⟨rfl,X7.out⟩
theorem BD(h:VM P w0 w bv bm x m (ZY j i g pp b bj be A c dead) at_ there n)(a:Nat)(nd:Z9.Zz)(y:Z8.Rw)(ha:m.ino[a]? =some nd)(hk:nd.k≠0)(hy:m.rows[nd.r]? =some y)(hrl:m.rows.length=16)(ho:∀y∈m.ino,Z9.YS y)(hl:m.ino.length<=64)(hrel:(Z8.YM m.rows (nd.r:Int)).err=0):
  qag Tryz.prog 44 #[.pointer bv,a] w fun e w'=>e=.returned (.int .i64 0)/\∃x',VM P w0 w' bv bm x' {m with rows:=(Z8.YM m.rows (nd.r:Int)).rows,ino:=m.ino.set a .z} (ZY j i g pp b bj be A c dead) at_ there n:=by
 have HI:=χ (Aq h a nd y ha hk hy hrl ho hl)
 have halt:=(qae.1 ha).1
 have hon:=ho nd (List.mem_of_getElem? ha)
 have mE:qal (∀u:qai,VM P w0 u bv bm x m (ZY j i g pp b bj be A c dead) at_ there n->qag Tryz.prog 110 #[.pointer bv,nd.r] u fun e w'=>e=.returned (.tuple #[])/\(∃x',x'.iA=x.iA/\x'.ic=x.ic/\VM P w0 w' bv bm x' {m with rows:=(Z8.YM m.rows (nd.r:Int)).rows} (ZY j i g pp b bj be A c dead) at_ there n)/\Kept (· =bv) u w'):=χ (fun u hv=>by
  refine(Ra hv.vs (nd.r:Int) hrel).mono ?_
  rintro e w' ⟨he,⟨A2,c2,h1⟩,h2⟩
  exact⟨he,⟨{x with rA:=A2,rc:=c2},rfl,rfl,hv.turn h1 h2⟩,h2⟩)
 obtain⟨bi,ci,WL,hci⟩:=Zv h.vs.met.ino (by omega)
 have hA:=(qao WL).1
 clear WL
 have Xg:=χ hA
 have hw:IntKind.i64.wrap (nd.r:Int)=(nd.r:Int):=by rw[IntKind.wrap_i64];have:=hon.r;omega
 have ha0:(0:Int)<=(a:Int):=by omega
 have ha1:(a:Int)<(m.ino.length:Int):=by omega
 have NW:qal (∀(u:qai)(x':Meta.Mem),x'.iA=some ⟨bi,0,none⟩->VM P w0 u bv bm x' {m with rows:=(Z8.YM m.rows (nd.r:Int)).rows} (ZY j i g pp b bj be A c dead) at_ there n->VM P w0 (u.setCells bi (a*14) ["","",(),(),(),(),(),(),(),(),(),(),(),()]) bv bm x' {m with rows:=(Z8.YM m.rows (nd.r:Int)).rows,ino:=m.ino.set a .z} (ZY j i g pp b bj be A c dead) at_ there n):=χ (fun u x' hx hu=>by
  have hcell:Z9.ZX .z=[.int .u8 0,.int .u8 0,.int .i64 0,.int .i64 0,.int .i64 0,.int .i64 0,.int .i64 0,.int .i64 0,.int .i64 0,.int .i64 0,.int .i64 0,.int .i64 0,.int .i64 0,.int .i64 0]:=rfl
  rw[<-hcell]
  exact hu.inode ho hx halt Z9.YS.z)
 have Oz:qal (∀(u:qai)(x':Meta.Mem),x'.iA=some ⟨bi,0,none⟩->VM P w0 u bv bm x' {m with rows:=(Z8.YM m.rows (nd.r:Int)).rows} (ZY j i g pp b bj be A c dead) at_ there n->u.there bi (a*14) 14):=χ (fun u x' hx hu=>Xu (by have:=hu.vs.met.ino;rw[hx]at this;exact this) halt)
 have Tm:qal ((#["","",(),(),(),(),(),(),(),(),(),(),(),()]:Array qam).all (·.oneCell')=true):=χ (by kernel_rfl)
 have UU:=χ (YI nd hon)
 have HL:qal ((Z9.ZX nd).length=14):=χ (Z9.Y4 hon)
 have H1:qal (∀v∈Z9.ZX nd,v.oneCell'=true):=χ (XW nd)
 have VL:qal ((Z9.ZX nd)[1]? =some (.int .u8 nd.r)):=χ rfl
 clear h ha hk hy hrl ho hl hrel halt hon hA hci
 generalize Z9.ZX nd=cx at*
 generalize hrr:Z8.YM m.rows (nd.r:Int)=R at*
 clear hrr
 generalize nd.r=r at*
 go_enter Tryz.func44,Tryz.ntmps44
 go_upto_region 2 with(first|(go_at_call 28;go_must (with_reducible refine HI.out.mono ?_);rintro e w1 ⟨he,hv⟩;obtain rfl:=he;have Ub:=χ hv;clear hv)|(refine qah rfl 40 (.tmp 5) (.tmp 12) rfl w1.heap.size 0 cx.toArray rfl rfl (Rc w1 (xs:=["","",(),(),(),(),(),(),(),(),(),(),(),()]) rfl HL.out) UU.out (qaj H1.out) ?_;have HB3:=χ (Meta.below_setCells (qan _) cx.toArray.toList 0 (ZZ w1 (.cells #["","",(),(),(),(),(),(),(),(),(),(),(),()] 40)));have X7:=χ (Ub.out.below HB3.out);have OA:=χ (KR (w:=w1) (e:=40) (xs:=["","",(),(),(),(),(),(),(),(),(),(),(),()]) cx rfl HL.out);have su:=χ (Nat.ne_of_gt Ub.out.vs.box.lt);generalize ((w1.alloc (.cells #["","",(),(),(),(),(),(),(),(),(),(),(),()] 40)).setCells w1.heap.size 0 cx.toArray.toList)=w2 at*))
 go_upto_region 4 with fail
 have Vm:=χ (X7.out.below (qak.refl _ w2).drew)
 have q1:=OA.out.cell 1
 rw[VL.out]at q1
 have hS0:w2.drew.cell? ⟨w1.heap.size,1,none⟩=some (.int .u8 r):=q1
 have NT:qal (Bk w2.drew w1.heap.size 40 cx):=χ OA.out
 refine wp_region_held_drew (S:=fun u=>u.cell? ⟨w1.heap.size,1,none⟩=some (.int .u8 r)) (by kernel_rfl) hS0 (fun hHeld=>?_)
 clear hS0 q1 X7 OA
 generalize hu0:w2.drew=NS at*
 clear hu0
 refine tk 0 ?_ (y:=.inl ⟨by rfl,?hya0⟩) (s:=by exact hHeld) (h:=?V4)
 case hya0=>(intro u hu;(try dsimp only at hu);go_simp<;>with_reducible rfl)
 try simp only[qad,qaa,qab,qac]
 refine tk 1 ?_ (y:=.inl ⟨by rfl,?hya1⟩) (s:=by exact hHeld) (h:=?Wn)
 case hya1=>(intro u hu;(try dsimp only at hu);go_simp<;>with_reducible rfl)
 try simp only[qad,qaa,qab,qac]
 refine tk 2 ?_ (y:=.inl ⟨by rfl,?hya2⟩) (s:=by exact hHeld) (h:=?Wm)
 case hya2=>(intro u hu;(try dsimp only at hu);go_simp<;>with_reducible rfl)
 try simp only[qad,qaa,qab,qac]
 refine tk 3 ?_ (y:=.inl ⟨by rfl,?hya3⟩) (s:=by exact hHeld) (h:=?Tp)
 case hya3=>(intro u hu;(try dsimp only at hu);go_simp<;>with_reducible rfl)
 try simp only[qad,qaa,qab,qac]
 refine tk 4 ?_ (y:=.inl ⟨by rfl,?hya4⟩) (s:=by exact hHeld) (h:=?TJ)
 case hya4=>(intro u hu;(try dsimp only at hu);go_simp<;>with_reducible rfl)
 try simp only[qad,qaa,qab,qac]
 refine tk 5 ?_ (y:=.inl ⟨by rfl,?hya5⟩) (s:=by exact hHeld) (h:=?Vw)
 case hya5=>(intro u hu;(try dsimp only at hu);go_simp<;>with_reducible rfl)
 try simp only[qad,qaa,qab,qac]
 refine rd 6 (h:=fun K hK=>?_)
 go_simp
 (with_reducible refine(mE.out _ Vm.out).mono ?_)
 rintro e w3 ⟨he,⟨x2,hx2,hx3,hv⟩,hk⟩;obtain rfl:=he
 have hS:w3.cell? ⟨w1.heap.size,1,none⟩=some (.int .u8 r):=(qai.cell?_of_block (a:=⟨w1.heap.size,1,none⟩) (hk.block _ NT.out.lt su.out)).trans hHeld
 have qb:=χ hv
 have OC:=χ (hx2.trans Xg.out)
 clear hv hx2 hx3 hk
 go_simp
 refine hK.out _ _ hS (fun Z4=>?_)
 clear hK K hHeld hS Z4
 try simp only[qad,qaa,qab,qac]
 refine wpAnyH_done (by kernel_rfl) ?_ _
 obtain⟨c0,c1,c2,c3,c4⟩:=qb.out.vs.cells
 rw[OC.out]at c3
 have HT2:=χ (Oz.out _ _ OC.out qb.out)
 clear c0 c1 c2 c4
 go_wp2_with (refine qah rfl 40 (.tmp 33) (.tmp 32) rfl bi (a*14) #["","",(),(),(),(),(),(),(),(),(),(),(),()] rfl rfl HT2.out Zj Tm.out ?_;have RQ:=χ (NW.out _ _ OC.out qb.out);generalize w3.setCells bi (a*14) [.int .u8 0,.int .u8 0,.int .i64 0,.int .i64 0,.int .i64 0,.int .i64 0,.int .i64 0,.int .i64 0,.int .i64 0,.int .i64 0,.int .i64 0,.int .i64 0,.int .i64 0,.int .i64 0]=w4 at*)
 go_ret
 exact⟨rfl,x2,RQ.out⟩
end
end Go.Proofs.YtmehhgfbnfbnaaaGreat.Y7

namespace Go.Proofs.YtmehhgfbnfbnaaaGreat.Y7
open Go.RowKit Zc Meta Go.Maps Go.WideShapes
section
variable {e:TypeId}{w w0:qai}{g b j i pp bv bm bj c n:Nat}{there:Int->Bool}{xs vs:List qam}{P:Nat->Prop}{x:Meta.Mem}{m:Meta.Met}{be:qam}{A:Option Addr}{dead:Bool}{at_:Int->Sx}
theorem Yt.wZ {β:Type}{t:TypeId}{R:qam->Option (DataW Unit × List MemPlace)}{enc:β->qam}{dat:β->DataW Unit}{ok:β->Prop}{z:β}{m:Nat}{at_:Int->β}(E:Elem e R enc dat ok z)(ht:Tryz.prog.underlying t=some (.map 3 e))(h:Yt R dat z w b at_ there m){s:Int}(hs:DK s):
  (Instr.lookup t (.map (some b)) (.int .i64 s) true).run Tryz.prog w=.ok (.tuple #[enc (at_ s),.bool (there s)]) w:=by
 obtain⟨D,h1,h2,h3,_⟩:=h
 obtain⟨v,ps,hrun,hv⟩:=h1.look_ok pW ht (E.zero w) (E.make z E.okz) (Fs hs)
 obtain⟨x,rfl,hx,hok⟩:=E.inv _ _ hv
 have e1:=h2 s
 rw[Prod.mk.injEq]at hx
 obtain rfl:=E.inj _ _ (hx.1.symm.trans e1)
 rw[hrun,h3]
theorem Er:∀(vs:List qam){u:qai}{xs:List qam}(o:Nat),Bk u g e xs->Bk (u.setCells g o vs) g e (ME xs o vs)
 |[],_,_,_,h=>h
 |v::vs,_,_,o,h=>Er vs (o+1) (h.set o v)
theorem wY(h:vs.length=xs.length):ME xs 0 vs=vs:=by
 apply List.ext_getElem?
 intro k
 rcases Nat.lt_or_ge k xs.length with hk|hk
 ·rw[Fe vs xs 0 k hk,if_pos ⟨Nat.zero_le _,by omega⟩]
  rfl
 ·rw[qaq (by rw[Q7];exact hk),qaq (by omega)]
theorem N9(h:vs.length=xs.length):Bk ((w.alloc (.cells xs.toArray e)).setCells w.heap.size 0 vs) w.heap.size e vs:=by
 have:=Er vs 0 (Bk.new w e xs)
 rwa[wY h]at this
theorem Qq(h:vs.length=xs.length):(w.alloc (.cells xs.toArray e)).there w.heap.size 0 vs.toArray.size:=by
 rw[show vs.toArray.size=xs.length by simp[h]]
 exact Vq w xs e xs.length rfl
theorem FV(c:Sx):(sx c).length=65:=Ti.len c
theorem MX(c:Sx):(Tryz.prog.info? 163).map (·.size)=some (sx c).toArray.size:=by
 rw[List.size_toArray,FV]
 kernel_rfl
theorem mY{u:qai}{c:Sx}(h:Bk u g e (sx c)):Rd u u.heap.size (some ⟨g,0,none⟩) (Z7 c.b):=by
 have:=h.rd 64 0
 have e2:((sx c).drop 0).take 64=Z7 c.b:=by
  rw[List.drop_zero]
  unfold sx
  rw[List.take_left' (by rw[Z5,c.hb])]
 rwa[e2]at this
theorem IU(Y8:VG j i g pp)(h:VM P w0 w bv bm x m (ZY j i g pp b bj be A c dead) at_ there n)(a:Nat)(ha:a<g*pp)(hd:there (a:Int)=true):
  qag Tryz.prog 36 #[.pointer bv,a] w fun e w'=>∃gc,e=.returned (.tuple #[.slice (some ⟨gc,0,none⟩) 64 64,()])/\Rd w' w'.heap.size (some ⟨gc,0,none⟩) (Z7 (at_ (a:Int)).b)/\VM P w0 w' bv bm x m (ZY j i g pp b bj be A c dead) at_ there n/\qak w.heap.size w w'/\w.heap.size<=gc:=by
 have KN:qal (qag Tryz.prog 97 #[.pointer bv,a] w fun e w'=>e=.returned (.tuple #[.int .i64 ((a/pp:Nat):Int),()])/\qak w.heap.size w w'):=χ (Xw Y8 h.vs a ha)
 have WV:=Y8.v.gp
 have hi:DK (a:Int):=by
  rw[<-Int.natCast_mul]at WV
  constructor<;>omega
 have af:qal (∀u:qai,VM P w0 u bv bm x m (ZY j i g pp b bj be A c dead) at_ there n->(Instr.lookup 125 (.map (some bm)) (.int .i64 a) true).run Tryz.prog u=.ok (.tuple #[Rz (at_ (a:Int)),true]) u):=χ (fun u hu=>by
  have:=hu.map.wZ (t:=125) pX rfl hi
  rwa[hd]at this)
 have HV:=χ h
 clear h Y8 ha hd WV hi
 generalize at_ (a:Int)=cx at*
 generalize a/pp=q at*
 have HC:qal (Rz cx=.agg (sx cx).toArray):=χ rfl
 have VL:qal (∀v∈sx cx,v.oneCell'=true):=χ (Ti.one cx)
 have FB:=χ (MX cx)
 have K4:qal ((sx cx).length=Tryz.zeroCells163.toList.length):=χ (by rw[FV];exact SG.symm)
 go_enter Tryz.func36,Tryz.ntmps36
 go_upto_region 4 with(go_at_call 97;go_must (with_reducible refine KN.out.mono ?_);rintro e w1 ⟨he,hb⟩;obtain rfl:=he;have Ub:=χ (HV.out.below hb);have HB:=χ hb;clear hb)
 obtain⟨c0,c1,c2,c3,c4⟩:=Ub.out.vs.cells
 have hlk:=af.out _ Ub.out
 rw[HC.out]at hlk
 go_upto_region 5 with(refine qah rfl 163 (.tmp 8) (.tmp 27) rfl w1.heap.size 0 (sx cx).toArray rfl rfl (Qq (w:=w1) (xs:=Tryz.zeroCells163.toList) K4.out) FB.out (qaj VL.out) ?_;have HB3:=χ (Meta.below_setCells (qan _) (sx cx).toArray.toList 0 (ZZ w1 (.cells Tryz.zeroCells163 163)));have X7:=χ (Ub.out.below HB3.out);have OA:=χ (N9 (w:=w1) (e:=163) (xs:=Tryz.zeroCells163.toList) K4.out);generalize ((w1.alloc (.cells Tryz.zeroCells163 163)).setCells w1.heap.size 0 (sx cx).toArray.toList)=w2 at*)
 clear c0 c1 c2 c3 c4 hlk
 have hat:=run_arrayAt w2 ⟨w1.heap.size,0,none⟩ 64
 go_wp2
 refine qaf (v:=.tuple #[.slice w1.heap.size 64 64,()]) (by simp[results,Tryz.results36,go_sem]) rfl ?_
 exact⟨_,rfl,mY OA.out,X7.out,HB.out.trans (HB3.out.mono HB.out.size),HB.out.size⟩
theorem IQ(Y8:VG j i g pp)(h:VM P w0 w bv bm x m (ZY j i g pp b bj be A c dead) at_ there n)(a:Nat)(ha:a<g*pp)(hd:there (a:Int)=false){B0:Nat}{S:Nat->Prop}{kd:Dk Sx}(hD:DO B0 w S b kd){cy:Sx}(hcy:kd.now[Vy j i+a]? =some cy)(hoff:kd.dead=false):
  qag Tryz.prog 36 #[.pointer bv,a] w fun e w'=>∃gc,e=.returned (.tuple #[.slice (some ⟨gc,0,none⟩) 64 64,()])/\Rd w' w'.heap.size (some ⟨gc,0,none⟩) (Z7 cy.b)/\VM P w0 w' bv bm x m (ZY j i g pp b bj be A c dead) at_ there n/\qak w.heap.size w w'/\w.heap.size<=gc:=by
 have KN:qal (qag Tryz.prog 97 #[.pointer bv,a] w fun e w'=>e=.returned (.tuple #[.int .i64 ((a/pp:Nat):Int),()])/\qak w.heap.size w w'):=χ (Xw Y8 h.vs a ha)
 have WV:=Y8.v.gp
 have hjm:=Y8.all
 have hi:DK (a:Int):=by
  rw[<-Int.natCast_mul]at WV
  constructor<;>omega
 have OT:(1+(j:Int)+1+1+1+(i:Int)/2)+(a:Int)=((Vy j i+a:Nat):Int):=by unfold Vy;omega
 have hw:IntKind.i64.wrap (1+(j:Int)+1+1+1+(i:Int)/2+(a:Int))=((Vy j i+a:Nat):Int):=by
  rw[OT,IntKind.wrap_i64]
  have:Vy j i+a<Ym j i g pp:=by unfold Ym;omega
  omega
 have af:qal (∀u:qai,VM P w0 u bv bm x m (ZY j i g pp b bj be A c dead) at_ there n->(Instr.lookup 125 (.map (some bm)) (.int .i64 a) true).run Tryz.prog u=.ok (.tuple #[Rz (at_ (a:Int)),false]) u):=χ (fun u hu=>by
  have:=hu.map.wZ (t:=125) pX rfl hi
  rwa[hd]at this)
 have OD:qal (∀u:qai,qak w.heap.size w u->qag Tryz.prog 50 #[.pointer b,.int .i64 ((Vy j i+a:Nat):Int)] u fun e w'=>e=.returned (.tuple #[.slice u.heap.size 64 64,()])/\Bk w' u.heap.size 161 (Z7 cy.b)/\qak u.heap.size u w'):=χ (fun u hu=>Ry (hD.below hu) hcy hoff)
 have HV:=χ h
 clear h Y8 ha hd WV hi hD hcy hoff OT hjm
 generalize at_ (a:Int)=cx at*
 generalize a/pp=q at*
 generalize Vy j i+a=sec at*
 have HC:qal (Rz cx=.agg (sx cx).toArray):=χ rfl
 have VL:qal (∀v∈sx cx,v.oneCell'=true):=χ (Ti.one cx)
 have FB:=χ (MX cx)
 have K4:qal ((sx cx).length=Tryz.zeroCells163.toList.length):=χ (by rw[FV];exact SG.symm)
 go_enter Tryz.func36,Tryz.ntmps36
 go_upto_region 4 with(go_at_call 97;go_must (with_reducible refine KN.out.mono ?_);rintro e w1 ⟨he,hb⟩;obtain rfl:=he;have Ub:=χ (HV.out.below hb);have HB:=χ hb;clear hb)
 obtain⟨c0,c1,c2,c3,c4⟩:=Ub.out.vs.cells
 have hlk:=af.out _ Ub.out
 rw[HC.out]at hlk
 go_upto_region 7 with(refine qah rfl 163 (.tmp 8) (.tmp 27) rfl w1.heap.size 0 (sx cx).toArray rfl rfl (Qq (w:=w1) (xs:=Tryz.zeroCells163.toList) K4.out) FB.out (qaj VL.out) ?_;have HB3:=χ (HB.out.trans ((Meta.below_setCells (qan _) (sx cx).toArray.toList 0 (ZZ w1 (.cells Tryz.zeroCells163 163))).mono HB.out.size));generalize ((w1.alloc (.cells Tryz.zeroCells163 163)).setCells w1.heap.size 0 (sx cx).toArray.toList)=w2 at*)
 clear c0 c1 c2 c3 c4 hlk
 have NT:=χ HB3.out.drew
 have hv2:=(HV.out.below HB3.out.drew).vs.box
 have d6:=hv2.cell 6
 have d17:=hv2.cell 17
 clear hv2
 have hS0:w2.drew.cell? ⟨bv,6,none⟩=some (.pointer b)/\w2.drew.cell? ⟨bv,17,none⟩=some (.int .i64 (1+(j:Int)+1+1+1+(i:Int)/2)):=⟨d6,d17⟩
 refine wp_region_held_drew (S:=fun u=>u.cell? ⟨bv,6,none⟩=some (.pointer b)/\u.cell? ⟨bv,17,none⟩=some (.int .i64 (1+(j:Int)+1+1+1+(i:Int)/2))) (by kernel_rfl) hS0 (fun hHeld=>?_)
 clear hS0 d6 d17 HB3
 have HZ:qal (w.heap.size<=w2.drew.heap.size):=χ NT.out.size
 generalize hu0:w2.drew=NS at*
 clear hu0
 refine tk 0 ?_ (y:=.inl ⟨by rfl,?hya0⟩) (s:=by exact hHeld) (h:=?V4)
 case hya0=>(rintro u ⟨d6,d17⟩;go_simp<;>with_reducible rfl)
 try simp only[qad,qaa,qab,qac]
 refine tk 1 ?_ (y:=.inl ⟨by rfl,?hya1⟩) (s:=by exact hHeld) (h:=?Wn)
 case hya1=>(rintro u ⟨d6,d17⟩;go_simp<;>with_reducible rfl)
 try simp only[qad,qaa,qab,qac]
 refine tk 2 ?_ (y:=.inl ⟨by rfl,?hya2⟩) (s:=by exact hHeld) (h:=?Wm)
 case hya2=>(rintro u ⟨d6,d17⟩;go_simp<;>with_reducible rfl)
 try simp only[qad,qaa,qab,qac]
 refine tk 3 ?_ (y:=.inl ⟨by rfl,?hya3⟩) (s:=by exact hHeld) (h:=?Tp)
 case hya3=>(rintro u ⟨d6,d17⟩;go_simp<;>with_reducible rfl)
 try simp only[qad,qaa,qab,qac]
 refine tk 4 ?_ (y:=.inl ⟨by rfl,?hya4⟩) (s:=by exact hHeld) (h:=?TJ)
 case hya4=>(rintro u ⟨d6,d17⟩;go_simp<;>with_reducible rfl)
 try simp only[qad,qaa,qab,qac]
 refine tk 5 ?_ (y:=.inl ⟨by rfl,?hya5⟩) (s:=by exact hHeld) (h:=?Vw)
 case hya5=>(rintro u ⟨d6,d17⟩;go_simp<;>with_reducible rfl)
 try simp only[qad,qaa,qab,qac]
 refine tk 6 ?_ (y:=.inl ⟨by rfl,?hya6⟩) (s:=by exact hHeld) (h:=?Vg)
 case hya6=>(rintro u ⟨d6,d17⟩;go_simp<;>with_reducible rfl)
 try simp only[qad,qaa,qab,qac]
 refine tk 7 ?_ (y:=.inl ⟨by rfl,?hya7⟩) (s:=by exact hHeld) (h:=?QQ)
 case hya7=>(rintro u ⟨d6,d17⟩;go_simp<;>with_reducible rfl)
 try simp only[qad,qaa,qab,qac]
 refine tk 8 ?_ (y:=.inl ⟨by rfl,?hya8⟩) (s:=by exact hHeld) (h:=?RJ)
 case hya8=>(rintro u ⟨d6,d17⟩;go_simp<;>with_reducible rfl)
 try simp only[qad,qaa,qab,qac]
 refine tk 9 ?_ (y:=.inl ⟨by rfl,?hya9⟩) (s:=by exact hHeld) (h:=?Qg)
 case hya9=>(rintro u ⟨d6,d17⟩;go_simp<;>with_reducible rfl)
 try simp only[qad,qaa,qab,qac]
 refine tk 10 ?_ (y:=.inl ⟨by rfl,?hya10⟩) (s:=by exact hHeld) (h:=?UG)
 case hya10=>(rintro u ⟨d6,d17⟩;go_simp<;>with_reducible rfl)
 try simp only[qad,qaa,qab,qac]
 refine rd 11 (h:=fun K hK=>?_)
 go_simp
 (with_reducible refine(OD.out _ NT.out).mono ?_)
 rintro e w3 ⟨he,hrb,hb⟩;obtain rfl:=he
 have dG:=χ hrb
 have Vz:=χ (NT.out.trans (hb.mono NT.out.size))
 have hv2:=(HV.out.below Vz.out).vs.box
 have d6:=hv2.cell 6
 have d17:=hv2.cell 17
 clear hv2
 have hS:w3.cell? ⟨bv,6,none⟩=some (.pointer b)/\w3.cell? ⟨bv,17,none⟩=some (.int .i64 (1+(j:Int)+1+1+1+(i:Int)/2)):=⟨d6,d17⟩
 clear d6 d17 hrb hb
 go_simp
 refine hK.out _ _ hS (fun Z4=>?_)
 clear hK K hHeld hS
 have hHeld:=Z4
 clear Z4
 try simp only[qad,qaa,qab,qac]
 refine tk 12 ?_ (y:=.inl ⟨by rfl,?hya12⟩) (s:=by exact hHeld) (h:=?Qf)
 case hya12=>(rintro u ⟨d6,d17⟩;go_simp<;>with_reducible rfl)
 try simp only[qad,qaa,qab,qac]
 refine tk 13 ?_ (y:=.inl ⟨by rfl,?hya13⟩) (s:=by exact hHeld) (h:=?KP)
 case hya13=>(rintro u ⟨d6,d17⟩;go_simp<;>with_reducible rfl)
 try simp only[qad,qaa,qab,qac]
 refine tk 14 ?_ (y:=.inl ⟨by rfl,?hya14⟩) (s:=by exact hHeld) (h:=?Ao)
 case hya14=>(rintro u ⟨d6,d17⟩;go_simp<;>with_reducible rfl)
 try simp only[qad,qaa,qab,qac]
 refine tk 15 ?_ (y:=.inl ⟨by rfl,?hya15⟩) (s:=by exact hHeld) (h:=?Ag)
 case hya15=>(rintro u ⟨d6,d17⟩;go_simp<;>with_reducible rfl)
 try simp only[qad,qaa,qab,qac]
 refine wpAnyH_done (by kernel_rfl) ?_ _
 clear hHeld
 go_wp2
 refine qaf (v:=.tuple #[.slice NS.heap.size 64 64,()]) (by simp[results,Tryz.results36,go_sem]) rfl ?_
 refine⟨_,rfl,?_,HV.out.below Vz.out,Vz.out,HZ.out⟩
 have:=dG.out.rd 64 0
 rwa[List.drop_zero,List.take_of_length_le (by rw[Z5,cy.hb];exact qan _)]at this
end
end Go.Proofs.YtmehhgfbnfbnaaaGreat.Y7
