import Derived.Test.YtmehhgfbnfbnaaaGreatQVolI
import Derived.Test.YtmehhgfbnfbnaaaGreatQVolD
import Derived.Test.YtmehhgfbnfbnaaaGreatQTk
import Derived.Test.YtmehhgfbnfbnaaaGreatQVolN
set_option maxRecDepth 100000
set_option maxHeartbeats 25600000
open List renaming setIfInBounds_toArray->qaa,set_cons_zero->qab,set_cons_succ->qac,getElem?_eq_some_iff->qad,getElem?_eq_getElem->qak,getElem?_eq_none->qal
open Go renaming Calls->qae,bodyPost_ret->qaf,World->qag,wpList_store_mid->qah
open Go.Act renaming put->qai
open Go.Value.slice renaming inj->qaj
namespace Go.Proofs.YtmehhgfbnfbnaaaGreat
theorem ztq0{P:Prop}(h:P:=by
 have Qz:Hid (qae Tryz.prog 105 #[.slice x.iA m.ino.length x.ic,.func (.func 91) #[] #[]] w fun e w'=>e=.returned (.int .i64 ((q:Int)))/\Below w.heap.size w w'):=χ (by
  have:=XW m.ino ho x.iA m.ino.length x.ic w rfl h.vs.met.lies.ino (by omega)
  rw[hq]at this
  exact this)
 have HV:=χ h
 obtain⟨c0,c1,c2,c3,c4⟩:=h.vs.cells
 have Sw:Hid (∀u:qag,VM P w0 u bv bm x m (ZZ j i g pp b bj be A c dead) at_ there n->qae Tryz.prog 106 #[.pointer bv,.int .u16 a] u fun e w'=>e=.returned (.tuple #[(),.int .i64 ((Z8.ZH m.rows a).err:Int)])/\VM P w0 w' bv bm x m (ZZ j i g pp b bj be A c dead) at_ there n):=χ (fun u hv=>by
  refine(Qh hv.vs a h0).mono ?_
  rintro e w' ⟨he,hb⟩
  exact⟨he,hv.below hb⟩)
 have hne:((Z8.ZH m.rows a).err:Int)≠0:=by omega
 have hq0:¬ (q:Int)<0:=by omega
 clear h ho hl hq h0
 generalize hr:Z8.ZH m.rows a=r at*
 clear hr
 go_enter Tryz.func40,Tryz.ntmps40
 go_wp2_with (first|(go_at_call 105;go_must (with_reducible refine Qz.out.mono ?_);rintro e w1 ⟨he,hb⟩;obtain rfl:=he;have PE:=χ (HV.out.below hb);clear hb c0 c1 c2 c3 c4;obtain⟨c0,c1,c2,c3,c4⟩:=PE.out.vs.cells)|(go_at_call 106;go_must (with_reducible refine(Sw.out _ PE.out).mono ?_);rintro e w2 ⟨he,hv⟩;obtain rfl:=he;have XT:=χ hv;clear hv))
 refine qaf (v:=.tuple #[(),r.err]) (by simp[results,Tryz.results40,go_sem]) rfl ?_
 exact⟨rfl,XT.out⟩):P:=h
theorem ztq1{P:Prop}(h:P:=by
 have Qz:Hid (qae Tryz.prog 105 #[.slice x.iA m.ino.length x.ic,.func (.func 91) #[] #[]] w fun e w'=>e=.returned (.int .i64 (-1))/\Below w.heap.size w w'):=χ (by
  have:=XW m.ino ho x.iA m.ino.length x.ic w rfl h.vs.met.lies.ino (by omega)
  rw[hq]at this
  exact this)
 have HV:=χ h
 obtain⟨c0,c1,c2,c3,c4⟩:=h.vs.cells
 clear h ho hl hq
 go_enter Tryz.func40,Tryz.ntmps40
 go_wp2_with ((go_at_call 105;go_must (with_reducible refine Qz.out.mono ?_);rintro e w1 ⟨he,hb⟩;obtain rfl:=he;have PE:=χ (HV.out.below hb);clear hb c0 c1 c2 c3 c4;obtain⟨c0,c1,c2,c3,c4⟩:=PE.out.vs.cells))
 refine qaf (v:=.tuple #[(),.int .i64 5]) (by simp[results,Tryz.results40,go_sem]) rfl ?_
 exact⟨rfl,PE.out⟩):P:=h
theorem ztq2{P:Prop}(h:P:=by
 go_enter Tryz.func44,Tryz.ntmps44
 go_upto_region 2 with(go_at_call 28;go_must (with_reducible refine HI.out.mono ?_);rintro e w1 ⟨he,hv⟩;obtain rfl:=he;have PE:=χ hv;clear hv)
 have XT:=χ (PE.out.below (Z0 w1 (.cells #["","",(),(),(),(),(),(),(),(),(),(),(),()] 40)))
 go_wp2
 go_ret
 exact⟨rfl,XT.out⟩):P:=h
theorem ztq3{P:Prop}(h:P:=by
 refine qaf (v:=.tuple #[q,()]) (by simp[results,Tryz.results40,go_sem]) rfl ?_
 exact⟨rfl,x2,Qo.out⟩):P:=h
theorem ztq4{P:Prop}(h:P:=by
 (intro u hu;(try dsimp only at hu);go_simp<;>with_reducible rfl)):P:=h
end Go.Proofs.YtmehhgfbnfbnaaaGreat
namespace Go.Proofs.YtmehhgfbnfbnaaaGreat.Zl
open Go.RowKit Zq Meta Go.Maps Go.WideShapes
section
variable {e:TypeId}{xs vs:List Value}{w:qag}
theorem AV{g:Nat}:∀(vs:List Value){u:qag}{xs:List Value}(o:Nat),Bk u g e xs->Bk (u.setCells g o vs) g e (Kb xs o vs)
 |[],_,_,_,h=>h
 |v::vs,_,_,o,h=>AV vs (o+1) (h.set o v)
theorem qo(h:vs.length=xs.length):Kb xs 0 vs=vs:=by
 apply List.ext_getElem?
 intro k
 rcases Nat.lt_or_ge k xs.length with hk|hk
 ·rw[BO vs xs 0 k hk,if_pos ⟨Nat.zero_le _,by omega⟩]
  rfl
 ·rw[qal (by rw[Po];exact hk),qal (by omega)]
theorem LX(h:vs.length=xs.length):Bk ((w.alloc (.cells xs.toArray e)).setCells w.heap.size 0 vs) w.heap.size e vs:=by
 have:=AV vs 0 (Bk.new w e xs)
 rwa[qo h]at this
theorem IM(h:vs.length=xs.length):(w.alloc (.cells xs.toArray e)).there w.heap.size 0 vs.toArray.size:=by
 rw[show vs.toArray.size=xs.length by simp[h]]
 exact UD w xs e xs.length rfl
theorem vD(c:Sx):(sx c).length=65:=Qi.len c
theorem zS(c:Sx):(Tryz.prog.info? 163).map (·.size)=some (sx c).toArray.size:=by
 rw[List.size_toArray,vD]
 kernel_rfl
end
end Go.Proofs.YtmehhgfbnfbnaaaGreat.Zl

namespace Go.Proofs.YtmehhgfbnfbnaaaGreat.Zl
open Go.RowKit Zq Meta
section
variable {j i g pp bv bm b bj c n:Nat}{P:Nat->Prop}{w0 w:qag}{x:Meta.Mem}{m:Meta.Met}{be:Value}{A:Option Addr}{dead:Bool}{at_:Int->Sx}{there:Int->Bool}
def abh(o:Option Nat):Int:=match o with|some q=>(q:Int)|none=> -1
theorem PG{l:List Z9.ZC}{q:Nat}{x:Z9.ZC}(hx:l[q]? =some x)(hk:x.k=0)(h0:∀k y,k<q->l[k]? =some y->y.k≠0):Vg l=some q:=by
 unfold Vg
 obtain⟨h1,h2⟩:=qad.1 hx
 rw[List.findIdx?_eq_some_iff_getElem]
 refine⟨h1,by rw[h2];simp[hk],fun k hk2=>?_⟩
 have:=h0 k (l[k]) hk2 (qak _)
 simpa using this
theorem XW(l:List Z9.ZC)(ho:∀m∈l,Z9.YP m)(A:Option Addr)(n c:Nat)(w:qag)(hn:l.length=n)(hr:Rd w w.heap.size A (Y3 l))(hm:n<=1000000):
  qae Tryz.prog 105 #[.slice A n c,.func (.func 91) #[] #[]] w fun e w'=>e=.returned (.int .i64 (abh (Vg l)))/\Below w.heap.size w w':=by
 have Hn:=χ hn
 have Hr:=χ hr
 have HO:=χ ho
 clear ho hn hr
 obtain⟨res,hres⟩:∃res,Vg l=res:=⟨_,rfl⟩
 rw[hres]
 have FE:=χ hres
 clear hres
 go_enter Tryz.func105,Tryz.ntmps105
 go_wp2
 go_loopw [5,8] (fun _ i wr=>∃j:Nat,j<=n/\i=.int .i64 j/\Hid (Below w.heap.size w wr)/\Hid (∀k y,k<j->l[k]? =some y->y.k≠0)) (fun _ i _=>n-(intOf i).toNat)
 case atStart=>exact⟨0,Nat.zero_le _,rfl,χ (Below.refl _ _),χ (fun k y hk=>by omega)⟩
 case round=>
  obtain⟨j,hj,rfl,HB,TH⟩:=hrel
  by_cases hlt:j<n
  ·obtain⟨x,hx⟩:∃x,l[j]? =some x:=⟨_,qak (by rw[Hn.out];exact hlt)⟩
   have hmem:=List.mem_of_getElem? hx
   have hox:=HO.out x hmem
   obtain⟨b,o,hA,hb⟩:=YU Hr.out (by rw[Y8 HO.out,Hn.out];omega)
   subst hA
   have Mw:=χ (Yi (Hr.out.below HB.out) HO.out hx)
   have TW:=χ (Yu x hox)
   have E5:=χ (YO x hox wr)
   have HX:=χ hx
   obtain⟨bb,hbb⟩:∃bb,(x.k==0)=bb:=⟨_,rfl⟩
   rw[hbb]at E5
   have Yt:=χ hbb
   clear hox hmem hx hbb
   generalize hcx:Z9.ZX x=cx at*
   clear hcx
   have V7:(j:Int)<(n:Int):=by omega
   have hj0:(0:Int)<=(j:Int):=by omega
   cases bb
   ·have Ue:Hid (∀k y,k<j+1->l[k]? =some y->y.k≠0):=χ (fun k y hk hy=>by
     rcases Nat.lt_or_ge k j with h|h
     ·exact TH.out k y h hy
     ·obtain rfl:k=j:=by omega
      rw[HX.out]at hy
      cases hy
      have:=Yt.out
      simpa using this)
    go_wp2_with (first|(refine wpList_load_mid rfl 40 (.tmp 14) rfl b (o+j*14) rfl cx _ Mw.out Tryz.underlying40 rfl TW.out ?_)|(go_at_call 91;(with_reducible refine E5.out.mono ?_);rintro e w2 ⟨he,hb⟩;obtain rfl:=he;have HB2:=χ (HB.out.trans (hb.mono HB.out.size));clear hb))
    go_roundw
    case rel=>exact⟨j+1,by omega,by go_num,HB2,Ue⟩
    case measure=>simp[intOf];omega
   ·go_wp2_with (first|(refine wpList_load_mid rfl 40 (.tmp 14) rfl b (o+j*14) rfl cx _ Mw.out Tryz.underlying40 rfl TW.out ?_)|(go_at_call 91;(with_reducible refine E5.out.mono ?_);rintro e w2 ⟨he,hb⟩;obtain rfl:=he;have HB2:=χ (HB.out.trans (hb.mono HB.out.size));clear hb))
    go_ret
    have:res=some j:=by rw[<-FE.out];exact PG HX.out (by simpa using Yt.out) TH.out
    subst this
    exact⟨rfl,HB2.out⟩
  ·obtain rfl:j=n:=by omega
   go_wp2
   go_ret
   have:res=none:=by
    rw[<-FE.out]
    unfold Vg
    rw[List.findIdx?_eq_none_iff]
    intro y hy
    obtain⟨k,hk⟩:=List.mem_iff_getElem?.1 hy
    have:=TH.out k y (by have:=(qad.1 hk).1;rw[Hn.out]at this;exact this) hk
    simpa using this
   subst this
   exact⟨rfl,HB.out⟩
theorem xu(h:VM P w0 w bv bm x m (ZZ j i g pp b bj be A c dead) at_ there n)(kd a:Nat)(h1:kd≠1)(h2:kd≠2):
  qae Tryz.prog 40 #[.pointer bv,.int .u8 kd,.int .u16 a] w fun e w'=>e=.returned (.tuple #[(),.int .i64 1])/\VM P w0 w' bv bm x m (ZZ j i g pp b bj be A c dead) at_ there n:=by
 have e1:((kd:Int) != 1)=true:=by simp;omega
 have e2:((kd:Int) != 2)=true:=by simp;omega
 have e3:¬ (kd:Int)=1:=by omega
 have e4:¬ (kd:Int)=2:=by omega
 have HV:=χ h
 clear h h1 h2
 go_enter Tryz.func40,Tryz.ntmps40
 go_wp2
 refine qaf (v:=.tuple #[(),.int .i64 1]) (by simp[results,Tryz.results40,go_sem]) rfl ?_
 exact⟨rfl,HV.out⟩
theorem CS(h:VM P w0 w bv bm x m (ZZ j i g pp b bj be A c dead) at_ there n)(a:Nat)(ho:∀y∈m.ino,Z9.YP y)(hl:m.ino.length<=64)(hq:Vg m.ino=none):
  qae Tryz.prog 40 #[.pointer bv,.int .u8 1,.int .u16 a] w fun e w'=>e=.returned (.tuple #[(),.int .i64 5])/\VM P w0 w' bv bm x m (ZZ j i g pp b bj be A c dead) at_ there n:=by
 exact ztq1
theorem xq(h:VM P w0 w bv bm x m (ZZ j i g pp b bj be A c dead) at_ there n)(a:Nat)(ho:∀y∈m.ino,Z9.YP y)(hl:m.ino.length<=64)(q:Nat)(hq:Vg m.ino=some q)(h0:(Z8.ZH m.rows a).err≠0):
  qae Tryz.prog 40 #[.pointer bv,.int .u8 1,.int .u16 a] w fun e w'=>e=.returned (.tuple #[(),.int .i64 ((Z8.ZH m.rows a).err:Int)])/\VM P w0 w' bv bm x m (ZZ j i g pp b bj be A c dead) at_ there n:=by
 exact ztq0
theorem qa(h:VM P w0 w bv bm x m (ZZ j i g pp b bj be A c dead) at_ there n)(a:Nat)(ho:∀y∈m.ino,Z9.YP y)(hl:m.ino.length<=64)(q:Nat)(hq:Vg m.ino=some q)(h0:(Z8.ZH m.rows a).err=0)(hat:(Z8.ZH m.rows a).at_<16):
  qae Tryz.prog 40 #[.pointer bv,.int .u8 1,.int .u16 a] w fun e w'=>e=.returned (.tuple #[q,()])/\∃x',VM P w0 w' bv bm x' {m with rows:=(Z8.ZH m.rows a).rows,ino:=m.ino.set q (IP 1 (Z8.ZH m.rows a).at_)} (ZZ j i g pp b bj be A c dead) at_ there n:=by
 have Qz:Hid (qae Tryz.prog 105 #[.slice x.iA m.ino.length x.ic,.func (.func 91) #[] #[]] w fun e w'=>e=.returned (.int .i64 ((q:Int)))/\Below w.heap.size w w'):=χ (by
  have:=XW m.ino ho x.iA m.ino.length x.ic w rfl h.vs.met.lies.ino (by omega)
  rw[hq]at this
  exact this)
 have HV:=χ h
 obtain⟨c0,c1,c2,c3,c4⟩:=h.vs.cells
 have Sw:Hid (∀u:qag,VM P w0 u bv bm x m (ZZ j i g pp b bj be A c dead) at_ there n->qae Tryz.prog 106 #[.pointer bv,.int .u16 a] u fun e w'=>e=.returned (.tuple #[.int .i64 ((Z8.ZH m.rows a).at_:Int),()])/\∃x',x'.iA=x.iA/\x'.ic=x.ic/\VM P w0 w' bv bm x' {m with rows:=(Z8.ZH m.rows a).rows} (ZZ j i g pp b bj be A c dead) at_ there n):=χ (fun u hv=>by
  refine(RP hv.vs a h0).mono ?_
  rintro e w' ⟨he,⟨A2,c2,h1⟩,h2⟩
  exact⟨he,{x with rA:=A2,rc:=c2},rfl,rfl,hv.turn h1 h2⟩)
 have hq0:¬ (q:Int)<0:=by omega
 have acI:(0:Int)<=(q:Int):=by omega
 obtain⟨nq,hnq,-,-⟩:=MJ hq
 have Ja:=(qad.1 hnq).1
 have abj:(q:Int)<(m.ino.length:Int):=by omega
 obtain⟨bi,ci,Wo,hci⟩:=Zp h.vs.met.ino (by omega)
 have hA:=(qaj Wo).1
 clear Wo
 have Wz:=χ hA
 generalize hr0:Z8.ZH m.rows a=R at*
 obtain⟨r,hr⟩:∃r:Nat,R.at_=r:=⟨_,rfl⟩
 rw[hr]at hat Sw⊢
 have hw8:IntKind.u8.wrap (r:Int)=(r:Int):=by rw[IntKind.wrap_u8];omega
 have KH:Hid (∀(u:qag)(x':Meta.Mem),x'.iA=some ⟨bi,0,none⟩->VM P w0 u bv bm x' {m with rows:=R.rows} (ZZ j i g pp b bj be A c dead) at_ there n->VM P w0 (u.setCells bi (q*14) [.int .u8 1,.int .u8 r,(),(),(),(),(),(),(),(),(),(),(),()]) bv bm x' {m with rows:=R.rows,ino:=m.ino.set q (IP 1 r)} (ZZ j i g pp b bj be A c dead) at_ there n):=χ (fun u x' hx hu=>by
  have hcell:Z9.ZX (IP 1 r)=[.int .u8 1,.int .u8 r,.int .i64 0,.int .i64 0,.int .i64 0,.int .i64 0,.int .i64 0,.int .i64 0,.int .i64 0,.int .i64 0,.int .i64 0,.int .i64 0,.int .i64 0,.int .i64 0]:=rfl
  rw[<-hcell]
  exact hu.inode ho hx Ja (Uy (by decide) hat).2)
 have L9:Hid (∀(u:qag)(x':Meta.Mem),x'.iA=some ⟨bi,0,none⟩->VM P w0 u bv bm x' {m with rows:=R.rows} (ZZ j i g pp b bj be A c dead) at_ there n->u.there bi (q*14) 14):=χ (fun u x' hx hu=>WU (by have:=hu.vs.met.ino;rw[hx]at this;exact this) Ja)
 have Rq:Hid ((#[.int .u8 1,.int .u8 r,(),(),(),(),(),(),(),(),(),(),(),()]:Array Value).all (·.oneCell')=true):=χ (by kernel_rfl)
 clear h ho hl hq h0 hat hnq Ja hA hci hr0 hr
 go_enter Tryz.func40,Tryz.ntmps40
 go_wp2_with (first|(go_at_call 105;go_must (with_reducible refine Qz.out.mono ?_);rintro e w1 ⟨he,hb⟩;obtain rfl:=he;have PE:=χ (HV.out.below hb);clear hb c0 c1 c2 c3 c4;obtain⟨c0,c1,c2,c3,c4⟩:=PE.out.vs.cells)|(go_at_call 106;go_must (with_reducible refine(Sw.out _ PE.out).mono ?_);rintro e w2 ⟨he,x2,hx2,hx3,hv⟩;obtain rfl:=he;have XT:=χ hv;have Rj:=χ (hx2.trans Wz.out);clear hv c0 c1 c2 c3 c4;obtain⟨c0,c1,c2,c3,c4⟩:=XT.out.vs.cells;rw[Rj.out]at c3;have HT2:=χ (L9.out _ _ Rj.out XT.out);clear hx2 hx3)|(refine qah rfl 40 (.tmp 50) (.tmp 49) rfl bi (q*14) #[.int .u8 1,.int .u8 r,(),(),(),(),(),(),(),(),(),(),(),()] rfl rfl HT2.out Y9 Rq.out ?_;have Qo:=χ (KH.out _ _ Rj.out XT.out);generalize w2.setCells bi (q*14) [.int .u8 1,.int .u8 r,.int .i64 0,.int .i64 0,.int .i64 0,.int .i64 0,.int .i64 0,.int .i64 0,.int .i64 0,.int .i64 0,.int .i64 0,.int .i64 0,.int .i64 0,.int .i64 0]=w3 at*))
 exact ztq3
theorem CR(h:VM P w0 w bv bm x m (ZZ j i g pp b bj be A c dead) at_ there n)(a:Nat)(ho:∀y∈m.ino,Z9.YP y)(hl:m.ino.length<=64)(hq:Vg m.ino=none):
  qae Tryz.prog 40 #[.pointer bv,.int .u8 2,.int .u16 a] w fun e w'=>e=.returned (.tuple #[(),.int .i64 5])/\VM P w0 w' bv bm x m (ZZ j i g pp b bj be A c dead) at_ there n:=by
 exact ztq1
theorem xm(h:VM P w0 w bv bm x m (ZZ j i g pp b bj be A c dead) at_ there n)(a:Nat)(ho:∀y∈m.ino,Z9.YP y)(hl:m.ino.length<=64)(q:Nat)(hq:Vg m.ino=some q)(h0:(Z8.ZH m.rows a).err≠0):
  qae Tryz.prog 40 #[.pointer bv,.int .u8 2,.int .u16 a] w fun e w'=>e=.returned (.tuple #[(),.int .i64 ((Z8.ZH m.rows a).err:Int)])/\VM P w0 w' bv bm x m (ZZ j i g pp b bj be A c dead) at_ there n:=by
 exact ztq0
theorem pY(h:VM P w0 w bv bm x m (ZZ j i g pp b bj be A c dead) at_ there n)(a:Nat)(ho:∀y∈m.ino,Z9.YP y)(hl:m.ino.length<=64)(q:Nat)(hq:Vg m.ino=some q)(h0:(Z8.ZH m.rows a).err=0)(hat:(Z8.ZH m.rows a).at_<16):
  qae Tryz.prog 40 #[.pointer bv,.int .u8 2,.int .u16 a] w fun e w'=>e=.returned (.tuple #[q,()])/\∃x',VM P w0 w' bv bm x' {m with rows:=(Z8.ZH m.rows a).rows,ino:=m.ino.set q (IP 2 (Z8.ZH m.rows a).at_)} (ZZ j i g pp b bj be A c dead) at_ there n:=by
 have Qz:Hid (qae Tryz.prog 105 #[.slice x.iA m.ino.length x.ic,.func (.func 91) #[] #[]] w fun e w'=>e=.returned (.int .i64 ((q:Int)))/\Below w.heap.size w w'):=χ (by
  have:=XW m.ino ho x.iA m.ino.length x.ic w rfl h.vs.met.lies.ino (by omega)
  rw[hq]at this
  exact this)
 have HV:=χ h
 obtain⟨c0,c1,c2,c3,c4⟩:=h.vs.cells
 have Sw:Hid (∀u:qag,VM P w0 u bv bm x m (ZZ j i g pp b bj be A c dead) at_ there n->qae Tryz.prog 106 #[.pointer bv,.int .u16 a] u fun e w'=>e=.returned (.tuple #[.int .i64 ((Z8.ZH m.rows a).at_:Int),()])/\∃x',x'.iA=x.iA/\x'.ic=x.ic/\VM P w0 w' bv bm x' {m with rows:=(Z8.ZH m.rows a).rows} (ZZ j i g pp b bj be A c dead) at_ there n):=χ (fun u hv=>by
  refine(RP hv.vs a h0).mono ?_
  rintro e w' ⟨he,⟨A2,c2,h1⟩,h2⟩
  exact⟨he,{x with rA:=A2,rc:=c2},rfl,rfl,hv.turn h1 h2⟩)
 have hq0:¬ (q:Int)<0:=by omega
 have acI:(0:Int)<=(q:Int):=by omega
 obtain⟨nq,hnq,-,-⟩:=MJ hq
 have Ja:=(qad.1 hnq).1
 have abj:(q:Int)<(m.ino.length:Int):=by omega
 obtain⟨bi,ci,Wo,hci⟩:=Zp h.vs.met.ino (by omega)
 have hA:=(qaj Wo).1
 clear Wo
 have Wz:=χ hA
 generalize hr0:Z8.ZH m.rows a=R at*
 obtain⟨r,hr⟩:∃r:Nat,R.at_=r:=⟨_,rfl⟩
 rw[hr]at hat Sw⊢
 have hw8:IntKind.u8.wrap (r:Int)=(r:Int):=by rw[IntKind.wrap_u8];omega
 have KH:Hid (∀(u:qag)(x':Meta.Mem),x'.iA=some ⟨bi,0,none⟩->VM P w0 u bv bm x' {m with rows:=R.rows} (ZZ j i g pp b bj be A c dead) at_ there n->VM P w0 (u.setCells bi (q*14) [.int .u8 2,.int .u8 r,(),(),(),(),(),(),(),(),(),(),(),()]) bv bm x' {m with rows:=R.rows,ino:=m.ino.set q (IP 2 r)} (ZZ j i g pp b bj be A c dead) at_ there n):=χ (fun u x' hx hu=>by
  have hcell:Z9.ZX (IP 2 r)=[.int .u8 2,.int .u8 r,.int .i64 0,.int .i64 0,.int .i64 0,.int .i64 0,.int .i64 0,.int .i64 0,.int .i64 0,.int .i64 0,.int .i64 0,.int .i64 0,.int .i64 0,.int .i64 0]:=rfl
  rw[<-hcell]
  exact hu.inode ho hx Ja (Uy (by decide) hat).2)
 have L9:Hid (∀(u:qag)(x':Meta.Mem),x'.iA=some ⟨bi,0,none⟩->VM P w0 u bv bm x' {m with rows:=R.rows} (ZZ j i g pp b bj be A c dead) at_ there n->u.there bi (q*14) 14):=χ (fun u x' hx hu=>WU (by have:=hu.vs.met.ino;rw[hx]at this;exact this) Ja)
 have Rq:Hid ((#[.int .u8 2,.int .u8 r,(),(),(),(),(),(),(),(),(),(),(),()]:Array Value).all (·.oneCell')=true):=χ (by kernel_rfl)
 clear h ho hl hq h0 hat hnq Ja hA hci hr0 hr
 go_enter Tryz.func40,Tryz.ntmps40
 go_wp2_with (first|(go_at_call 105;go_must (with_reducible refine Qz.out.mono ?_);rintro e w1 ⟨he,hb⟩;obtain rfl:=he;have PE:=χ (HV.out.below hb);clear hb c0 c1 c2 c3 c4;obtain⟨c0,c1,c2,c3,c4⟩:=PE.out.vs.cells)|(go_at_call 106;go_must (with_reducible refine(Sw.out _ PE.out).mono ?_);rintro e w2 ⟨he,x2,hx2,hx3,hv⟩;obtain rfl:=he;have XT:=χ hv;have Rj:=χ (hx2.trans Wz.out);clear hv c0 c1 c2 c3 c4;obtain⟨c0,c1,c2,c3,c4⟩:=XT.out.vs.cells;rw[Rj.out]at c3;have HT2:=χ (L9.out _ _ Rj.out XT.out);clear hx2 hx3)|(refine qah rfl 40 (.tmp 50) (.tmp 49) rfl bi (q*14) #[.int .u8 2,.int .u8 r,(),(),(),(),(),(),(),(),(),(),(),()] rfl rfl HT2.out Y9 Rq.out ?_;have Qo:=χ (KH.out _ _ Rj.out XT.out);generalize w2.setCells bi (q*14) [.int .u8 2,.int .u8 r,.int .i64 0,.int .i64 0,.int .i64 0,.int .i64 0,.int .i64 0,.int .i64 0,.int .i64 0,.int .i64 0,.int .i64 0,.int .i64 0,.int .i64 0,.int .i64 0]=w3 at*))
 exact ztq3
end
end Go.Proofs.YtmehhgfbnfbnaaaGreat.Zl

namespace Go.Proofs.YtmehhgfbnfbnaaaGreat.Zl
open Go.RowKit Zq Meta
section
variable {j i g pp bv bm b bj c n:Nat}{P:Nat->Prop}{w0 w:qag}{x:Meta.Mem}{m:Meta.Met}{be:Value}{A:Option Addr}{dead:Bool}{at_:Int->Sx}{there:Int->Bool}
theorem CP(h:VM P w0 w bv bm x m (ZZ j i g pp b bj be A c dead) at_ there n)(a:Int)(ha:¬ (0<=a/\a<(m.ino.length:Int))):
  qae Tryz.prog 44 #[.pointer bv,a] w fun e w'=>e=.returned (.int .i64 1)/\VM P w0 w' bv bm x m (ZZ j i g pp b bj be A c dead) at_ there n:=by
 have HI:=χ (xE h a ha)
 clear h ha
 exact ztq2
theorem Fu(h:VM P w0 w bv bm x m (ZZ j i g pp b bj be A c dead) at_ there n)(a:Nat)(nd:Z9.ZC)(ha:m.ino[a]? =some nd)(hk:nd.k=0)(ho:∀y∈m.ino,Z9.YP y)(hl:m.ino.length<=64):
  qae Tryz.prog 44 #[.pointer bv,a] w fun e w'=>e=.returned (.int .i64 2)/\VM P w0 w' bv bm x m (ZZ j i g pp b bj be A c dead) at_ there n:=by
 have HI:=χ (CX h a nd ha hk ho hl)
 clear h ha hk ho hl
 exact ztq2
theorem xg(h:VM P w0 w bv bm x m (ZZ j i g pp b bj be A c dead) at_ there n)(a:Nat)(nd:Z9.ZC)(y:Z8.Rw)(ha:m.ino[a]? =some nd)(hk:nd.k≠0)(hy:m.rows[nd.r]? =some y)(hrl:m.rows.length=16)(ho:∀y∈m.ino,Z9.YP y)(hl:m.ino.length<=64)(hrel:(Z8.YH m.rows (nd.r:Int)).err=0):
  qae Tryz.prog 44 #[.pointer bv,a] w fun e w'=>e=.returned (.int .i64 0)/\∃x',VM P w0 w' bv bm x' {m with rows:=(Z8.YH m.rows (nd.r:Int)).rows,ino:=m.ino.set a .z} (ZZ j i g pp b bj be A c dead) at_ there n:=by
 have HI:=χ (qm h a nd y ha hk hy hrl ho hl)
 have halt:=(qad.1 ha).1
 have hon:=ho nd (List.mem_of_getElem? ha)
 have HRE:Hid (∀u:qag,VM P w0 u bv bm x m (ZZ j i g pp b bj be A c dead) at_ there n->qae Tryz.prog 110 #[.pointer bv,nd.r] u fun e w'=>e=.returned (.tuple #[])/\(∃x',x'.iA=x.iA/\x'.ic=x.ic/\VM P w0 w' bv bm x' {m with rows:=(Z8.YH m.rows (nd.r:Int)).rows} (ZZ j i g pp b bj be A c dead) at_ there n)/\Kept (· =bv) u w'):=χ (fun u hv=>by
  refine(Pq hv.vs (nd.r:Int) hrel).mono ?_
  rintro e w' ⟨he,⟨A2,c2,h1⟩,h2⟩
  exact⟨he,⟨{x with rA:=A2,rc:=c2},rfl,rfl,hv.turn h1 h2⟩,h2⟩)
 obtain⟨bi,ci,Wo,hci⟩:=Zp h.vs.met.ino (by omega)
 have hA:=(qaj Wo).1
 clear Wo
 have Wz:=χ hA
 have hw:IntKind.i64.wrap (nd.r:Int)=(nd.r:Int):=by rw[IntKind.wrap_i64];have:=hon.r;omega
 have ha0:(0:Int)<=(a:Int):=by omega
 have ha1:(a:Int)<(m.ino.length:Int):=by omega
 have KH:Hid (∀(u:qag)(x':Meta.Mem),x'.iA=some ⟨bi,0,none⟩->VM P w0 u bv bm x' {m with rows:=(Z8.YH m.rows (nd.r:Int)).rows} (ZZ j i g pp b bj be A c dead) at_ there n->VM P w0 (u.setCells bi (a*14) ["","",(),(),(),(),(),(),(),(),(),(),(),()]) bv bm x' {m with rows:=(Z8.YH m.rows (nd.r:Int)).rows,ino:=m.ino.set a .z} (ZZ j i g pp b bj be A c dead) at_ there n):=χ (fun u x' hx hu=>by
  have hcell:Z9.ZX .z=[.int .u8 0,.int .u8 0,.int .i64 0,.int .i64 0,.int .i64 0,.int .i64 0,.int .i64 0,.int .i64 0,.int .i64 0,.int .i64 0,.int .i64 0,.int .i64 0,.int .i64 0,.int .i64 0]:=rfl
  rw[<-hcell]
  exact hu.inode ho hx halt Z9.YP.z)
 have L9:Hid (∀(u:qag)(x':Meta.Mem),x'.iA=some ⟨bi,0,none⟩->VM P w0 u bv bm x' {m with rows:=(Z8.YH m.rows (nd.r:Int)).rows} (ZZ j i g pp b bj be A c dead) at_ there n->u.there bi (a*14) 14):=χ (fun u x' hx hu=>WU (by have:=hu.vs.met.ino;rw[hx]at this;exact this) halt)
 have Rq:Hid ((#["","",(),(),(),(),(),(),(),(),(),(),(),()]:Array Value).all (·.oneCell')=true):=χ (by kernel_rfl)
 have TW:=χ (Yu nd hon)
 have HL:Hid ((Z9.ZX nd).length=14):=χ (Z9.Y5 hon)
 have H1:Hid (∀v∈Z9.ZX nd,v.oneCell'=true):=χ (Yj nd)
 have VF:Hid ((Z9.ZX nd)[1]? =some (.int .u8 nd.r)):=χ rfl
 clear h ha hk hy hrl ho hl hrel halt hon hA hci
 generalize Z9.ZX nd=cx at*
 generalize hrr:Z8.YH m.rows (nd.r:Int)=R at*
 clear hrr
 generalize nd.r=r at*
 go_enter Tryz.func44,Tryz.ntmps44
 go_upto_region 2 with(first|(go_at_call 28;go_must (with_reducible refine HI.out.mono ?_);rintro e w1 ⟨he,hv⟩;obtain rfl:=he;have PE:=χ hv;clear hv)|(refine qah rfl 40 (.tmp 5) (.tmp 12) rfl w1.heap.size 0 cx.toArray rfl rfl (TF w1 (xs:=["","",(),(),(),(),(),(),(),(),(),(),(),()]) rfl HL.out) TW.out (all_oneCell_toArray H1.out) ?_;have HB3:=χ (Meta.below_setCells (Nat.le_refl _) cx.toArray.toList 0 (Z0 w1 (.cells #["","",(),(),(),(),(),(),(),(),(),(),(),()] 40)));have XT:=χ (PE.out.below HB3.out);have V9:=χ (Oj (w:=w1) (e:=40) (xs:=["","",(),(),(),(),(),(),(),(),(),(),(),()]) cx rfl HL.out);have jD:=χ (Nat.ne_of_gt PE.out.vs.box.lt);generalize ((w1.alloc (.cells #["","",(),(),(),(),(),(),(),(),(),(),(),()] 40)).setCells w1.heap.size 0 cx.toArray.toList)=w2 at*))
 go_upto_region 4 with fail
 have Uv:=χ (XT.out.below (Below.refl _ w2).drew)
 have q1:=V9.out.cell 1
 rw[VF.out]at q1
 have hS0:w2.drew.cell? ⟨w1.heap.size,1,none⟩=some (.int .u8 r):=q1
 have Dx:Hid (Bk w2.drew w1.heap.size 40 cx):=χ V9.out
 refine wp_region_held_drew (S:=fun u=>u.cell? ⟨w1.heap.size,1,none⟩=some (.int .u8 r)) (by kernel_rfl) hS0 (fun hHeld=>?_)
 clear hS0 q1 XT V9
 generalize hu0:w2.drew=IX at*
 clear hu0
 refine tk 0 ?_ (y:=.inl ⟨by rfl,?hya0⟩) (s:=by exact hHeld) (h:=?V6)
 case hya0=>exact ztq4
 try simp only[qai,qaa,qab,qac]
 refine tk 1 ?_ (y:=.inl ⟨by rfl,?hya1⟩) (s:=by exact hHeld) (h:=?V5)
 case hya1=>exact ztq4
 try simp only[qai,qaa,qab,qac]
 refine tk 2 ?_ (y:=.inl ⟨by rfl,?hya2⟩) (s:=by exact hHeld) (h:=?V4)
 case hya2=>exact ztq4
 try simp only[qai,qaa,qab,qac]
 refine tk 3 ?_ (y:=.inl ⟨by rfl,?hya3⟩) (s:=by exact hHeld) (h:=?TD)
 case hya3=>exact ztq4
 try simp only[qai,qaa,qab,qac]
 refine tk 4 ?_ (y:=.inl ⟨by rfl,?hya4⟩) (s:=by exact hHeld) (h:=?TN)
 case hya4=>exact ztq4
 try simp only[qai,qaa,qab,qac]
 refine tk 5 ?_ (y:=.inl ⟨by rfl,?hya5⟩) (s:=by exact hHeld) (h:=?Vi)
 case hya5=>exact ztq4
 try simp only[qai,qaa,qab,qac]
 refine rd 6 (h:=fun K hK=>?_)
 go_simp
 (with_reducible refine(HRE.out _ Uv.out).mono ?_)
 rintro e w3 ⟨he,⟨x2,hx2,hx3,hv⟩,hk⟩;obtain rfl:=he
 have hS:w3.cell? ⟨w1.heap.size,1,none⟩=some (.int .u8 r):=(qag.cell?_of_block (a:=⟨w1.heap.size,1,none⟩) (hk.block _ Dx.out.lt jD.out)).trans hHeld
 have dB:=χ hv
 have Rj:=χ (hx2.trans Wz.out)
 clear hv hx2 hx3 hk
 go_simp
 refine hK.out _ _ hS (fun Z5=>?_)
 clear hK K hHeld hS Z5
 try simp only[qai,qaa,qab,qac]
 refine wpAnyH_done (by kernel_rfl) ?_ _
 obtain⟨c0,c1,c2,c3,c4⟩:=dB.out.vs.cells
 rw[Rj.out]at c3
 have HT2:=χ (L9.out _ _ Rj.out dB.out)
 clear c0 c1 c2 c4
 go_wp2_with (refine qah rfl 40 (.tmp 33) (.tmp 32) rfl bi (a*14) #["","",(),(),(),(),(),(),(),(),(),(),(),()] rfl rfl HT2.out Y9 Rq.out ?_;have Qo:=χ (KH.out _ _ Rj.out dB.out);generalize w3.setCells bi (a*14) [.int .u8 0,.int .u8 0,.int .i64 0,.int .i64 0,.int .i64 0,.int .i64 0,.int .i64 0,.int .i64 0,.int .i64 0,.int .i64 0,.int .i64 0,.int .i64 0,.int .i64 0,.int .i64 0]=w4 at*)
 go_ret
 exact⟨rfl,x2,Qo.out⟩
end
end Go.Proofs.YtmehhgfbnfbnaaaGreat.Zl
