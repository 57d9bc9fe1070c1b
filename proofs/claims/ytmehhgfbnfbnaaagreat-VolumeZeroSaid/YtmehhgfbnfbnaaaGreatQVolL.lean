import Derived.Test.YtmehhgfbnfbnaaaGreatQVolK
import Derived.Test.YtmehhgfbnfbnaaaGreatQVolN
import Derived.Test.YtmehhgfbnfbnaaaGreatQTk
import Derived.Test.YtmehhgfbnfbnaaaGreatQVolJ
set_option maxRecDepth 100000
set_option maxHeartbeats 25600000
open List renaming setIfInBounds_toArray->qaa,set_cons_zero->qab,set_cons_succ->qac,getElem?_eq_some_iff->qag,getElem?_eq_getElem->qaj,findIdx?_eq_none_iff->qaw,mem_iff_getElem?->qax
open Go.Act renaming put->qad
open Go.IntKind renaming wrap_i64->qae,i64->qai
open Go renaming bodyPost_ret->qaf,Calls->qan,wpList_store_mid->qaq,World->qar
open Int renaming natCast_mul->qah
open Nat renaming zero_le->qak,lt_or_ge->qao,le_trans->qap,zero_add->qas,mul_lt_mul_of_pos_right->qav
open Go.Value.slice renaming inj->qal
open Go.RowKit renaming Hid->qam
open Go.RowKit.Below renaming refl->qat
open Option.some renaming inj->qau
namespace Go.Proofs.YtmehhgfbnfbnaaaGreat.Y7
open Go.RowKit Zc Meta
def ae(pp:Nat)(m:Meta.Met)(r k:Nat)(Zt:Bool):Prop:=Zt=true->∀k',k'<k->m.own[k'/pp]? =some ((r:Int)+1)->Bits.hb m.used k'=true
theorem IJ{j i g pp:Nat}{P:Nat->Prop}{w0 w:qar}{bw:Nat}{y:Rm}{s:PS}(h:RM j i g pp P w0 w bw y s)(hp:XF j i g pp s)(a:Nat):
  qan Tryz.prog 84 #[.pointer bw,.int .u16 a] w fun e w'=>e=.returned (.tuple #[.int .i64 ((ZC pp s a).2.1:Int),.int .i64 ((ZC pp s a).2.2:Int)])/\∃y',RM j i g pp P w0 w' bw y' (ZC pp s a).1:=by
 have WV:=hp.ord.gp
 have QN:=hp.ord.IP
 have UC:g<=64:=by have:=hp.ord.right.Yr.g2;simp only at this;omega
 have hN:s.B.length=g*pp:=hp.bl
 have hrl:=hp.ord.rl
 have hol:=hp.ord.ol
 have hg1:1<=g:=by have:=hp.ord.right.Yr.g1;simp only at this;omega
 have gq:qam (qan Tryz.prog 160 #[.slice y.x.rA 16 y.x.rc,.int .u16 a] w fun e w'=>e=.returned (.tuple #[.int .i64 (((Z8.Vi s.m.rows a).getD 0:Nat):Int),.bool (Z8.Vi s.m.rows a).isSome])/\∃q,w'=w.drewN q):=χ (by
  have:=Z8.TW s.m.rows y.x.rA 16 y.x.rc a w.heap.size w hrl h.rv.met.lies.rows (by decide)
  rw[Z8.V8 hp.ord.right.rows]at this
  exact this)
 have HHS:qam (∀(u:qar)(k:Nat),RM j i g pp P w0 u bw y s->k<512->qan Tryz.prog 161 #[.slice y.x.uA 64 y.x.uc,k] u fun e w'=>e=.returned (.bool (Bits.hb s.m.used k))/\w'=u):=χ (fun u k hu hk=>by
  have hr:=hu.rv.met.lies.used
  have:=Bits.Yb s.m.used y.x.uA 64 y.x.uc u.heap.size (k:Int) u hp.ord.ul hr (by decide)
  rw[Bits.YA]at this
  refine this.mono ?_
  rintro e w' ⟨he,hw⟩
  exact⟨he,hw.symm⟩)
 obtain⟨go,co,iI,hco⟩:=Zv h.rv.met.own (by omega)
 have hO:=(qal iI).1
 clear iI hco
 have Br:=χ hO
 have tC:qam (∀u:qar,RM j i g pp P w0 u bw y s->u.cell? ⟨bw,3,none⟩=some (.int .i64 pp)/\u.cell? ⟨bw,2,none⟩=some (.int .i64 g)/\u.cell? ⟨bw,4,none⟩=some (.slice y.x.rA 16 y.x.rc)/\u.cell? ⟨bw,5,none⟩=some (.slice go g y.x.oc)/\u.cell? ⟨bw,6,none⟩=some (.slice y.x.uA 64 y.x.uc)/\u.cell? ⟨bw,8,none⟩=some (.slice y.bA (g*pp) y.bc)):=χ (fun u hu=>by
  obtain⟨g0,g1,g2,g3⟩:=hu.rv.Yr
  obtain⟨c4,c5,c6,c7,c8,c9⟩:=hu.rv.cells
  rw[hO,hol]at c5
  rw[hrl]at c4
  rw[hp.ord.ul]at c6
  rw[hN]at c8
  exact⟨g3,g2,c4,c5,c6,c8⟩)
 have I6:qam (∀(u:qar)(q:Nat)(o:Int),RM j i g pp P w0 u bw y s->s.m.own[q]? =some o->u.cell? ⟨go,q,none⟩=some (.int .i64 o)):=χ (fun u q o hu hq=>by
  have hlo:=hu.rv.met.lies.own
  rw[hO]at hlo
  have:=Yy hlo hq
  rwa[qas]at this)
 have HV:=χ h
 have HP:=χ hp
 obtain⟨fo,hfo⟩:∃fo,Z8.Vi s.m.rows a=fo:=⟨_,rfl⟩
 have iH:(fo.getD 0:Nat)<16:=by
  rw[<-hfo]
  cases hfx:Z8.Vi s.m.rows a with
  |none=>decide
  |some r=>
   obtain⟨y0,h1,-⟩:=Z8.WR hfx
   have:=(qag.1 h1).1
   rw[hrl]at this
   exact this
 rw[hfo]at gq
 have l8:=χ hfo
 obtain⟨wE,hrw⟩:∃wE:Nat,fo.getD 0=wE:=⟨_,rfl⟩
 obtain⟨Zt,his⟩:∃Zt:Bool,fo.isSome=Zt:=⟨_,rfl⟩
 rw[hrw]at gq iH
 rw[his]at gq
 have HIS:qam (if Zt=true then Z8.Vi s.m.rows a=some wE else Z8.Vi s.m.rows a=none):=χ (by
  rw[hfo,<-his,<-hrw]
  cases fo with
  |none=>rfl
  |some r=>rfl)
 have hwr:qai.wrap ((wE:Int)+1)=(wE:Int)+1:=by rw[qae];omega
 have Bq:qam (g*pp<=512):=χ WV
 have Ah:=χ UC
 have aa:=χ QN
 have tu:=χ hol
 have hp0:¬ (pp:Int)=0:=by omega
 obtain⟨c3,c2,c4,c5,c6,c8⟩:=tC.out _ h
 clear h hp WV QN UC hN hrl hol hg1 hO hfo iH hrw his l8 c2 c3 c5 c6 c8
 generalize hnn:g*pp=N at*
 have rZ:=χ hnn
 clear hnn
 go_enter Tryz.func84,Tryz.ntmps84
 go_wp2_with (go_at_call 160;go_must (with_reducible refine gq.out.mono ?_);rintro e w1 ⟨he,qd,hb⟩;obtain rfl:=he;subst hb;have Ub:=χ (HV.out.below (below_drewN (qat _ w) qd));clear c4;generalize w.drewN qd=w1 at*;obtain⟨c3,c2,c4,c5,c6,c8⟩:=tC.out _ Ub.out)
 clear c2 c3 c4 c5 c6 c8
 go_loopw [8] (fun kc wr=>∃k:Nat,kc=.int .i64 k/\k<=N/\qam (RM j i g pp P w0 wr bw y s)/\qam (ae pp s.m wE k Zt)) (fun kc _=>N-(intOf kc).toNat)
 case atStart=>exact⟨0,rfl,qak _,Ub,χ (fun _ k' hk=>by omega)⟩
 case round=>
  obtain⟨k,rfl,hk,TI,UJ⟩:=hrel
  obtain⟨c3,c2,c4,c5,c6,c8⟩:=tC.out _ TI.out
  by_cases hlt:k<N
  ·cases Zt with
   |true=>
    have hqg:k/pp<g:=(Nat.div_lt_iff_lt_mul aa.out).2 (by rw[rZ.out];exact hlt)
    obtain⟨o,ho⟩:∃o,s.m.own[k/pp]? =some o:=⟨_,qaj (by rw[tu.out];exact hqg)⟩
    have co:=I6.out _ _ _ TI.out ho
    have HO:=χ ho
    obtain⟨q,hq⟩:∃q,k/pp=q:=⟨_,rfl⟩
    have HQ:=χ hq
    have h00:(0:Int)<=(k:Int):=by omega
    have wX:(k:Int)/(pp:Int)=(q:Int):=by rw[<-hq];exact(Int.natCast_ediv k pp).symm
    have htd:Int.tdiv (k:Int) (pp:Int)=(q:Int):=by rw[Int.tdiv_eq_ediv_of_nonneg h00];exact wX
    have hwq:qai.wrap (q:Int)=(q:Int):=by rw[qae];have:=Ah.out;omega
    rw[hq]at hqg co
    have hq0:(0:Int)<=(q:Int):=by omega
    have hq1:(q:Int)<(g:Int):=by omega
    have Wz:(k:Int)<(N:Int):=by omega
    have aaY:(k:Int)<(g:Int)*(pp:Int):=by have:=rZ.out;rw[<-qah];omega
    have hwk:qai.wrap ((k:Int)+1)=((k+1:Nat):Int):=by rw[qae];have:=Bq.out;omega
    clear ho hq
    by_cases hor:o=(wE:Int)+1
    ·subst hor
     have HHK:qam (∀n:Nat,qan Tryz.prog 161 #[.slice y.x.uA 64 y.x.uc,k] (wr.drewN n) fun e w'=>e=.returned (.bool (Bits.hb s.m.used k))/\w'=wr.drewN n):=χ (fun n=>HHS.out _ k (TI.out.below (below_drewN (qat _ wr) n)) (by have:=Bq.out;omega))
     obtain⟨hbk,hhb⟩:∃hbk,Bits.hb s.m.used k=hbk:=⟨_,rfl⟩
     rw[hhb]at HHK
     have HHB:=χ hhb
     clear hhb
     go_upto_region 5 with fail
     go_quiet ((go_at_call 161;exact qan.quiet_of_same (HHK.out _)))
     have X7:=χ (TI.out.below (below_drewN (qat _ wr) nq))
     generalize wr.drewN nq=w2 at*
     clear c3 c2 c4 c5 c6 c8 co
     cases hbk with
     |true=>
      have Vj:qam (ae pp s.m wE (k+1) true):=χ (fun _ k' hk' he=>by
       rcases qao k' k with h|h
       ·exact UJ.out rfl k' h he
       ·obtain rfl:k'=k:=by omega
        exact HHB.out)
      go_wp2
      go_roundw
      case rel=>exact⟨k+1,by first|rfl|(congr 1),hlt,X7,Vj⟩
      case measure=>simp[intOf];omega
     |false=>
      have OI:=χ (RV X7.out HP.out.ord.ul k (by have:=Bq.out;omega) true)
      have wz:qam (ZC pp s a=({s with m:=YO s.m k},k,0)):=χ (by
       unfold ZC
       rw[FT HP.out.ord HIS.out (by rw[rZ.out];exact hlt) HO.out HHB.out (UJ.out rfl)])
      go_wp2_with (go_at_call 162;go_must (with_reducible refine OI.out.mono ?_);rintro e w3 ⟨he,A2,c2,hv⟩;obtain rfl:=he;have P5:=χ hv;clear hv)
      refine qaf (v:=.tuple #[k,()]) (by simp[results,Tryz.results84,go_sem]) rfl ?_
      rw[wz.out]
      exact⟨rfl,_,P5.out⟩
    ·have lZ:(o==(wE:Int)+1)=false:=by simp;exact hor
     have Vj:qam (ae pp s.m wE (k+1) true):=χ (fun _ k' hk' he=>by
      rcases qao k' k with h|h
      ·exact UJ.out rfl k' h he
      ·obtain rfl:k'=k:=by omega
       rw[HO.out]at he
       exact absurd (qau he) hor)
     go_upto_region 5 with fail
     go_quiet (fail)
     have X7:=χ (TI.out.below (below_drewN (qat _ wr) nq))
     generalize wr.drewN nq=w2 at*
     clear c3 c2 c4 c5 c6 c8 co
     go_wp2
     go_roundw
     case rel=>exact⟨k+1,by first|rfl|(congr 1),hlt,X7,Vj⟩
     case measure=>simp[intOf];omega
   |false=>
    have Wz:(k:Int)<(N:Int):=by omega
    have QO:qam (RS pp s.m a=none):=χ (OH HP.out.ord HIS.out)
    go_wp2
    clear c3 c2 c4 c5 c6 c8
    go_loopw [9] (fun kc wr=>∃n:Nat,kc=.int .i64 n/\n<=g/\qam (RM j i g pp P w0 wr bw y s)/\qam (∀n',n'<n->s.m.own[n']?≠some 0)) (fun kc _=>g-(intOf kc).toNat)
    case atStart=>exact⟨0,rfl,qak _,TI,χ (fun n' hn'=>by omega)⟩
    case round=>
     clear TI
     obtain⟨n,rfl,hn,TI,mX⟩:=hrel
     obtain⟨c3,c2,c4,c5,c6,c8⟩:=tC.out _ TI.out
     by_cases mW:n<g
     ·obtain⟨o,ho⟩:∃o,s.m.own[n]? =some o:=⟨_,qaj (by rw[tu.out];exact mW)⟩
      have co:=I6.out _ _ _ TI.out ho
      have hn0:(0:Int)<=(n:Int):=by omega
      have hn1:(n:Int)<(g:Int):=by omega
      have hwn:qai.wrap ((n:Int)+1)=((n+1:Nat):Int):=by rw[qae];have:=Ah.out;omega
      by_cases ho0:o=0
      ·subst ho0
       have SK:qam (Vx s.m.own=some n):=χ (RD ho mX.out)
       have Ua:qam (∃R,Z8.ZH s.m.rows a=R/\qan Tryz.prog 163 #[.slice y.x.rA 16 y.x.rc,.int .u16 a] wr fun e w'=>∃v,e=.returned (.tuple #[v,.int .i64 R.at_,.int .i64 R.err])/\Z8.Given wr w' v R.rows):=χ ⟨_,rfl,by
        have hr:=TI.out.rv.met.lies.rows
        exact Z8.Sv s.m.rows y.x.rA 16 y.x.rc a wr HP.out.ord.rl hr⟩
       obtain⟨R,hR,hrt⟩:=Ua.out
       have HR:=χ hR
       have mV:=χ hrt
       clear hR hrt Ua ho
       have hnp:n*pp<N:=by rw[<-rZ.out];exact qav mW aa.out
       have wW:n*pp<512:=by have:=Bq.out;omega
       have mU:(n:Int)*(pp:Int)<512:=by rw[<-qah];omega
       have mR:0<=(n:Int)*(pp:Int):=by rw[<-qah];omega
       have aaa:qai.wrap ((n:Int)*(pp:Int))=(n:Int)*(pp:Int):=by rw[qae];omega
       have HNP:=χ wW
       clear hnp wW mU mR
       go_upto_region 13 with(go_at_call 163;go_must (with_reducible refine mV.out.mono ?_);rintro e w2 ⟨v,he,hm,hb⟩;obtain rfl:=he;obtain⟨A3,d3,hv,hA⟩:=YR hm;subst hv;have X7:=χ (TI.out.below hb);have HM:=χ hm;have MN:qam (At (w0.heap.size<=·) A3):=χ (hA.mono fun _ h=>qap TI.out.kept.size h);clear hm hb hA c3 c2 c4 c5 c6 c8 co)
       obtain⟨er,her⟩:∃er:Nat,R.err=er:=⟨_,rfl⟩
       obtain⟨at2,Xv⟩:∃at2:Nat,R.at_=at2:=⟨_,rfl⟩
       rw[her,Xv]
       by_cases he0:er=0
       ·subst he0
        have RU:at2<16:=by have:=Ug (a:=a) HP.out.ord.right.rows (by rw[HR.out];exact her);rw[HR.out,Xv]at this;exact this
        have gB:qai.wrap ((at2:Int)+1)=(at2:Int)+1:=by rw[qae];omega
        have FR:=χ her
        have HAT:=χ Xv
        clear her Xv RU
        obtain⟨d4,d5,d6,d7,d8,d9⟩:=X7.out.rv.cells
        have fz:=X7.out.rv.box.frozen 4
        clear d5 d6 d7 d8 d9
        go_upto_region 16 with fail
        have P5:qam (RM j i g pp P w0 (w2.setCell ⟨bw,4,none⟩ (.slice A3 R.rows.length d3)) bw {y with x:={y.x with rA:=A3,rc:=d3}} {s with m:={s.m with rows:=R.rows}}):=χ (X7.out.rows (ZI HM.out (qak _)) MN.out)
        clear d4 fz
        generalize w2.setCell ⟨bw,4,none⟩ (.slice A3 R.rows.length d3)=w3 at*
        obtain⟨d4,d5,d6,d7,d8,d9⟩:=P5.out.rv.cells
        simp only at d5
        rw[Br.out,tu.out]at d5
        obtain⟨⟨zo,fZ⟩,hfo⟩:=XN (by have:=P5.out.rv.met.own;simp only at this;rw[Br.out]at this;exact this) n (by rw[tu.out];omega)
        clear d4 d6 d7 d8 d9
        go_upto_region 17 with fail
        have iG:=χ (P5.out.owner Br.out n ((at2:Int)+1))
        clear d5 fZ hfo
        generalize w3.setCell ⟨go,n,none⟩ (.int .i64 ((at2:Int)+1))=w4 at*
        obtain⟨g0,g1,g2,g3⟩:=iG.out.rv.Yr
        clear g0 g1 g2
        have OI:=χ (RV iG.out HP.out.ord.ul (n*pp) HNP.out true)
        rw[qah]at OI
        go_upto_region 18 with(go_at_call 162;go_must (with_reducible refine OI.out.mono ?_);rintro e w5 ⟨he,A5,d5,hv⟩;obtain rfl:=he;have HV5:=χ hv;clear hv)
        clear g3
        obtain⟨g0,g1,g2,g3⟩:=HV5.out.rv.Yr
        clear g0 g1 g2
        go_wp2
        refine qaf (v:=.tuple #[.int .i64 ((n:Int)*(pp:Int)),()]) (by simp[results,Tryz.results84,go_sem]) rfl ?_
        have VB:ZC pp s a=({s with m:=YO (YW s.m a n) (n*pp)},n*pp,0):=by
         unfold ZC
         rw[QO.out,SK.out]
         simp only
         rw[if_pos (by rw[HR.out];exact FR.out)]
        rw[VB]
        obtain⟨y5,h5⟩:∃y5,RM j i g pp P w0 w5 bw y5 _:=⟨_,HV5.out⟩
        refine⟨by rw[qah];rfl,y5,?_⟩
        rw[<-HAT.out]at h5
        unfold YO YW
        rw[HR.out]
        exact h5
       ·have FR:=χ her
        clear her Xv
        have hne:(er:Int)≠0:=by omega
        have hne2:((er:Int) != 0)=true:=by simp;omega
        go_wp2
        refine qaf (v:=.tuple #[(),er]) (by simp[results,Tryz.results84,go_sem]) rfl ?_
        have VB:ZC pp s a=(s,0,er):=by
         unfold ZC
         rw[QO.out,SK.out]
         simp only
         rw[HR.out,FR.out,if_neg he0]
        rw[VB]
        exact⟨rfl,_,X7.out⟩
      ·have lZ:(o==0)=false:=by simp;exact ho0
       have XG:qam (∀n',n'<n+1->s.m.own[n']?≠some 0):=χ (fun n' hn' he=>by
        rcases qao n' n with h|h
        ·exact mX.out n' h he
        ·obtain rfl:n'=n:=by omega
         rw[ho]at he
         exact ho0 (qau he))
       clear ho
       go_wp2
       go_roundw
       case rel=>exact⟨n+1,by first|rfl|(congr 1),mW,TI,XG⟩
       case measure=>simp[intOf];omega
     ·obtain rfl:n=g:=by omega
      have VB:ZC pp s a=(s,0,5):=by
       unfold ZC
       rw[QO.out,RB (by rw[tu.out];exact mX.out)]
      have FQ:=χ VB
      clear VB
      go_wp2
      refine qaf (v:=.tuple #[(),.int .i64 5]) (by simp[results,Tryz.results84,go_sem]) rfl ?_
      rw[FQ.out]
      exact⟨rfl,_,TI.out⟩
  ·obtain rfl:N=k:=by omega
   have QO:qam (RS pp s.m a=none):=χ (by
    cases Zt with
    |true=>exact wV HP.out.ord HIS.out (fun k' hk'=>UJ.out rfl k' (by rw[<-rZ.out];exact hk'))
    |false=>exact OH HP.out.ord HIS.out)
   go_wp2
   clear c3 c2 c4 c5 c6 c8
   go_loopw [9] (fun kc wr=>∃n:Nat,kc=.int .i64 n/\n<=g/\qam (RM j i g pp P w0 wr bw y s)/\qam (∀n',n'<n->s.m.own[n']?≠some 0)) (fun kc _=>g-(intOf kc).toNat)
   case atStart=>exact⟨0,rfl,qak _,TI,χ (fun n' hn'=>by omega)⟩
   case round=>
    clear TI
    obtain⟨n,rfl,hn,TI,mX⟩:=hrel
    obtain⟨c3,c2,c4,c5,c6,c8⟩:=tC.out _ TI.out
    by_cases mW:n<g
    ·obtain⟨o,ho⟩:∃o,s.m.own[n]? =some o:=⟨_,qaj (by rw[tu.out];exact mW)⟩
     have co:=I6.out _ _ _ TI.out ho
     have hn0:(0:Int)<=(n:Int):=by omega
     have hn1:(n:Int)<(g:Int):=by omega
     have hwn:qai.wrap ((n:Int)+1)=((n+1:Nat):Int):=by rw[qae];have:=Ah.out;omega
     by_cases ho0:o=0
     ·subst ho0
      have SK:qam (Vx s.m.own=some n):=χ (RD ho mX.out)
      have Ua:qam (∃R,Z8.ZH s.m.rows a=R/\qan Tryz.prog 163 #[.slice y.x.rA 16 y.x.rc,.int .u16 a] wr fun e w'=>∃v,e=.returned (.tuple #[v,.int .i64 R.at_,.int .i64 R.err])/\Z8.Given wr w' v R.rows):=χ ⟨_,rfl,by
       have hr:=TI.out.rv.met.lies.rows
       exact Z8.Sv s.m.rows y.x.rA 16 y.x.rc a wr HP.out.ord.rl hr⟩
      obtain⟨R,hR,hrt⟩:=Ua.out
      have HR:=χ hR
      have mV:=χ hrt
      clear hR hrt Ua ho
      have hnp:n*pp<N:=by rw[<-rZ.out];exact qav mW aa.out
      have wW:n*pp<512:=by have:=Bq.out;omega
      have mU:(n:Int)*(pp:Int)<512:=by rw[<-qah];omega
      have mR:0<=(n:Int)*(pp:Int):=by rw[<-qah];omega
      have aaa:qai.wrap ((n:Int)*(pp:Int))=(n:Int)*(pp:Int):=by rw[qae];omega
      have HNP:=χ wW
      clear hnp wW mU mR
      go_upto_region 13 with(go_at_call 163;go_must (with_reducible refine mV.out.mono ?_);rintro e w2 ⟨v,he,hm,hb⟩;obtain rfl:=he;obtain⟨A3,d3,hv,hA⟩:=YR hm;subst hv;have X7:=χ (TI.out.below hb);have HM:=χ hm;have MN:qam (At (w0.heap.size<=·) A3):=χ (hA.mono fun _ h=>qap TI.out.kept.size h);clear hm hb hA c3 c2 c4 c5 c6 c8 co)
      obtain⟨er,her⟩:∃er:Nat,R.err=er:=⟨_,rfl⟩
      obtain⟨at2,Xv⟩:∃at2:Nat,R.at_=at2:=⟨_,rfl⟩
      rw[her,Xv]
      by_cases he0:er=0
      ·subst he0
       have RU:at2<16:=by have:=Ug (a:=a) HP.out.ord.right.rows (by rw[HR.out];exact her);rw[HR.out,Xv]at this;exact this
       have gB:qai.wrap ((at2:Int)+1)=(at2:Int)+1:=by rw[qae];omega
       have FR:=χ her
       have HAT:=χ Xv
       clear her Xv RU
       obtain⟨d4,d5,d6,d7,d8,d9⟩:=X7.out.rv.cells
       have fz:=X7.out.rv.box.frozen 4
       clear d5 d6 d7 d8 d9
       go_upto_region 16 with fail
       have P5:qam (RM j i g pp P w0 (w2.setCell ⟨bw,4,none⟩ (.slice A3 R.rows.length d3)) bw {y with x:={y.x with rA:=A3,rc:=d3}} {s with m:={s.m with rows:=R.rows}}):=χ (X7.out.rows (ZI HM.out (qak _)) MN.out)
       clear d4 fz
       generalize w2.setCell ⟨bw,4,none⟩ (.slice A3 R.rows.length d3)=w3 at*
       obtain⟨d4,d5,d6,d7,d8,d9⟩:=P5.out.rv.cells
       simp only at d5
       rw[Br.out,tu.out]at d5
       obtain⟨⟨zo,fZ⟩,hfo⟩:=XN (by have:=P5.out.rv.met.own;simp only at this;rw[Br.out]at this;exact this) n (by rw[tu.out];omega)
       clear d4 d6 d7 d8 d9
       go_upto_region 17 with fail
       have iG:=χ (P5.out.owner Br.out n ((at2:Int)+1))
       clear d5 fZ hfo
       generalize w3.setCell ⟨go,n,none⟩ (.int .i64 ((at2:Int)+1))=w4 at*
       obtain⟨g0,g1,g2,g3⟩:=iG.out.rv.Yr
       clear g0 g1 g2
       have OI:=χ (RV iG.out HP.out.ord.ul (n*pp) HNP.out true)
       rw[qah]at OI
       go_upto_region 18 with(go_at_call 162;go_must (with_reducible refine OI.out.mono ?_);rintro e w5 ⟨he,A5,d5,hv⟩;obtain rfl:=he;have HV5:=χ hv;clear hv)
       clear g3
       obtain⟨g0,g1,g2,g3⟩:=HV5.out.rv.Yr
       clear g0 g1 g2
       go_wp2
       refine qaf (v:=.tuple #[.int .i64 ((n:Int)*(pp:Int)),()]) (by simp[results,Tryz.results84,go_sem]) rfl ?_
       have VB:ZC pp s a=({s with m:=YO (YW s.m a n) (n*pp)},n*pp,0):=by
        unfold ZC
        rw[QO.out,SK.out]
        simp only
        rw[if_pos (by rw[HR.out];exact FR.out)]
       rw[VB]
       obtain⟨y5,h5⟩:∃y5,RM j i g pp P w0 w5 bw y5 _:=⟨_,HV5.out⟩
       refine⟨by rw[qah];rfl,y5,?_⟩
       rw[<-HAT.out]at h5
       unfold YO YW
       rw[HR.out]
       exact h5
      ·have FR:=χ her
       clear her Xv
       have hne:(er:Int)≠0:=by omega
       have hne2:((er:Int) != 0)=true:=by simp;omega
       go_wp2
       refine qaf (v:=.tuple #[(),er]) (by simp[results,Tryz.results84,go_sem]) rfl ?_
       have VB:ZC pp s a=(s,0,er):=by
        unfold ZC
        rw[QO.out,SK.out]
        simp only
        rw[HR.out,FR.out,if_neg he0]
       rw[VB]
       exact⟨rfl,_,X7.out⟩
     ·have lZ:(o==0)=false:=by simp;exact ho0
      have XG:qam (∀n',n'<n+1->s.m.own[n']?≠some 0):=χ (fun n' hn' he=>by
       rcases qao n' n with h|h
       ·exact mX.out n' h he
       ·obtain rfl:n'=n:=by omega
        rw[ho]at he
        exact ho0 (qau he))
      clear ho
      go_wp2
      go_roundw
      case rel=>exact⟨n+1,by first|rfl|(congr 1),mW,TI,XG⟩
      case measure=>simp[intOf];omega
    ·obtain rfl:n=g:=by omega
     have VB:ZC pp s a=(s,0,5):=by
      unfold ZC
      rw[QO.out,RB (by rw[tu.out];exact mX.out)]
     have FQ:=χ VB
     clear VB
     go_wp2
     refine qaf (v:=.tuple #[(),.int .i64 5]) (by simp[results,Tryz.results84,go_sem]) rfl ?_
     rw[FQ.out]
     exact⟨rfl,_,TI.out⟩
end Go.Proofs.YtmehhgfbnfbnaaaGreat.Y7

namespace Go.Proofs.YtmehhgfbnfbnaaaGreat.Y7
open Go.RowKit Zc Meta
section
variable {w w0:qar}{bw j i g pp:Nat}{P:Nat->Prop}{y:Rm}{s:PS}
theorem Iz(kd a:Nat)(h1:kd≠1)(h2:kd≠2):
  qan Tryz.prog 87 #[.pointer bw,.int .u8 kd,.int .u16 a] w fun e w'=>e=.returned (.tuple #[(),.int .i64 1])/\w=w':=by
 have e1:((kd:Int) != 1)=true:=by simp;omega
 have e2:((kd:Int) != 2)=true:=by simp;omega
 have e3:¬ (kd:Int)=1:=by omega
 have e4:¬ (kd:Int)=2:=by omega
 clear h1 h2
 go_enter Tryz.func87,Tryz.ntmps87
 go_wp2
 refine qaf (v:=.tuple #[(),.int .i64 1]) (by simp[results,Tryz.results87,go_sem]) rfl ?_
 exact⟨rfl,rfl⟩
theorem ql(h:RM j i g pp P w0 w bw y s)(hp:XF j i g pp s)(a:Nat):
  qan Tryz.prog 87 #[.pointer bw,.int .u8 1,.int .u16 a] w fun e w'=>e=.returned (.tuple #[.int .i64 ((Y5 s 1 a).2.1:Int),.int .i64 ((Y5 s 1 a).2.2:Int)])/\∃y',RM j i g pp P w0 w' bw y' (Y5 s 1 a).1:=by
 have OO:i<=64:=by have:=hp.ord.right.TA;rw[hp.ord.il]at this;exact this
 have hil:=hp.ord.il
 have hrl:=hp.ord.rl
 have hi1:1<=i:=by have:=hp.ord.right.Yr.i1;simp only at this;omega
 obtain⟨bi,ci,WL,hci⟩:=Zv h.rv.met.ino (by omega)
 have hA:=(qal WL).1
 clear WL hci
 have Oc:=χ hA
 have tC:qam (∀u:qar,RM j i g pp P w0 u bw y s->u.cell? ⟨bw,4,none⟩=some (.slice y.x.rA 16 y.x.rc)/\u.cell? ⟨bw,7,none⟩=some (.slice bi i y.x.ic)):=χ (fun u hu=>by
  obtain⟨c4,c5,c6,c7,c8,c9⟩:=hu.rv.cells
  rw[hA,hil]at c7
  rw[hrl]at c4
  exact⟨c4,c7⟩)
 have HIC:qam (∀(u:qar)(q:Nat)(nd:Z9.Zz),RM j i g pp P w0 u bw y s->s.m.ino[q]? =some nd->u.cell? ⟨bi,q*14,none⟩=some (.int .u8 nd.k)):=χ (fun u q nd hu hq=>by
  have hlo:=hu.rv.met.lies.ino
  rw[hA]at hlo
  have:=Yo hlo hp.ord.UT.ino hq 0 _ (show(Z9.ZX nd)[0]? =some (.int .u8 nd.k)from rfl)
  simpa using this)
 have HV:=χ h
 have HP:=χ hp
 have wS:=χ hil
 have aac:=χ OO
 clear h hp hil hrl hA
 go_enter Tryz.func87,Tryz.ntmps87
 go_wp2
 go_loopw [8] (fun kc wr=>∃k:Nat,kc=.int .i64 k/\k<=i/\qam (RM j i g pp P w0 wr bw y s)/\qam (∀k' n',k'<k->s.m.ino[k']? =some n'->n'.k≠0)) (fun kc _=>i-(intOf kc).toNat)
 case atStart=>exact⟨0,rfl,qak _,HV,χ (fun k' n' hk=>by omega)⟩
 case round=>
  clear HV
  obtain⟨k,rfl,hk,HV,UJ⟩:=hrel
  obtain⟨c4,c7⟩:=tC.out _ HV.out
  by_cases hlt:k<i
  ·obtain⟨nd,hnd⟩:∃nd,s.m.ino[k]? =some nd:=⟨_,qaj (by rw[wS.out];exact hlt)⟩
   have ck:=HIC.out _ _ _ HV.out hnd
   have h00:(0:Int)<=(k:Int):=by omega
   have Wz:(k:Int)<(i:Int):=by omega
   have hwk:qai.wrap ((k:Int)+1)=((k+1:Nat):Int):=by rw[qae];omega
   by_cases hk0:nd.k=0
   ·have SK:qam (V3 s.m.ino=some k):=χ (RG hnd hk0 UJ.out)
    rw[hk0]at ck
    have hek:¬ (k:Int)=(i:Int):=by omega
    have aad:((k:Int)==(i:Int))=false:=by simp;omega
    obtain⟨R,hR,hrt⟩:∃R,Z8.ZH s.m.rows a=R/\qan Tryz.prog 163 #[.slice y.x.rA 16 y.x.rc,.int .u16 a] wr fun e w'=>∃v,e=.returned (.tuple #[v,.int .i64 R.at_,.int .i64 R.err])/\Z8.Given wr w' v R.rows:=⟨_,rfl,by
     have hr:=HV.out.rv.met.lies.rows
     exact Z8.Sv s.m.rows y.x.rA 16 y.x.rc a wr HP.out.ord.rl hr⟩
    have HR:=χ hR
    have mV:=χ hrt
    clear hR hrt hnd hk0
    go_upto_region 9 with(go_at_call 163;go_must (with_reducible refine mV.out.mono ?_);rintro e w2 ⟨v,he,hm,hb⟩;obtain rfl:=he;obtain⟨A3,d3,hv,hA⟩:=YR hm;subst hv;have X7:=χ (HV.out.below hb);have HM:=χ hm;have MN:qam (At (w0.heap.size<=·) A3):=χ (hA.mono fun _ h=>qap HV.out.kept.size h);clear hm hb hA c4 c7 ck)
    obtain⟨er,her⟩:∃er:Nat,R.err=er:=⟨_,rfl⟩
    obtain⟨at2,Xv⟩:∃at2:Nat,R.at_=at2:=⟨_,rfl⟩
    rw[her,Xv]
    by_cases he0:er=0
    ·subst he0
     have RU:at2<16:=by have:=Ug (a:=a) HP.out.ord.right.rows (by rw[HR.out];exact her);rw[HR.out,Xv]at this;exact this
     have hw8:IntKind.u8.wrap (at2:Int)=(at2:Int):=by rw[IntKind.wrap_u8];omega
     have FR:=χ her
     have HAT:=χ Xv
     have mM:qam (Z9.YS (La 1 at2)):=χ (Vt (by decide) RU).2
     clear her Xv RU
     obtain⟨d4,d5,d6,d7,d8,d9⟩:=X7.out.rv.cells
     have fz:=X7.out.rv.box.frozen 4
     clear d5 d6 d7 d8 d9
     go_upto_region 12 with fail
     have P5:qam (RM j i g pp P w0 (w2.setCell ⟨bw,4,none⟩ (.slice A3 R.rows.length d3)) bw {y with x:={y.x with rA:=A3,rc:=d3}} {s with m:={s.m with rows:=R.rows}}):=χ (X7.out.rows (ZI HM.out (qak _)) MN.out)
     clear d4 fz
     generalize w2.setCell ⟨bw,4,none⟩ (.slice A3 R.rows.length d3)=w3 at*
     obtain⟨d4,d5,d6,d7,d8,d9⟩:=P5.out.rv.cells
     simp only at d7
     rw[Oc.out,wS.out]at d7
     have Oz:qam (w3.there bi (k*14) 14):=χ (Xu (by have:=P5.out.rv.met.ino;simp only at this;rw[Oc.out]at this;exact this) (by rw[wS.out];exact hlt))
     have Tm:qam ((#[.int .u8 1,.int .u8 at2,(),(),(),(),(),(),(),(),(),(),(),()]:Array Value).all (·.oneCell')=true):=χ (by kernel_rfl)
     have NW:qam (RM j i g pp P w0 (w3.setCells bi (k*14) [.int .u8 1,.int .u8 at2,(),(),(),(),(),(),(),(),(),(),(),()]) bw {y with x:={y.x with rA:=A3,rc:=d3}} {s with m:={s.m with rows:=R.rows,ino:=s.m.ino.set k (La 1 at2)}}):=χ (by
      have hcell:Z9.ZX (La 1 at2)=[.int .u8 1,.int .u8 at2,.int .i64 0,.int .i64 0,.int .i64 0,.int .i64 0,.int .i64 0,.int .i64 0,.int .i64 0,.int .i64 0,.int .i64 0,.int .i64 0,.int .i64 0,.int .i64 0]:=rfl
      rw[<-hcell]
      exact P5.out.inode HP.out.ord.UT.ino Oc.out (by simp only;rw[wS.out];exact hlt) mM.out)
     clear d4 d5 d6 d8 d9
     go_wp2_with (refine qaq rfl 40 (.tmp 77) (.tmp 76) rfl bi (k*14) #[.int .u8 1,.int .u8 at2,(),(),(),(),(),(),(),(),(),(),(),()] rfl rfl Oz.out Zj Tm.out ?_;generalize w3.setCells bi (k*14) [.int .u8 1,.int .u8 at2,.int .i64 0,.int .i64 0,.int .i64 0,.int .i64 0,.int .i64 0,.int .i64 0,.int .i64 0,.int .i64 0,.int .i64 0,.int .i64 0,.int .i64 0,.int .i64 0]=w4 at*)
     refine qaf (v:=.tuple #[k,()]) (by simp[results,Tryz.results87,go_sem]) rfl ?_
     have VB:Y5 s 1 a=({s with m:={s.m with rows:=(Z8.ZH s.m.rows a).rows,ino:=s.m.ino.set k (La 1 (Z8.ZH s.m.rows a).at_)}},k,0):=by
      unfold Y5
      rw[if_pos (by decide),SK.out]
      simp only
      rw[if_pos (by rw[HR.out];exact FR.out)]
     rw[VB]
     obtain⟨y5,h5⟩:∃y5,RM j i g pp P w0 w4 bw y5 _:=⟨_,NW.out⟩
     refine⟨rfl,y5,?_⟩
     simp only
     rw[HR.out,HAT.out]
     exact h5
    ·have FR:=χ her
     clear her Xv
     have hne:(er:Int)≠0:=by omega
     have hne2:((er:Int) != 0)=true:=by simp;omega
     go_wp2
     refine qaf (v:=.tuple #[(),er]) (by simp[results,Tryz.results87,go_sem]) rfl ?_
     have VB:Y5 s 1 a=(s,0,er):=by
      unfold Y5
      rw[if_pos (by decide),SK.out]
      simp only
      rw[HR.out,FR.out,if_neg he0]
     rw[VB]
     exact⟨rfl,_,X7.out⟩
   ·have e1:((nd.k:Int) != 0)=true:=by simp;omega
    have e2:¬ (nd.k:Int)=0:=by omega
    have Vj:qam (∀k' n',k'<k+1->s.m.ino[k']? =some n'->n'.k≠0):=χ (fun k' n' hk' hn'=>by
     rcases qao k' k with h|h
     ·exact UJ.out k' n' h hn'
     ·obtain rfl:k'=k:=by omega
      rw[hnd]at hn'
      cases hn'
      exact hk0)
    clear hnd hk0
    go_wp2
    go_roundw
    case rel=>exact⟨k+1,by first|rfl|(congr 1),hlt,HV,Vj⟩
    case measure=>simp[intOf];omega
  ·obtain rfl:i=k:=by omega
   have FQ:qam (Y5 s 1 a=(s,0,5)):=χ (by
    unfold Y5
    rw[if_pos (by decide)]
    have:V3 s.m.ino=none:=by
     unfold V3
     rw[qaw]
     intro n hn
     obtain⟨k',hk'⟩:=qax.1 hn
     have:=UJ.out k' n (by have:=(qag.1 hk').1;rw[wS.out]at this;exact this) hk'
     simpa using this
    rw[this])
   go_wp2
   refine qaf (v:=.tuple #[(),.int .i64 5]) (by simp[results,Tryz.results87,go_sem]) rfl ?_
   rw[FQ.out]
   exact⟨rfl,_,HV.out⟩
theorem qj(h:RM j i g pp P w0 w bw y s)(hp:XF j i g pp s)(a:Nat):
  qan Tryz.prog 87 #[.pointer bw,.int .u8 2,.int .u16 a] w fun e w'=>e=.returned (.tuple #[.int .i64 ((Y5 s 2 a).2.1:Int),.int .i64 ((Y5 s 2 a).2.2:Int)])/\∃y',RM j i g pp P w0 w' bw y' (Y5 s 2 a).1:=by
 have OO:i<=64:=by have:=hp.ord.right.TA;rw[hp.ord.il]at this;exact this
 have hil:=hp.ord.il
 have hrl:=hp.ord.rl
 have hi1:1<=i:=by have:=hp.ord.right.Yr.i1;simp only at this;omega
 obtain⟨bi,ci,WL,hci⟩:=Zv h.rv.met.ino (by omega)
 have hA:=(qal WL).1
 clear WL hci
 have Oc:=χ hA
 have tC:qam (∀u:qar,RM j i g pp P w0 u bw y s->u.cell? ⟨bw,4,none⟩=some (.slice y.x.rA 16 y.x.rc)/\u.cell? ⟨bw,7,none⟩=some (.slice bi i y.x.ic)):=χ (fun u hu=>by
  obtain⟨c4,c5,c6,c7,c8,c9⟩:=hu.rv.cells
  rw[hA,hil]at c7
  rw[hrl]at c4
  exact⟨c4,c7⟩)
 have HIC:qam (∀(u:qar)(q:Nat)(nd:Z9.Zz),RM j i g pp P w0 u bw y s->s.m.ino[q]? =some nd->u.cell? ⟨bi,q*14,none⟩=some (.int .u8 nd.k)):=χ (fun u q nd hu hq=>by
  have hlo:=hu.rv.met.lies.ino
  rw[hA]at hlo
  have:=Yo hlo hp.ord.UT.ino hq 0 _ (show(Z9.ZX nd)[0]? =some (.int .u8 nd.k)from rfl)
  simpa using this)
 have HV:=χ h
 have HP:=χ hp
 have wS:=χ hil
 have aac:=χ OO
 clear h hp hil hrl hA
 go_enter Tryz.func87,Tryz.ntmps87
 go_wp2
 go_loopw [8] (fun kc wr=>∃k:Nat,kc=.int .i64 k/\k<=i/\qam (RM j i g pp P w0 wr bw y s)/\qam (∀k' n',k'<k->s.m.ino[k']? =some n'->n'.k≠0)) (fun kc _=>i-(intOf kc).toNat)
 case atStart=>exact⟨0,rfl,qak _,HV,χ (fun k' n' hk=>by omega)⟩
 case round=>
  clear HV
  obtain⟨k,rfl,hk,HV,UJ⟩:=hrel
  obtain⟨c4,c7⟩:=tC.out _ HV.out
  by_cases hlt:k<i
  ·obtain⟨nd,hnd⟩:∃nd,s.m.ino[k]? =some nd:=⟨_,qaj (by rw[wS.out];exact hlt)⟩
   have ck:=HIC.out _ _ _ HV.out hnd
   have h00:(0:Int)<=(k:Int):=by omega
   have Wz:(k:Int)<(i:Int):=by omega
   have hwk:qai.wrap ((k:Int)+1)=((k+1:Nat):Int):=by rw[qae];omega
   by_cases hk0:nd.k=0
   ·have SK:qam (V3 s.m.ino=some k):=χ (RG hnd hk0 UJ.out)
    rw[hk0]at ck
    have hek:¬ (k:Int)=(i:Int):=by omega
    have aad:((k:Int)==(i:Int))=false:=by simp;omega
    obtain⟨R,hR,hrt⟩:∃R,Z8.ZH s.m.rows a=R/\qan Tryz.prog 163 #[.slice y.x.rA 16 y.x.rc,.int .u16 a] wr fun e w'=>∃v,e=.returned (.tuple #[v,.int .i64 R.at_,.int .i64 R.err])/\Z8.Given wr w' v R.rows:=⟨_,rfl,by
     have hr:=HV.out.rv.met.lies.rows
     exact Z8.Sv s.m.rows y.x.rA 16 y.x.rc a wr HP.out.ord.rl hr⟩
    have HR:=χ hR
    have mV:=χ hrt
    clear hR hrt hnd hk0
    go_upto_region 9 with(go_at_call 163;go_must (with_reducible refine mV.out.mono ?_);rintro e w2 ⟨v,he,hm,hb⟩;obtain rfl:=he;obtain⟨A3,d3,hv,hA⟩:=YR hm;subst hv;have X7:=χ (HV.out.below hb);have HM:=χ hm;have MN:qam (At (w0.heap.size<=·) A3):=χ (hA.mono fun _ h=>qap HV.out.kept.size h);clear hm hb hA c4 c7 ck)
    obtain⟨er,her⟩:∃er:Nat,R.err=er:=⟨_,rfl⟩
    obtain⟨at2,Xv⟩:∃at2:Nat,R.at_=at2:=⟨_,rfl⟩
    rw[her,Xv]
    by_cases he0:er=0
    ·subst he0
     have RU:at2<16:=by have:=Ug (a:=a) HP.out.ord.right.rows (by rw[HR.out];exact her);rw[HR.out,Xv]at this;exact this
     have hw8:IntKind.u8.wrap (at2:Int)=(at2:Int):=by rw[IntKind.wrap_u8];omega
     have FR:=χ her
     have HAT:=χ Xv
     have mM:qam (Z9.YS (La 2 at2)):=χ (Vt (by decide) RU).2
     clear her Xv RU
     obtain⟨d4,d5,d6,d7,d8,d9⟩:=X7.out.rv.cells
     have fz:=X7.out.rv.box.frozen 4
     clear d5 d6 d7 d8 d9
     go_upto_region 12 with fail
     have P5:qam (RM j i g pp P w0 (w2.setCell ⟨bw,4,none⟩ (.slice A3 R.rows.length d3)) bw {y with x:={y.x with rA:=A3,rc:=d3}} {s with m:={s.m with rows:=R.rows}}):=χ (X7.out.rows (ZI HM.out (qak _)) MN.out)
     clear d4 fz
     generalize w2.setCell ⟨bw,4,none⟩ (.slice A3 R.rows.length d3)=w3 at*
     obtain⟨d4,d5,d6,d7,d8,d9⟩:=P5.out.rv.cells
     simp only at d7
     rw[Oc.out,wS.out]at d7
     have Oz:qam (w3.there bi (k*14) 14):=χ (Xu (by have:=P5.out.rv.met.ino;simp only at this;rw[Oc.out]at this;exact this) (by rw[wS.out];exact hlt))
     have Tm:qam ((#[.int .u8 2,.int .u8 at2,(),(),(),(),(),(),(),(),(),(),(),()]:Array Value).all (·.oneCell')=true):=χ (by kernel_rfl)
     have NW:qam (RM j i g pp P w0 (w3.setCells bi (k*14) [.int .u8 2,.int .u8 at2,(),(),(),(),(),(),(),(),(),(),(),()]) bw {y with x:={y.x with rA:=A3,rc:=d3}} {s with m:={s.m with rows:=R.rows,ino:=s.m.ino.set k (La 2 at2)}}):=χ (by
      have hcell:Z9.ZX (La 2 at2)=[.int .u8 2,.int .u8 at2,.int .i64 0,.int .i64 0,.int .i64 0,.int .i64 0,.int .i64 0,.int .i64 0,.int .i64 0,.int .i64 0,.int .i64 0,.int .i64 0,.int .i64 0,.int .i64 0]:=rfl
      rw[<-hcell]
      exact P5.out.inode HP.out.ord.UT.ino Oc.out (by simp only;rw[wS.out];exact hlt) mM.out)
     clear d4 d5 d6 d8 d9
     go_wp2_with (refine qaq rfl 40 (.tmp 77) (.tmp 76) rfl bi (k*14) #[.int .u8 2,.int .u8 at2,(),(),(),(),(),(),(),(),(),(),(),()] rfl rfl Oz.out Zj Tm.out ?_;generalize w3.setCells bi (k*14) [.int .u8 2,.int .u8 at2,.int .i64 0,.int .i64 0,.int .i64 0,.int .i64 0,.int .i64 0,.int .i64 0,.int .i64 0,.int .i64 0,.int .i64 0,.int .i64 0,.int .i64 0,.int .i64 0]=w4 at*)
     refine qaf (v:=.tuple #[k,()]) (by simp[results,Tryz.results87,go_sem]) rfl ?_
     have VB:Y5 s 2 a=({s with m:={s.m with rows:=(Z8.ZH s.m.rows a).rows,ino:=s.m.ino.set k (La 2 (Z8.ZH s.m.rows a).at_)}},k,0):=by
      unfold Y5
      rw[if_pos (by decide),SK.out]
      simp only
      rw[if_pos (by rw[HR.out];exact FR.out)]
     rw[VB]
     obtain⟨y5,h5⟩:∃y5,RM j i g pp P w0 w4 bw y5 _:=⟨_,NW.out⟩
     refine⟨rfl,y5,?_⟩
     simp only
     rw[HR.out,HAT.out]
     exact h5
    ·have FR:=χ her
     clear her Xv
     have hne:(er:Int)≠0:=by omega
     have hne2:((er:Int) != 0)=true:=by simp;omega
     go_wp2
     refine qaf (v:=.tuple #[(),er]) (by simp[results,Tryz.results87,go_sem]) rfl ?_
     have VB:Y5 s 2 a=(s,0,er):=by
      unfold Y5
      rw[if_pos (by decide),SK.out]
      simp only
      rw[HR.out,FR.out,if_neg he0]
     rw[VB]
     exact⟨rfl,_,X7.out⟩
   ·have e1:((nd.k:Int) != 0)=true:=by simp;omega
    have e2:¬ (nd.k:Int)=0:=by omega
    have Vj:qam (∀k' n',k'<k+1->s.m.ino[k']? =some n'->n'.k≠0):=χ (fun k' n' hk' hn'=>by
     rcases qao k' k with h|h
     ·exact UJ.out k' n' h hn'
     ·obtain rfl:k'=k:=by omega
      rw[hnd]at hn'
      cases hn'
      exact hk0)
    clear hnd hk0
    go_wp2
    go_roundw
    case rel=>exact⟨k+1,by first|rfl|(congr 1),hlt,HV,Vj⟩
    case measure=>simp[intOf];omega
  ·obtain rfl:i=k:=by omega
   have FQ:qam (Y5 s 2 a=(s,0,5)):=χ (by
    unfold Y5
    rw[if_pos (by decide)]
    have:V3 s.m.ino=none:=by
     unfold V3
     rw[qaw]
     intro n hn
     obtain⟨k',hk'⟩:=qax.1 hn
     have:=UJ.out k' n (by have:=(qag.1 hk').1;rw[wS.out]at this;exact this) hk'
     simpa using this
    rw[this])
   go_wp2
   refine qaf (v:=.tuple #[(),.int .i64 5]) (by simp[results,Tryz.results87,go_sem]) rfl ?_
   rw[FQ.out]
   exact⟨rfl,_,HV.out⟩
end
end Go.Proofs.YtmehhgfbnfbnaaaGreat.Y7

namespace Go.Proofs.YtmehhgfbnfbnaaaGreat.Y7
open Go.RowKit Zc Meta
section
variable {w w0:qar}{bw j i g pp:Nat}{P:Nat->Prop}{y:Rm}{s:PS}
theorem Re(a:Int)(er:Nat)(hh:qan Tryz.prog 92 #[.pointer bw,a] w fun e w'=>e=.returned (.int .i64 er)/\w=w')(h0:er≠0):
  qan Tryz.prog 88 #[.pointer bw,a] w fun e w'=>e=.returned (.int .i64 er)/\w=w':=by
 have HH:=χ hh
 have e1:((er:Int) != 0)=true:=by simp;omega
 have e2:¬ (er:Int)=0:=by omega
 clear hh h0
 go_enter Tryz.func88,Tryz.ntmps88
 go_wp2_with (go_at_call 92;go_must (with_reducible refine HH.out.mono ?_);rintro e w1 ⟨he,hb⟩;obtain rfl:=he;subst hb)
 go_ret
 exact⟨rfl,rfl⟩
theorem Iy(h:RM j i g pp P w0 w bw y s)(hp:XF j i g pp s)(a:Nat)(nd:Z9.Zz)(ha:s.m.ino[a]? =some nd)(hk:nd.k≠0)(hrel:(Z8.YM s.m.rows (nd.r:Int)).err=0):
  qan Tryz.prog 88 #[.pointer bw,a] w fun e w'=>e=.returned (.int .i64 0)/\∃y',RM j i g pp P w0 w' bw y' {s with m:={s.m with rows:=(Z8.YM s.m.rows (nd.r:Int)).rows,ino:=s.m.ino.set a .z}}:=by
 have halt:=(qag.1 ha).1
 have hon:=hp.ord.UT.ino nd (List.mem_of_getElem? ha)
 have OO:=hp.ord.right.TA
 have HH:qam (qan Tryz.prog 92 #[.pointer bw,a] w fun e w'=>e=.returned (.int .i64 0)/\w=w'):=χ (by
  have:=Uc h a nd ha hp.ord.UT.ino OO
  rwa[if_neg hk]at this)
 have DN:qam (∀(u:qar),RM j i g pp P w0 u bw y s->qan Tryz.prog 165 #[.slice y.x.rA 16 y.x.rc,nd.r] u fun e w'=>∃v,e=.returned (.tuple #[v,()])/\Z8.Given u w' v (Z8.YM s.m.rows (nd.r:Int)).rows):=χ (fun u hu=>by
  have hr:=hu.rv.met.lies.rows
  have:=Z8.Kb s.m.rows y.x.rA 16 y.x.rc (nd.r:Int) u hp.ord.rl hr
  unfold Z8.Yx at this
  rwa[hrel]at this)
 obtain⟨bi,ci,WL,hci⟩:=Zv h.rv.met.ino (by omega)
 have hA:=(qal WL).1
 clear WL hci
 have Oc:=χ hA
 have HF:qam (∀u:qar,RM j i g pp P w0 u bw y s->u.cell? ⟨bw,4,none⟩=some (.slice y.x.rA 16 y.x.rc)/\u.cell? ⟨bw,7,none⟩=some (.slice bi s.m.ino.length y.x.ic)/\u.cell? ⟨bi,a*14+1,none⟩=some (.int .u8 nd.r)):=χ (fun u hu=>by
  obtain⟨c4,c5,c6,c7,c8,c9⟩:=hu.rv.cells
  rw[hA]at c7
  rw[hp.ord.rl]at c4
  have hlo:=hu.rv.met.lies.ino
  rw[hA]at hlo
  have:=Yo hlo hp.ord.UT.ino ha 1 _ (show(Z9.ZX nd)[1]? =some (.int .u8 nd.r)from rfl)
  simp only[qas]at this
  exact⟨c4,c7,this⟩)
 have hw:qai.wrap (nd.r:Int)=(nd.r:Int):=by rw[qae];have:=hon.r;omega
 have ha0:(0:Int)<=(a:Int):=by omega
 have ha1:(a:Int)<(s.m.ino.length:Int):=by omega
 have jR:=χ hp.ord.UT.ino
 have Ak:=χ halt
 have Tm:qam ((#["","",(),(),(),(),(),(),(),(),(),(),(),()]:Array Value).all (·.oneCell')=true):=χ (by kernel_rfl)
 have HV:=χ h
 clear h hp ha hk hrel halt hon OO hA
 generalize Z8.YM s.m.rows (nd.r:Int)=R at*
 generalize nd.r=r at*
 go_enter Tryz.func88,Tryz.ntmps88
 go_upto_region 4 with(go_at_call 92;go_must (with_reducible refine HH.out.mono ?_);rintro e w1 ⟨he,hb⟩;obtain rfl:=he;subst hb)
 have Vm:=χ (HV.out.below (qat _ w).drew)
 have hS0:=HF.out _ Vm.out
 refine wp_region_held_drew (S:=fun u=>u.cell? ⟨bw,4,none⟩=some (.slice y.x.rA 16 y.x.rc)/\u.cell? ⟨bw,7,none⟩=some (.slice bi s.m.ino.length y.x.ic)/\u.cell? ⟨bi,a*14+1,none⟩=some (.int .u8 r)) (by kernel_rfl) hS0 (fun hHeld=>?_)
 clear hS0
 generalize hu0:w.drew=NS at*
 clear hu0
 refine tk 0 ?_ (y:=.inl ⟨by rfl,?hya0⟩) (s:=by exact hHeld) (h:=?V4)
 case hya0=>(rintro u ⟨c4,c7,cr⟩;go_simp<;>with_reducible rfl)
 try simp only[qad,qaa,qab,qac]
 refine tk 1 ?_ (y:=.inl ⟨by rfl,?hya1⟩) (s:=by exact hHeld) (h:=?Wn)
 case hya1=>(rintro u ⟨c4,c7,cr⟩;go_simp<;>with_reducible rfl)
 try simp only[qad,qaa,qab,qac]
 refine tk 2 ?_ (y:=.inl ⟨by rfl,?hya2⟩) (s:=by exact hHeld) (h:=?Wm)
 case hya2=>(rintro u ⟨c4,c7,cr⟩;go_simp<;>with_reducible rfl)
 try simp only[qad,qaa,qab,qac]
 refine tk 3 ?_ (y:=.inl ⟨by rfl,?hya3⟩) (s:=by exact hHeld) (h:=?Tp)
 case hya3=>(rintro u ⟨c4,c7,cr⟩;go_simp<;>with_reducible rfl)
 try simp only[qad,qaa,qab,qac]
 refine tk 4 ?_ (y:=.inl ⟨by rfl,?hya4⟩) (s:=by exact hHeld) (h:=?TJ)
 case hya4=>(rintro u ⟨c4,c7,cr⟩;go_simp<;>with_reducible rfl)
 try simp only[qad,qaa,qab,qac]
 refine tk 5 ?_ (y:=.inl ⟨by rfl,?hya5⟩) (s:=by exact hHeld) (h:=?Vw)
 case hya5=>(rintro u ⟨c4,c7,cr⟩;go_simp<;>with_reducible rfl)
 try simp only[qad,qaa,qab,qac]
 refine tk 6 ?_ (y:=.inl ⟨by rfl,?hya6⟩) (s:=by exact hHeld) (h:=?Vg)
 case hya6=>(rintro u ⟨c4,c7,cr⟩;go_simp<;>with_reducible rfl)
 try simp only[qad,qaa,qab,qac]
 refine tk 7 ?_ (y:=.inl ⟨by rfl,?hya7⟩) (s:=by exact hHeld) (h:=?QQ)
 case hya7=>(rintro u ⟨c4,c7,cr⟩;go_simp<;>with_reducible rfl)
 try simp only[qad,qaa,qab,qac]
 refine tk 8 ?_ (y:=.inl ⟨by rfl,?hya8⟩) (s:=by exact hHeld) (h:=?RJ)
 case hya8=>(rintro u ⟨c4,c7,cr⟩;go_simp<;>with_reducible rfl)
 try simp only[qad,qaa,qab,qac]
 refine tk 9 ?_ (y:=.inl ⟨by rfl,?hya9⟩) (s:=by exact hHeld) (h:=?Qg)
 case hya9=>(rintro u ⟨c4,c7,cr⟩;go_simp<;>with_reducible rfl)
 try simp only[qad,qaa,qab,qac]
 refine tk 10 ?_ (y:=.inl ⟨by rfl,?hya10⟩) (s:=by exact hHeld) (h:=?UG)
 case hya10=>(rintro u ⟨c4,c7,cr⟩;go_simp<;>with_reducible rfl)
 try simp only[qad,qaa,qab,qac]
 refine tk 11 ?_ (y:=.inl ⟨by rfl,?hya11⟩) (s:=by exact hHeld) (h:=?Rf)
 case hya11=>(rintro u ⟨c4,c7,cr⟩;go_simp<;>with_reducible rfl)
 try simp only[qad,qaa,qab,qac]
 refine tk 12 ?_ (y:=.inl ⟨by rfl,?hya12⟩) (s:=by exact hHeld) (h:=?Qf)
 case hya12=>(rintro u ⟨c4,c7,cr⟩;go_simp<;>with_reducible rfl)
 try simp only[qad,qaa,qab,qac]
 refine tk 13 ?_ (y:=.inl ⟨by rfl,?hya13⟩) (s:=by exact hHeld) (h:=?KP)
 case hya13=>(rintro u ⟨c4,c7,cr⟩;go_simp<;>with_reducible rfl)
 try simp only[qad,qaa,qab,qac]
 refine tk 14 ?_ (y:=.inl ⟨by rfl,?hya14⟩) (s:=by exact hHeld) (h:=?Ao)
 case hya14=>(rintro u ⟨c4,c7,cr⟩;go_simp<;>with_reducible rfl)
 try simp only[qad,qaa,qab,qac]
 refine rd 15 (h:=fun K hK=>?_)
 go_simp
 (with_reducible refine(DN.out _ Vm.out).mono ?_)
 rintro e w8 ⟨v,he,hm,hb⟩;obtain rfl:=he;obtain⟨A3,c3,hv,hA⟩:=YR hm;subst hv
 have sW:=χ (Vm.out.below hb)
 have HM:=χ hm
 have MN:qam (At (w0.heap.size<=·) A3):=χ (hA.mono fun _ h=>qap Vm.out.kept.size h)
 clear hm hb hA
 have hS:=HF.out _ sW.out
 go_simp
 refine hK.out _ _ hS (fun Z4=>?_)
 clear hK K hHeld hS
 have hHeld:=Z4
 clear Z4
 try simp only[qad,qaa,qab,qac]
 refine tk 16 ?_ (y:=.inl ⟨by rfl,?hya16⟩) (s:=by exact hHeld) (h:=?Af)
 case hya16=>(rintro u ⟨c4,c7,cr⟩;go_simp<;>with_reducible rfl)
 try simp only[qad,qaa,qab,qac]
 refine tk 17 ?_ (y:=.inl ⟨by rfl,?hya17⟩) (s:=by exact hHeld) (h:=?Ae)
 case hya17=>(rintro u ⟨c4,c7,cr⟩;go_simp<;>with_reducible rfl)
 try simp only[qad,qaa,qab,qac]
 refine tk 18 ?_ (y:=.inl ⟨by rfl,?hya18⟩) (s:=by exact hHeld) (h:=?Ad)
 case hya18=>(rintro u ⟨c4,c7,cr⟩;go_simp<;>with_reducible rfl)
 try simp only[qad,qaa,qab,qac]
 refine tk 19 ?_ (y:=.inl ⟨by rfl,?hya19⟩) (s:=by exact hHeld) (h:=?sj)
 case hya19=>(rintro u ⟨c4,c7,cr⟩;go_simp<;>with_reducible rfl)
 try simp only[qad,qaa,qab,qac]
 refine tk 20 ?_ (y:=.inl ⟨by rfl,?hya20⟩) (s:=by exact hHeld) (h:=?aaZ)
 case hya20=>(rintro u ⟨c4,c7,cr⟩;go_simp<;>with_reducible rfl)
 try simp only[qad,qaa,qab,qac]
 refine wpAnyH_done (by kernel_rfl) ?_ _
 clear hHeld
 obtain⟨d4,d5,d6,d7,d8,d9⟩:=sW.out.rv.cells
 clear d5 d6 d7 d8 d9
 have fz:=sW.out.rv.box.frozen 4
 go_upto_region 6 with fail
 have P5:qam (RM j i g pp P w0 (w8.setCell ⟨bw,4,none⟩ (.slice A3 R.rows.length c3)) bw {y with x:={y.x with rA:=A3,rc:=c3}} {s with m:={s.m with rows:=R.rows}}):=χ (sW.out.rows (ZI HM.out (qak _)) MN.out)
 clear d4 fz
 generalize w8.setCell ⟨bw,4,none⟩ (.slice A3 R.rows.length c3)=w3 at*
 obtain⟨d4,d5,d6,d7,d8,d9⟩:=P5.out.rv.cells
 simp only at d7
 rw[Oc.out]at d7
 have Oz:qam (w3.there bi (a*14) 14):=χ (Xu (by have:=P5.out.rv.met.ino;simp only at this;rw[Oc.out]at this;exact this) Ak.out)
 have NW:qam (RM j i g pp P w0 (w3.setCells bi (a*14) ["","",(),(),(),(),(),(),(),(),(),(),(),()]) bw {y with x:={y.x with rA:=A3,rc:=c3}} {s with m:={s.m with rows:=R.rows,ino:=s.m.ino.set a .z}}):=χ (by
  have hcell:Z9.ZX .z=[.int .u8 0,.int .u8 0,.int .i64 0,.int .i64 0,.int .i64 0,.int .i64 0,.int .i64 0,.int .i64 0,.int .i64 0,.int .i64 0,.int .i64 0,.int .i64 0,.int .i64 0,.int .i64 0]:=rfl
  rw[<-hcell]
  exact P5.out.inode jR.out Oc.out Ak.out Z9.YS.z)
 clear d4 d5 d6 d8 d9
 go_wp2_with (refine qaq rfl 40 (.tmp 45) (.tmp 44) rfl bi (a*14) #["","",(),(),(),(),(),(),(),(),(),(),(),()] rfl rfl Oz.out Zj Tm.out ?_;generalize w3.setCells bi (a*14) [.int .u8 0,.int .u8 0,.int .i64 0,.int .i64 0,.int .i64 0,.int .i64 0,.int .i64 0,.int .i64 0,.int .i64 0,.int .i64 0,.int .i64 0,.int .i64 0,.int .i64 0,.int .i64 0]=w4 at*)
 go_ret
 exact⟨rfl,_,NW.out⟩
theorem Qd(h:RM j i g pp P w0 w bw y s)(a:Int)(er:Nat)(hh:∀u,RM j i g pp P w0 u bw y s->qan Tryz.prog 92 #[.pointer bw,a] u fun e w'=>e=.returned (.int .i64 er)/\u=w')(h0:er≠0):
  qan Tryz.prog 29 #[.pointer bw,a] w fun e w'=>e=.returned (.tuple #[.agg #["","",(),(),(),(),(),(),(),(),(),(),(),()],.int .u16 0,er])/\RM j i g pp P w0 w' bw y s:=by
 have hb:=Bk.new w 40 ["","",(),(),(),(),(),(),(),(),(),(),(),()]
 have hal:=ZZ w (.cells #["","",(),(),(),(),(),(),(),(),(),(),(),()] 40)
 have HV:=χ (h.below hal)
 have Zl:=χ hb
 have HB:=χ hal
 have HH:=χ (hh _ (h.below hal))
 have HV0:=χ h
 have e1:((er:Int) != 0)=true:=by simp;omega
 have e2:¬ (er:Int)=0:=by omega
 clear h hb hal hh h0
 go_enter Tryz.func29,Tryz.ntmps29
 go_upto_region 1 with fail
 generalize w.alloc (.cells #["","",(),(),(),(),(),(),(),(),(),(),(),()] 40)=U at*
 have Tm:qam ((#["","",(),(),(),(),(),(),(),(),(),(),(),()]:Array Value).all (·.oneCell')=true):=χ (by kernel_rfl)
 have Oz:=χ (MI Zl.out)
 have fw:=χ (FC Zl.out (.int .u8 0) (.int .u8 0) (.int .i64 0) (.int .i64 0) (.int .i64 0) (.int .i64 0) (.int .i64 0) (.int .i64 0) (.int .i64 0) (.int .i64 0) (.int .i64 0) (.int .i64 0) (.int .i64 0) (.int .i64 0))
 have Yz:qam (Below w.heap.size w (U.setCells w.heap.size 0 ["","",(),(),(),(),(),(),(),(),(),(),(),()])):=χ (Meta.below_setCells (Nat.le_refl _) ["","",(),(),(),(),(),(),(),(),(),(),(),()] 0 HB.out)
 go_wp2_with (first|(go_at_call 92;go_must (with_reducible refine HH.out.mono ?_);rintro e w1 ⟨he,hb⟩;obtain rfl:=he;subst hb)|(refine qaq rfl 40 (.tmp 4) (.tmp 13) rfl w.heap.size 0 #["","",(),(),(),(),(),(),(),(),(),(),(),()] rfl rfl Oz.out Zj Tm.out ?_;generalize U.setCells w.heap.size 0 [.int .u8 0,.int .u8 0,.int .i64 0,.int .i64 0,.int .i64 0,.int .i64 0,.int .i64 0,.int .i64 0,.int .i64 0,.int .i64 0,.int .i64 0,.int .i64 0,.int .i64 0,.int .i64 0]=w3 at*))
 obtain⟨z0,z1,z2,z3,z4,z5,z6,z7,z8,z9,X5,X4,z12,X3⟩:=Z0 fw.out
 refine qaf (v:=.tuple #[.agg #["","",(),(),(),(),(),(),(),(),(),(),(),()],.int .u16 0,er]) (by simp[results,Tryz.results29,go_sem,z0,z1,z2,z3,z4,z5,z6,z7,z8,z9,X5,X4,z12,X3]) rfl ⟨rfl,HV0.out.below Yz.out⟩
theorem Eb(h:RM j i g pp P w0 w bw y s)(hp:XF j i g pp s)(a:Nat)(nd:Z9.Zz)(y0:Z8.Rw)(ha:s.m.ino[a]? =some nd)(hk:nd.k≠0)(hy:s.m.rows[nd.r]? =some y0):
  qan Tryz.prog 29 #[.pointer bw,a] w fun e w'=>e=.returned (.tuple #[.agg (Z9.ZX nd).toArray,.int .u16 y0.lab,()])/\RM j i g pp P w0 w' bw y s:=by
 have halt:=(qag.1 ha).1
 have qf:=(qag.1 hy).1
 have hon:=hp.ord.UT.ino nd (List.mem_of_getElem? ha)
 have OO:=hp.ord.right.TA
 have hrl:=hp.ord.rl
 have XH:=hp.ord.UT.ino
 have hb:=Bk.new w 40 ["","",(),(),(),(),(),(),(),(),(),(),(),()]
 have hal:=ZZ w (.cells #["","",(),(),(),(),(),(),(),(),(),(),(),()] 40)
 have HV0:=χ h
 have HV:=χ (h.below hal)
 have Zl:=χ hb
 have HB:=χ hal
 have HH:qam (qan Tryz.prog 92 #[.pointer bw,a] (w.alloc (.cells #["","",(),(),(),(),(),(),(),(),(),(),(),()] 40)) fun e w'=>e=.returned (.int .i64 0)/\w.alloc (.cells #["","",(),(),(),(),(),(),(),(),(),(),(),()] 40)=w'):=χ (by
  have:=Uc (h.below hal) a nd ha XH OO
  rwa[if_neg hk]at this)
 obtain⟨bi,ci,WL,hci⟩:=Zv h.rv.met.ino (by omega)
 have hA:=(qal WL).1
 obtain⟨br,cr,hR0,hcr⟩:=Zv h.rv.met.rows (by omega)
 have hR:=(qal hR0).1
 clear WL hci hR0 hcr
 have HF:qam (∀u:qar,RM j i g pp P w0 u bw y s->u.cell? ⟨bw,4,none⟩=some (.slice br 16 y.x.rc)/\u.cell? ⟨bw,7,none⟩=some (.slice bi s.m.ino.length y.x.ic)/\u.cell? ⟨bi,a*14+1,none⟩=some (.int .u8 nd.r)/\u.cell? ⟨br,nd.r*2,none⟩=some (.int .u16 y0.lab)/\u.rangeAt bi (a*14) (Z9.ZX nd)):=χ (fun u hu=>by
  obtain⟨c4,c5,c6,c7,c8,c9⟩:=hu.rv.cells
  rw[hA]at c7
  rw[hR,hrl]at c4
  have hlo:=hu.rv.met.lies.ino
  rw[hA]at hlo
  have h1:=Yo hlo XH ha
  have h2:=h1 1 _ (show(Z9.ZX nd)[1]? =some (.int .u8 nd.r)from rfl)
  simp only[qas]at h1 h2
  have hlr:=hu.rv.met.lies.rows
  rw[hR]at hlr
  rcases Z8.VW hlr with h0|⟨b3,o3,hA3,-,hat⟩
  ·rw[h0]at qf;simp at qf
  ·cases hA3
   have h3:=(hat nd.r y0 hy).1
   rw[qas]at h3
   exact⟨c4,c7,h2,h3,h1⟩)
 have hr0:(0:Int)<=(nd.r:Int):=by omega
 have hr1:(nd.r:Int)<16:=by omega
 have ha0:(0:Int)<=(a:Int):=by omega
 have ha1:(a:Int)<(s.m.ino.length:Int):=by omega
 have UU:=χ (YI nd hon)
 obtain⟨lab,hlab⟩:∃lab,y0.lab=lab:=⟨_,rfl⟩
 rw[hlab]at HF⊢
 obtain⟨k,rr,l,s_,p⟩:=nd
 obtain⟨p0,p1,p2,p3,p4,p5,p6,p7,p8,p9,Qi⟩:=Z9.XI hon.len
 simp only at Qi
 subst Qi
 simp only at hr0 hr1 HF
 have hcx:Z9.ZX ⟨k,rr,l,s_,[p0,p1,p2,p3,p4,p5,p6,p7,p8,p9]⟩=[.int .u8 k,.int .u8 rr,.int .i64 l,.int .i64 s_,.int .i64 p0,.int .i64 p1,.int .i64 p2,.int .i64 p3,.int .i64 p4,.int .i64 p5,.int .i64 p6,.int .i64 p7,.int .i64 p8,.int .i64 p9]:=rfl
 obtain⟨cx,hce⟩:∃cx:List Value,cx=[.int .u8 k,.int .u8 rr,.int .i64 l,.int .i64 s_,.int .i64 p0,.int .i64 p1,.int .i64 p2,.int .i64 p3,.int .i64 p4,.int .i64 p5,.int .i64 p6,.int .i64 p7,.int .i64 p8,.int .i64 p9]:=⟨_,rfl⟩
 rw[hcx]at HF UU⊢
 rw[<-hce]at HF UU⊢
 have HL:qam (cx.length=14):=χ (by rw[hce];rfl)
 have H1:qam (∀v∈cx,v.oneCell'=true):=χ (by rw[hce];exact XW ⟨k,rr,l,s_,[p0,p1,p2,p3,p4,p5,p6,p7,p8,p9]⟩)
 have K9:=χ hce
 clear h hp ha hk hy halt qf hon OO hrl XH hb hal hA hR hlab hce hcx
 go_enter Tryz.func29,Tryz.ntmps29
 go_upto_region 1 with fail
 generalize w.alloc (.cells #["","",(),(),(),(),(),(),(),(),(),(),(),()] 40)=U at*
 go_upto_region 4 with(go_at_call 92;go_must (with_reducible refine HH.out.mono ?_);rintro e w1 ⟨he,hb⟩;obtain rfl:=he;subst hb)
 have Vm:=χ (HV.out.below (qat _ U).drew)
 have Ap:qam (Bk U.drew w.heap.size 40 ["","",(),(),(),(),(),(),(),(),(),(),(),()]):=χ Zl.out
 have Yz:qam (Below w.heap.size w U.drew):=χ HB.out.drew
 have hS0:=HF.out _ Vm.out
 refine wp_region_held_drew (S:=fun u=>u.cell? ⟨bw,4,none⟩=some (.slice br 16 y.x.rc)/\u.cell? ⟨bw,7,none⟩=some (.slice bi s.m.ino.length y.x.ic)/\u.cell? ⟨bi,a*14+1,none⟩=some (.int .u8 rr)/\u.cell? ⟨br,rr*2,none⟩=some (.int .u16 lab)/\u.rangeAt bi (a*14) cx) (by kernel_rfl) hS0 (fun hHeld=>?_)
 clear hS0 Zl HB
 generalize hu0:U.drew=NS at*
 clear hu0
 refine tk 0 ?_ (y:=.inl ⟨by rfl,?hyb0⟩) (s:=by exact hHeld) (h:=?AU)
 case hyb0=>(rintro u ⟨c4,c7,cr,cl,WB⟩;clear WB;go_simp<;>with_reducible rfl)
 try simp only[qad,qaa,qab,qac]
 refine tk 1 ?_ (y:=.inl ⟨by rfl,?hyb1⟩) (s:=by exact hHeld) (h:=?AR)
 case hyb1=>(rintro u ⟨c4,c7,cr,cl,WB⟩;clear WB;go_simp<;>with_reducible rfl)
 try simp only[qad,qaa,qab,qac]
 refine tk 2 ?_ (y:=.inl ⟨by rfl,?hyb2⟩) (s:=by exact hHeld) (h:=?AQ)
 case hyb2=>(rintro u ⟨c4,c7,cr,cl,WB⟩;clear WB;go_simp<;>with_reducible rfl)
 try simp only[qad,qaa,qab,qac]
 refine tk 3 ?_ (y:=.inl ⟨by rfl,?hyb3⟩) (s:=by exact hHeld) (h:=?AP)
 case hyb3=>(rintro u ⟨c4,c7,cr,cl,WB⟩;clear WB;go_simp<;>with_reducible rfl)
 try simp only[qad,qaa,qab,qac]
 refine tk 4 ?_ (y:=.inl ⟨by rfl,?hyb4⟩) (s:=by exact hHeld) (h:=?AO)
 case hyb4=>(rintro u ⟨c4,c7,cr,cl,WB⟩;clear WB;go_simp<;>with_reducible rfl)
 try simp only[qad,qaa,qab,qac]
 refine tk 5 ?_ (y:=.inl ⟨by rfl,?hyb5⟩) (s:=by exact hHeld) (h:=?vM)
 case hyb5=>(rintro u ⟨c4,c7,cr,cl,WB⟩;clear WB;go_simp<;>with_reducible rfl)
 try simp only[qad,qaa,qab,qac]
 refine tk 6 ?_ (y:=.inl ⟨by rfl,?hyb6⟩) (s:=by exact hHeld) (h:=?pY)
 case hyb6=>(rintro u ⟨c4,c7,cr,cl,WB⟩;clear WB;go_simp<;>with_reducible rfl)
 try simp only[qad,qaa,qab,qac]
 refine tk 7 _ (y:=(yieldsIf_load_mid (by rfl) 40 _ rfl bi (a*14) rfl cx _ (fun u hu=>hu.2.2.2.2) Tryz.underlying40 rfl UU.out)) (s:=by exact hHeld) (h:=?_)
 try simp only[qad,qaa,qab,qac]
 refine tk 8 ?_ (y:=.inl ⟨by rfl,?hyb8⟩) (s:=by exact hHeld) (h:=?qm)
 case hyb8=>(rintro u ⟨c4,c7,cr,cl,WB⟩;clear WB;go_simp<;>with_reducible rfl)
 try simp only[qad,qaa,qab,qac]
 refine tk 9 ?_ (y:=.inl ⟨by rfl,?hyb9⟩) (s:=by exact hHeld) (h:=?vR)
 case hyb9=>(rintro u ⟨c4,c7,cr,cl,WB⟩;clear WB;go_simp<;>with_reducible rfl)
 try simp only[qad,qaa,qab,qac]
 refine tk 10 ?_ (y:=.inl ⟨by rfl,?hyb10⟩) (s:=by exact hHeld) (h:=?FE)
 case hyb10=>(rintro u ⟨c4,c7,cr,cl,WB⟩;clear WB;go_simp<;>with_reducible rfl)
 try simp only[qad,qaa,qab,qac]
 refine tk 11 ?_ (y:=.inl ⟨by rfl,?hyb11⟩) (s:=by exact hHeld) (h:=?FD)
 case hyb11=>(rintro u ⟨c4,c7,cr,cl,WB⟩;clear WB;go_simp<;>with_reducible rfl)
 try simp only[qad,qaa,qab,qac]
 refine tk 12 ?_ (y:=.inl ⟨by rfl,?hyb12⟩) (s:=by exact hHeld) (h:=?si)
 case hyb12=>(rintro u ⟨c4,c7,cr,cl,WB⟩;clear WB;go_simp<;>with_reducible rfl)
 try simp only[qad,qaa,qab,qac]
 refine tk 13 ?_ (y:=.inl ⟨by rfl,?hyb13⟩) (s:=by exact hHeld) (h:=?aa0)
 case hyb13=>(rintro u ⟨c4,c7,cr,cl,WB⟩;clear WB;go_simp<;>with_reducible rfl)
 try simp only[qad,qaa,qab,qac]
 refine tk 14 ?_ (y:=.inl ⟨by rfl,?hyb14⟩) (s:=by exact hHeld) (h:=?sw)
 case hyb14=>(rintro u ⟨c4,c7,cr,cl,WB⟩;clear WB;go_simp<;>with_reducible rfl)
 try simp only[qad,qaa,qab,qac]
 refine tk 15 ?_ (y:=.inl ⟨by rfl,?hyb15⟩) (s:=by exact hHeld) (h:=?kU)
 case hyb15=>(rintro u ⟨c4,c7,cr,cl,WB⟩;clear WB;go_simp<;>with_reducible rfl)
 try simp only[qad,qaa,qab,qac]
 refine tk 16 ?_ (y:=.inl ⟨by rfl,?hyb16⟩) (s:=by exact hHeld) (h:=?aa1)
 case hyb16=>(rintro u ⟨c4,c7,cr,cl,WB⟩;clear WB;go_simp<;>with_reducible rfl)
 try simp only[qad,qaa,qab,qac]
 refine tk 17 ?_ (y:=.inl ⟨by rfl,?hyb17⟩) (s:=by exact hHeld) (h:=?aa2)
 case hyb17=>(rintro u ⟨c4,c7,cr,cl,WB⟩;clear WB;go_simp<;>with_reducible rfl)
 try simp only[qad,qaa,qab,qac]
 refine tk 18 ?_ (y:=.inl ⟨by rfl,?hyb18⟩) (s:=by exact hHeld) (h:=?aa3)
 case hyb18=>(rintro u ⟨c4,c7,cr,cl,WB⟩;clear WB;go_simp<;>with_reducible rfl)
 try simp only[qad,qaa,qab,qac]
 refine tk 19 ?_ (y:=.inl ⟨by rfl,?hyb19⟩) (s:=by exact hHeld) (h:=?aa4)
 case hyb19=>(rintro u ⟨c4,c7,cr,cl,WB⟩;clear WB;go_simp<;>with_reducible rfl)
 try simp only[qad,qaa,qab,qac]
 refine tk 20 ?_ (y:=.inl ⟨by rfl,?hyb20⟩) (s:=by exact hHeld) (h:=?aa5)
 case hyb20=>(rintro u ⟨c4,c7,cr,cl,WB⟩;clear WB;go_simp<;>with_reducible rfl)
 try simp only[qad,qaa,qab,qac]
 refine tk 21 ?_ (y:=.inl ⟨by rfl,?hyb21⟩) (s:=by exact hHeld) (h:=?aa6)
 case hyb21=>(rintro u ⟨c4,c7,cr,cl,WB⟩;clear WB;go_simp<;>with_reducible rfl)
 try simp only[qad,qaa,qab,qac]
 refine tk 22 ?_ (y:=.inl ⟨by rfl,?hyb22⟩) (s:=by exact hHeld) (h:=?aa7)
 case hyb22=>(rintro u ⟨c4,c7,cr,cl,WB⟩;clear WB;go_simp<;>with_reducible rfl)
 try simp only[qad,qaa,qab,qac]
 refine tk 23 ?_ (y:=.inl ⟨by rfl,?hyb23⟩) (s:=by exact hHeld) (h:=?aa8)
 case hyb23=>(rintro u ⟨c4,c7,cr,cl,WB⟩;clear WB;go_simp<;>with_reducible rfl)
 try simp only[qad,qaa,qab,qac]
 refine tk 24 ?_ (y:=.inl ⟨by rfl,?hyb24⟩) (s:=by exact hHeld) (h:=?aa9)
 case hyb24=>(rintro u ⟨c4,c7,cr,cl,WB⟩;clear WB;go_simp<;>with_reducible rfl)
 try simp only[qad,qaa,qab,qac]
 refine rd 25 (h:=fun K hK=>?_)
 rw[if_pos (by rfl)]
 refine wp_store_mid 40 _ _ rfl w.heap.size 0 cx.toArray rfl rfl (P8 Ap.out rfl HL.out) UU.out (all_oneCell_toArray H1.out) ?_
 simp only[qad]
 have kQ:=KQ Ap.out rfl cx HL.out
 have hbs:Below w.heap.size w (NS.setCells w.heap.size 0 cx):=Meta.below_setCells (Nat.le_refl _) cx 0 Yz.out
 have RQ:=χ (HV0.out.below hbs)
 have hS:=HF.out _ RQ.out
 refine hK.out _ _ hS (fun Z4=>?_)
 clear hK K hHeld hS
 have hHeld:=Z4
 clear Z4
 try simp only[qad,qaa,qab,qac]
 refine tk 26 ?_ (y:=.inl ⟨by rfl,?hyb26⟩) (s:=by exact hHeld) (h:=?aa')
 case hyb26=>(rintro u ⟨c4,c7,cr,cl,WB⟩;clear WB;go_simp<;>with_reducible rfl)
 try simp only[qad,qaa,qab,qac]
 refine tk 27 ?_ (y:=.inl ⟨by rfl,?hyb27⟩) (s:=by exact hHeld) (h:=?aba)
 case hyb27=>(rintro u ⟨c4,c7,cr,cl,WB⟩;clear WB;go_simp<;>with_reducible rfl)
 try simp only[qad,qaa,qab,qac]
 refine wpAnyH_done (by kernel_rfl) ?_ _
 clear hHeld
 have ZB:=χ kQ
 clear kQ
 obtain rfl:=K9.out
 obtain⟨z0,z1,z2,z3,z4,z5,z6,z7,z8,z9,X5,X4,z12,X3⟩:=Z0 ZB.out
 go_wp2
 refine qaf (v:=.tuple #[.agg #[.int .u8 k,.int .u8 rr,l,s_,p0,p1,p2,p3,p4,p5,p6,p7,p8,p9],.int .u16 lab,()]) (by simp[results,Tryz.results29,go_sem,z0,z1,z2,z3,z4,z5,z6,z7,z8,z9,X5,X4,z12,X3]) rfl ⟨rfl,RQ.out⟩
end
end Go.Proofs.YtmehhgfbnfbnaaaGreat.Y7
