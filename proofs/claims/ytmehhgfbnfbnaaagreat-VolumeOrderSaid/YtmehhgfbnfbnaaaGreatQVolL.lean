import Derived.Test.YtmehhgfbnfbnaaaGreatQVolK
import Derived.Test.YtmehhgfbnfbnaaaGreatQVolN
import Derived.Test.YtmehhgfbnfbnaaaGreatQTk
import Derived.Test.YtmehhgfbnfbnaaaGreatQVolJ
set_option maxRecDepth 100000
set_option maxHeartbeats 25600000
open List renaming setIfInBounds_toArray->qaa,set_cons_zero->qab,set_cons_succ->qac,getElem?_eq_some_iff->qag,getElem?_eq_getElem->qaj,findIdx?_eq_none_iff->qaw,mem_iff_getElem?->qax
open Go.Act renaming put->qad
open Go.IntKind renaming wrap_i64->qae,i64->qai
open Go renaming bodyPost_ret->qaf,Calls->qan,wpList_store_mid->qaq,World->qar
open Int renaming natCast_mul->qah
open Nat renaming zero_le->qak,lt_or_ge->qao,le_trans->qap,zero_add->qas,mul_lt_mul_of_pos_right->qav
open Go.Value.slice renaming inj->qal
open Go.RowKit renaming Hid->qam
open Go.RowKit.Below renaming refl->qat
open Option.some renaming inj->qau
namespace Go.Proofs.YtmehhgfbnfbnaaaGreat
theorem zpq0{P:Prop}(h:P:=by
 clear Sb
 obtain⟨n,rfl,hn,Sb,kY⟩:=hrel
 obtain⟨c3,c2,c4,c5,c6,c8⟩:=kG.out _ Sb.out
 by_cases bX:n<g
 ·obtain⟨o,ho⟩:∃o,s.m.own[n]? =some o:=⟨_,qaj (by rw[kF.out];exact bX)⟩
  have co:=EY.out _ _ _ Sb.out ho
  have hn0:(0:Int)<=(n:Int):=by omega
  have hn1:(n:Int)<(g:Int):=by omega
  have hwn:qai.wrap ((n:Int)+1)=((n+1:Nat):Int):=by rw[qae];have:=qf.out;omega
  by_cases ho0:o=0
  ·subst ho0
   have Qz:qam (TL s.m.own=some n):=χ (PI ho kY.out)
   have Sw:qam (∃R,Z8.ZH s.m.rows a=R/\qan Tryz.prog 163 #[.slice y.x.rA 16 y.x.rc,.int .u16 a] wr fun e w'=>∃v,e=.returned (.tuple #[v,.int .i64 R.at_,.int .i64 R.err])/\Z8.Given wr w' v R.rows):=χ ⟨_,rfl,by
    have hr:=Sb.out.rv.met.lies.rows
    exact Z8.QW s.m.rows y.x.rA 16 y.x.rc a wr HP.out.ord.rl hr⟩
   obtain⟨R,hR,hrt⟩:=Sw.out
   have HR:=χ hR
   have bW:=χ hrt
   clear hR hrt Sw ho
   have hnp:n*pp<N:=by rw[<-iV.out];exact qav bX HPP.out
   have pz:n*pp<512:=by have:=wE.out;omega
   have bV:(n:Int)*(pp:Int)<512:=by rw[<-qah];omega
   have bU:0<=(n:Int)*(pp:Int):=by rw[<-qah];omega
   have acQ:qai.wrap ((n:Int)*(pp:Int))=(n:Int)*(pp:Int):=by rw[qae];omega
   have HNP:=χ pz
   clear hnp pz bV bU
   go_upto_region 13 with(go_at_call 163;go_must (with_reducible refine bW.out.mono ?_);rintro e w2 ⟨v,he,hm,hb⟩;obtain rfl:=he;obtain⟨A3,d3,hv,hA⟩:=YT hm;subst hv;have XT:=χ (Sb.out.below hb);have HM:=χ hm;have I6:qam (At (w0.heap.size<=·) A3):=χ (hA.mono fun _ h=>qap Sb.out.kept.size h);clear hm hb hA c3 c2 c4 c5 c6 c8 co)
   obtain⟨er,her⟩:∃er:Nat,R.err=er:=⟨_,rfl⟩
   obtain⟨at2,Xi⟩:∃at2:Nat,R.at_=at2:=⟨_,rfl⟩
   rw[her,Xi]
   by_cases he0:er=0
   ·subst he0
    have Qq:at2<16:=by have:=SV (a:=a) HP.out.ord.right.rows (by rw[HR.out];exact her);rw[HR.out,Xi]at this;exact this
    have hwa:qai.wrap ((at2:Int)+1)=(at2:Int)+1:=by rw[qae];omega
    have Ct:=χ her
    have HAT:=χ Xi
    clear her Xi Qq
    obtain⟨d4,d5,d6,d7,d8,d9⟩:=XT.out.rv.cells
    have fz:=XT.out.rv.box.frozen 4
    clear d5 d6 d7 d8 d9
    go_upto_region 16 with fail
    have MN:qam (RM j i g pp P w0 (w2.setCell ⟨bw,4,none⟩ (.slice A3 R.rows.length d3)) bw {y with x:={y.x with rA:=A3,rc:=d3}} {s with m:={s.m with rows:=R.rows}}):=χ (XT.out.rows (ZL HM.out (qak _)) I6.out)
    clear d4 fz
    generalize w2.setCell ⟨bw,4,none⟩ (.slice A3 R.rows.length d3)=w3 at*
    obtain⟨d4,d5,d6,d7,d8,d9⟩:=MN.out.rv.cells
    simp only at d5
    rw[wF.out,kF.out]at d5
    obtain⟨⟨zo,hzo⟩,hfo⟩:=Xo (by have:=MN.out.rv.met.own;simp only at this;rw[wF.out]at this;exact this) n (by rw[kF.out];omega)
    clear d4 d6 d7 d8 d9
    go_upto_region 17 with fail
    have HV4:=χ (MN.out.owner wF.out n ((at2:Int)+1))
    clear d5 hzo hfo
    generalize w3.setCell ⟨go,n,none⟩ (.int .i64 ((at2:Int)+1))=w4 at*
    obtain⟨g0,g1,g2,g3⟩:=HV4.out.rv.YV
    clear g0 g1 g2
    have MC:=χ (Qr HV4.out HP.out.ord.ul (n*pp) HNP.out true)
    rw[qah]at MC
    go_upto_region 18 with(go_at_call 162;go_must (with_reducible refine MC.out.mono ?_);rintro e w5 ⟨he,A5,d5,hv⟩;obtain rfl:=he;have HV5:=χ hv;clear hv)
    clear g3
    obtain⟨g0,g1,g2,g3⟩:=HV5.out.rv.YV
    clear g0 g1 g2
    go_wp2
    refine qaf (v:=.tuple #[.int .i64 ((n:Int)*(pp:Int)),()]) (by simp[results,Tryz.results84,go_sem]) rfl ?_
    have UI:Zi pp s a=({s with m:=Yy (YA s.m a n) (n*pp)},n*pp,0):=by
     unfold Zi
     rw[OX.out,Qz.out]
     simp only
     rw[if_pos (by rw[HR.out];exact Ct.out)]
    rw[UI]
    obtain⟨y5,h5⟩:∃y5,RM j i g pp P w0 w5 bw y5 _:=⟨_,HV5.out⟩
    refine⟨by rw[qah];rfl,y5,?_⟩
    rw[<-HAT.out]at h5
    unfold Yy YA
    rw[HR.out]
    exact h5
   ·have Ct:=χ her
    clear her Xi
    have hne:(er:Int)≠0:=by omega
    have hne2:((er:Int) != 0)=true:=by simp;omega
    go_wp2
    refine qaf (v:=.tuple #[(),er]) (by simp[results,Tryz.results84,go_sem]) rfl ?_
    have UI:Zi pp s a=(s,0,er):=by
     unfold Zi
     rw[OX.out,Qz.out]
     simp only
     rw[HR.out,Ct.out,if_neg he0]
    rw[UI]
    exact⟨rfl,_,XT.out⟩
  ·have aT:(o==0)=false:=by simp;exact ho0
   have Xr:qam (∀n',n'<n+1->s.m.own[n']?≠some 0):=χ (fun n' hn' he=>by
    rcases qao n' n with h|h
    ·exact kY.out n' h he
    ·obtain rfl:n'=n:=by omega
     rw[ho]at he
     exact ho0 (qau he))
   clear ho
   go_wp2
   go_roundw
   case rel=>exact⟨n+1,by first|rfl|(congr 1),bX,Sb,Xr⟩
   case measure=>simp[intOf];omega
 ·obtain rfl:n=g:=by omega
  have UI:Zi pp s a=(s,0,5):=by
   unfold Zi
   rw[OX.out,PH (by rw[kF.out];exact kY.out)]
  have Cs:=χ UI
  clear UI
  go_wp2
  refine qaf (v:=.tuple #[(),.int .i64 5]) (by simp[results,Tryz.results84,go_sem]) rfl ?_
  rw[Cs.out]
  exact⟨rfl,_,Sb.out⟩):P:=h
theorem zpq1{P:Prop}(h:P:=by
 have e1:((nd.k:Int) != 0)=true:=by simp;omega
 have e2:¬ (nd.k:Int)=0:=by omega
 have Ue:qam (∀k' n',k'<k+1->s.m.ino[k']? =some n'->n'.k≠0):=χ (fun k' n' hk' hn'=>by
  rcases qao k' k with h|h
  ·exact TH.out k' n' h hn'
  ·obtain rfl:k'=k:=by omega
   rw[hnd]at hn'
   cases hn'
   exact hk0)
 clear hnd hk0
 go_wp2
 go_roundw
 case rel=>exact⟨k+1,by first|rfl|(congr 1),hlt,HV,Ue⟩
 case measure=>simp[intOf];omega):P:=h
theorem zpq2{P:Prop}(h:P:=by
 rw[UI]
 obtain⟨y5,h5⟩:∃y5,RM j i g pp P w0 w4 bw y5 _:=⟨_,KH.out⟩
 refine⟨rfl,y5,?_⟩
 simp only
 rw[HR.out,HAT.out]
 exact h5):P:=h
theorem zpq3{P:Prop}(h:P:=by
 go_wp2
 refine qaf (v:=.tuple #[(),.int .i64 5]) (by simp[results,Tryz.results87,go_sem]) rfl ?_
 rw[Cs.out]
 exact⟨rfl,_,HV.out⟩):P:=h
theorem zpq4{P:Prop}(h:P:=by
 (rintro u ⟨c4,c7,cr,cl,VU⟩;clear VU;go_simp<;>with_reducible rfl)):P:=h
theorem zpq5{P:Prop}(h:P:=by
 (rintro u ⟨c4,c7,cr⟩;go_simp<;>with_reducible rfl)):P:=h
end Go.Proofs.YtmehhgfbnfbnaaaGreat
namespace Go.Proofs.YtmehhgfbnfbnaaaGreat.Zl
open Go.RowKit Zq Meta
def NoF(pp:Nat)(m:Meta.Met)(r k:Nat)(Zo:Bool):Prop:=Zo=true->∀k',k'<k->m.own[k'/pp]? =some ((r:Int)+1)->Bits.hb m.used k'=true
theorem CG{j i g pp:Nat}{P:Nat->Prop}{w0 w:qar}{bw:Nat}{y:Rm}{s:PS}(h:RM j i g pp P w0 w bw y s)(hp:Yb j i g pp s)(a:Nat):
  qan Tryz.prog 84 #[.pointer bw,.int .u16 a] w fun e w'=>e=.returned (.tuple #[.int .i64 ((Zi pp s a).2.1:Int),.int .i64 ((Zi pp s a).2.2:Int)])/\∃y',RM j i g pp P w0 w' bw y' (Zi pp s a).1:=by
 have V8:=hp.ord.gp
 have OT:=hp.ord.xh
 have S9:g<=64:=by have:=hp.ord.right.YV.g2;simp only at this;omega
 have hN:s.B.length=g*pp:=hp.bl
 have hrl:=hp.ord.rl
 have hol:=hp.ord.ol
 have hg1:1<=g:=by have:=hp.ord.right.YV.g1;simp only at this;omega
 have HFD:qam (qan Tryz.prog 160 #[.slice y.x.rA 16 y.x.rc,.int .u16 a] w fun e w'=>e=.returned (.tuple #[.int .i64 (((Z8.TT s.m.rows a).getD 0:Nat):Int),.bool (Z8.TT s.m.rows a).isSome])/\∃q,w'=w.drewN q):=χ (by
  have:=Z8.SK s.m.rows y.x.rA 16 y.x.rc a w.heap.size w hrl h.rv.met.lies.rows (by decide)
  rw[Z8.Vw hp.ord.right.rows]at this
  exact this)
 have HHS:qam (∀(u:qar)(k:Nat),RM j i g pp P w0 u bw y s->k<512->qan Tryz.prog 161 #[.slice y.x.uA 64 y.x.uc,k] u fun e w'=>e=.returned (.bool (Bits.hb s.m.used k))/\w'=u):=χ (fun u k hu hk=>by
  have hr:=hu.rv.met.lies.used
  have:=Bits.XP s.m.used y.x.uA 64 y.x.uc u.heap.size (k:Int) u hp.ord.ul hr (by decide)
  rw[Bits.Ym]at this
  refine this.mono ?_
  rintro e w' ⟨he,hw⟩
  exact⟨he,hw.symm⟩)
 obtain⟨go,co,hO0,hco⟩:=Zp h.rv.met.own (by omega)
 have hO:=(qal hO0).1
 clear hO0 hco
 have wF:=χ hO
 have kG:qam (∀u:qar,RM j i g pp P w0 u bw y s->u.cell? ⟨bw,3,none⟩=some (.int .i64 pp)/\u.cell? ⟨bw,2,none⟩=some (.int .i64 g)/\u.cell? ⟨bw,4,none⟩=some (.slice y.x.rA 16 y.x.rc)/\u.cell? ⟨bw,5,none⟩=some (.slice go g y.x.oc)/\u.cell? ⟨bw,6,none⟩=some (.slice y.x.uA 64 y.x.uc)/\u.cell? ⟨bw,8,none⟩=some (.slice y.bA (g*pp) y.bc)):=χ (fun u hu=>by
  obtain⟨g0,g1,g2,g3⟩:=hu.rv.YV
  obtain⟨c4,c5,c6,c7,c8,c9⟩:=hu.rv.cells
  rw[hO,hol]at c5
  rw[hrl]at c4
  rw[hp.ord.ul]at c6
  rw[hN]at c8
  exact⟨g3,g2,c4,c5,c6,c8⟩)
 have EY:qam (∀(u:qar)(q:Nat)(o:Int),RM j i g pp P w0 u bw y s->s.m.own[q]? =some o->u.cell? ⟨go,q,none⟩=some (.int .i64 o)):=χ (fun u q o hu hq=>by
  have hlo:=hu.rv.met.lies.own
  rw[hO]at hlo
  have:=Yf hlo hq
  rwa[qas]at this)
 have HV:=χ h
 have HP:=χ hp
 obtain⟨fo,hfo⟩:∃fo,Z8.TT s.m.rows a=fo:=⟨_,rfl⟩
 have abq:(fo.getD 0:Nat)<16:=by
  rw[<-hfo]
  cases hfx:Z8.TT s.m.rows a with
  |none=>decide
  |some r=>
   obtain⟨y0,h1,-⟩:=Z8.Vx hfx
   have:=(qag.1 h1).1
   rw[hrl]at this
   exact this
 rw[hfo]at HFD
 have aV:=χ hfo
 obtain⟨oC,hrw⟩:∃oC:Nat,fo.getD 0=oC:=⟨_,rfl⟩
 obtain⟨Zo,his⟩:∃Zo:Bool,fo.isSome=Zo:=⟨_,rfl⟩
 rw[hrw]at HFD abq
 rw[his]at HFD
 have HIS:qam (if Zo=true then Z8.TT s.m.rows a=some oC else Z8.TT s.m.rows a=none):=χ (by
  rw[hfo,<-his,<-hrw]
  cases fo with
  |none=>rfl
  |some r=>rfl)
 have hwr:qai.wrap ((oC:Int)+1)=(oC:Int)+1:=by rw[qae];omega
 have wE:qam (g*pp<=512):=χ V8
 have qf:=χ S9
 have HPP:=χ OT
 have kF:=χ hol
 have hp0:¬ (pp:Int)=0:=by omega
 obtain⟨c3,c2,c4,c5,c6,c8⟩:=kG.out _ h
 clear h hp V8 OT S9 hN hrl hol hg1 hO hfo abq hrw his aV c2 c3 c5 c6 c8
 generalize hnn:g*pp=N at*
 have iV:=χ hnn
 clear hnn
 go_enter Tryz.func84,Tryz.ntmps84
 go_wp2_with (go_at_call 160;go_must (with_reducible refine HFD.out.mono ?_);rintro e w1 ⟨he,qd,hb⟩;obtain rfl:=he;subst hb;have PE:=χ (HV.out.below (below_drewN (qat _ w) qd));clear c4;generalize w.drewN qd=w1 at*;obtain⟨c3,c2,c4,c5,c6,c8⟩:=kG.out _ PE.out)
 clear c2 c3 c4 c5 c6 c8
 go_loopw [8] (fun kc wr=>∃k:Nat,kc=.int .i64 k/\k<=N/\qam (RM j i g pp P w0 wr bw y s)/\qam (NoF pp s.m oC k Zo)) (fun kc _=>N-(intOf kc).toNat)
 case atStart=>exact⟨0,rfl,qak _,PE,χ (fun _ k' hk=>by omega)⟩
 case round=>
  obtain⟨k,rfl,hk,Sb,TH⟩:=hrel
  obtain⟨c3,c2,c4,c5,c6,c8⟩:=kG.out _ Sb.out
  by_cases hlt:k<N
  ·cases Zo with
   |true=>
    have hqg:k/pp<g:=(Nat.div_lt_iff_lt_mul HPP.out).2 (by rw[iV.out];exact hlt)
    obtain⟨o,ho⟩:∃o,s.m.own[k/pp]? =some o:=⟨_,qaj (by rw[kF.out];exact hqg)⟩
    have co:=EY.out _ _ _ Sb.out ho
    have HO:=χ ho
    obtain⟨q,hq⟩:∃q,k/pp=q:=⟨_,rfl⟩
    have HQ:=χ hq
    have h00:(0:Int)<=(k:Int):=by omega
    have pE:(k:Int)/(pp:Int)=(q:Int):=by rw[<-hq];exact(Int.natCast_ediv k pp).symm
    have htd:Int.tdiv (k:Int) (pp:Int)=(q:Int):=by rw[Int.tdiv_eq_ediv_of_nonneg h00];exact pE
    have hwq:qai.wrap (q:Int)=(q:Int):=by rw[qae];have:=qf.out;omega
    rw[hq]at hqg co
    have hq0:(0:Int)<=(q:Int):=by omega
    have hq1:(q:Int)<(g:Int):=by omega
    have V7:(k:Int)<(N:Int):=by omega
    have adD:(k:Int)<(g:Int)*(pp:Int):=by have:=iV.out;rw[<-qah];omega
    have hwk:qai.wrap ((k:Int)+1)=((k+1:Nat):Int):=by rw[qae];have:=wE.out;omega
    clear ho hq
    by_cases hor:o=(oC:Int)+1
    ·subst hor
     have HHK:qam (∀n:Nat,qan Tryz.prog 161 #[.slice y.x.uA 64 y.x.uc,k] (wr.drewN n) fun e w'=>e=.returned (.bool (Bits.hb s.m.used k))/\w'=wr.drewN n):=χ (fun n=>HHS.out _ k (Sb.out.below (below_drewN (qat _ wr) n)) (by have:=wE.out;omega))
     obtain⟨hbk,hhb⟩:∃hbk,Bits.hb s.m.used k=hbk:=⟨_,rfl⟩
     rw[hhb]at HHK
     have HHB:=χ hhb
     clear hhb
     go_upto_region 5 with fail
     go_quiet ((go_at_call 161;exact qan.quiet_of_same (HHK.out _)))
     have XT:=χ (Sb.out.below (below_drewN (qat _ wr) nq))
     generalize wr.drewN nq=w2 at*
     clear c3 c2 c4 c5 c6 c8 co
     cases hbk with
     |true=>
      have Ue:qam (NoF pp s.m oC (k+1) true):=χ (fun _ k' hk' he=>by
       rcases qao k' k with h|h
       ·exact TH.out rfl k' h he
       ·obtain rfl:k'=k:=by omega
        exact HHB.out)
      go_wp2
      go_roundw
      case rel=>exact⟨k+1,by first|rfl|(congr 1),hlt,XT,Ue⟩
      case measure=>simp[intOf];omega
     |false=>
      have MC:=χ (Qr XT.out HP.out.ord.ul k (by have:=wE.out;omega) true)
      have jT:qam (Zi pp s a=({s with m:=Yy s.m k},k,0)):=χ (by
       unfold Zi
       rw[Cu HP.out.ord HIS.out (by rw[iV.out];exact hlt) HO.out HHB.out (TH.out rfl)])
      go_wp2_with (go_at_call 162;go_must (with_reducible refine MC.out.mono ?_);rintro e w3 ⟨he,A2,c2,hv⟩;obtain rfl:=he;have MN:=χ hv;clear hv)
      refine qaf (v:=.tuple #[k,()]) (by simp[results,Tryz.results84,go_sem]) rfl ?_
      rw[jT.out]
      exact⟨rfl,_,MN.out⟩
    ·have aT:(o==(oC:Int)+1)=false:=by simp;exact hor
     have Ue:qam (NoF pp s.m oC (k+1) true):=χ (fun _ k' hk' he=>by
      rcases qao k' k with h|h
      ·exact TH.out rfl k' h he
      ·obtain rfl:k'=k:=by omega
       rw[HO.out]at he
       exact absurd (qau he) hor)
     go_upto_region 5 with fail
     go_quiet (fail)
     have XT:=χ (Sb.out.below (below_drewN (qat _ wr) nq))
     generalize wr.drewN nq=w2 at*
     clear c3 c2 c4 c5 c6 c8 co
     go_wp2
     go_roundw
     case rel=>exact⟨k+1,by first|rfl|(congr 1),hlt,XT,Ue⟩
     case measure=>simp[intOf];omega
   |false=>
    have V7:(k:Int)<(N:Int):=by omega
    have OX:qam (OZ pp s.m a=none):=χ (MB HP.out.ord HIS.out)
    go_wp2
    clear c3 c2 c4 c5 c6 c8
    go_loopw [9] (fun kc wr=>∃n:Nat,kc=.int .i64 n/\n<=g/\qam (RM j i g pp P w0 wr bw y s)/\qam (∀n',n'<n->s.m.own[n']?≠some 0)) (fun kc _=>g-(intOf kc).toNat)
    case atStart=>exact⟨0,rfl,qak _,Sb,χ (fun n' hn'=>by omega)⟩
    case round=>
     exact zpq0
  ·obtain rfl:N=k:=by omega
   have OX:qam (OZ pp s.m a=none):=χ (by
    cases Zo with
    |true=>exact pq HP.out.ord HIS.out (fun k' hk'=>TH.out rfl k' (by rw[<-iV.out];exact hk'))
    |false=>exact MB HP.out.ord HIS.out)
   go_wp2
   clear c3 c2 c4 c5 c6 c8
   go_loopw [9] (fun kc wr=>∃n:Nat,kc=.int .i64 n/\n<=g/\qam (RM j i g pp P w0 wr bw y s)/\qam (∀n',n'<n->s.m.own[n']?≠some 0)) (fun kc _=>g-(intOf kc).toNat)
   case atStart=>exact⟨0,rfl,qak _,Sb,χ (fun n' hn'=>by omega)⟩
   case round=>
    exact zpq0
end Go.Proofs.YtmehhgfbnfbnaaaGreat.Zl

namespace Go.Proofs.YtmehhgfbnfbnaaaGreat.Zl
open Go.RowKit Zq Meta
section
variable {w w0:qar}{bw j i g pp:Nat}{P:Nat->Prop}{y:Rm}{s:PS}
theorem Cw(kd a:Nat)(h1:kd≠1)(h2:kd≠2):
  qan Tryz.prog 87 #[.pointer bw,.int .u8 kd,.int .u16 a] w fun e w'=>e=.returned (.tuple #[(),.int .i64 1])/\w=w':=by
 have e1:((kd:Int) != 1)=true:=by simp;omega
 have e2:((kd:Int) != 2)=true:=by simp;omega
 have e3:¬ (kd:Int)=1:=by omega
 have e4:¬ (kd:Int)=2:=by omega
 clear h1 h2
 go_enter Tryz.func87,Tryz.ntmps87
 go_wp2
 refine qaf (v:=.tuple #[(),.int .i64 1]) (by simp[results,Tryz.results87,go_sem]) rfl ?_
 exact⟨rfl,rfl⟩
theorem bZ(h:RM j i g pp P w0 w bw y s)(hp:Yb j i g pp s)(a:Nat):
  qan Tryz.prog 87 #[.pointer bw,.int .u8 1,.int .u16 a] w fun e w'=>e=.returned (.tuple #[.int .i64 ((YX s 1 a).2.1:Int),.int .i64 ((YX s 1 a).2.2:Int)])/\∃y',RM j i g pp P w0 w' bw y' (YX s 1 a).1:=by
 have MW:i<=64:=by have:=hp.ord.right.R5;rw[hp.ord.il]at this;exact this
 have hil:=hp.ord.il
 have hrl:=hp.ord.rl
 have hi1:1<=i:=by have:=hp.ord.right.YV.i1;simp only at this;omega
 obtain⟨bi,ci,Wo,hci⟩:=Zp h.rv.met.ino (by omega)
 have hA:=(qal Wo).1
 clear Wo hci
 have L8:=χ hA
 have kG:qam (∀u:qar,RM j i g pp P w0 u bw y s->u.cell? ⟨bw,4,none⟩=some (.slice y.x.rA 16 y.x.rc)/\u.cell? ⟨bw,7,none⟩=some (.slice bi i y.x.ic)):=χ (fun u hu=>by
  obtain⟨c4,c5,c6,c7,c8,c9⟩:=hu.rv.cells
  rw[hA,hil]at c7
  rw[hrl]at c4
  exact⟨c4,c7⟩)
 have HIC:qam (∀(u:qar)(q:Nat)(nd:Z9.ZC),RM j i g pp P w0 u bw y s->s.m.ino[q]? =some nd->u.cell? ⟨bi,q*14,none⟩=some (.int .u8 nd.k)):=χ (fun u q nd hu hq=>by
  have hlo:=hu.rv.met.lies.ino
  rw[hA]at hlo
  have:=Yi hlo hp.ord.Vk.ino hq 0 _ (show(Z9.ZX nd)[0]? =some (.int .u8 nd.k)from rfl)
  simpa using this)
 have HV:=χ h
 have HP:=χ hp
 have o7:=χ hil
 have acS:=χ MW
 clear h hp hil hrl hA
 go_enter Tryz.func87,Tryz.ntmps87
 go_wp2
 go_loopw [8] (fun kc wr=>∃k:Nat,kc=.int .i64 k/\k<=i/\qam (RM j i g pp P w0 wr bw y s)/\qam (∀k' n',k'<k->s.m.ino[k']? =some n'->n'.k≠0)) (fun kc _=>i-(intOf kc).toNat)
 case atStart=>exact⟨0,rfl,qak _,HV,χ (fun k' n' hk=>by omega)⟩
 case round=>
  clear HV
  obtain⟨k,rfl,hk,HV,TH⟩:=hrel
  obtain⟨c4,c7⟩:=kG.out _ HV.out
  by_cases hlt:k<i
  ·obtain⟨nd,hnd⟩:∃nd,s.m.ino[k]? =some nd:=⟨_,qaj (by rw[o7.out];exact hlt)⟩
   have ck:=HIC.out _ _ _ HV.out hnd
   have h00:(0:Int)<=(k:Int):=by omega
   have V7:(k:Int)<(i:Int):=by omega
   have hwk:qai.wrap ((k:Int)+1)=((k+1:Nat):Int):=by rw[qae];omega
   by_cases hk0:nd.k=0
   ·have Qz:qam (Vg s.m.ino=some k):=χ (PG hnd hk0 TH.out)
    rw[hk0]at ck
    have hek:¬ (k:Int)=(i:Int):=by omega
    have acT:((k:Int)==(i:Int))=false:=by simp;omega
    obtain⟨R,hR,hrt⟩:∃R,Z8.ZH s.m.rows a=R/\qan Tryz.prog 163 #[.slice y.x.rA 16 y.x.rc,.int .u16 a] wr fun e w'=>∃v,e=.returned (.tuple #[v,.int .i64 R.at_,.int .i64 R.err])/\Z8.Given wr w' v R.rows:=⟨_,rfl,by
     have hr:=HV.out.rv.met.lies.rows
     exact Z8.QW s.m.rows y.x.rA 16 y.x.rc a wr HP.out.ord.rl hr⟩
    have HR:=χ hR
    have bW:=χ hrt
    clear hR hrt hnd hk0
    go_upto_region 9 with(go_at_call 163;go_must (with_reducible refine bW.out.mono ?_);rintro e w2 ⟨v,he,hm,hb⟩;obtain rfl:=he;obtain⟨A3,d3,hv,hA⟩:=YT hm;subst hv;have XT:=χ (HV.out.below hb);have HM:=χ hm;have I6:qam (At (w0.heap.size<=·) A3):=χ (hA.mono fun _ h=>qap HV.out.kept.size h);clear hm hb hA c4 c7 ck)
    obtain⟨er,her⟩:∃er:Nat,R.err=er:=⟨_,rfl⟩
    obtain⟨at2,Xi⟩:∃at2:Nat,R.at_=at2:=⟨_,rfl⟩
    rw[her,Xi]
    by_cases he0:er=0
    ·subst he0
     have Qq:at2<16:=by have:=SV (a:=a) HP.out.ord.right.rows (by rw[HR.out];exact her);rw[HR.out,Xi]at this;exact this
     have hw8:IntKind.u8.wrap (at2:Int)=(at2:Int):=by rw[IntKind.wrap_u8];omega
     have Ct:=χ her
     have HAT:=χ Xi
     have bO:qam (Z9.YP (IP 1 at2)):=χ (Uy (by decide) Qq).2
     clear her Xi Qq
     obtain⟨d4,d5,d6,d7,d8,d9⟩:=XT.out.rv.cells
     have fz:=XT.out.rv.box.frozen 4
     clear d5 d6 d7 d8 d9
     go_upto_region 12 with fail
     have MN:qam (RM j i g pp P w0 (w2.setCell ⟨bw,4,none⟩ (.slice A3 R.rows.length d3)) bw {y with x:={y.x with rA:=A3,rc:=d3}} {s with m:={s.m with rows:=R.rows}}):=χ (XT.out.rows (ZL HM.out (qak _)) I6.out)
     clear d4 fz
     generalize w2.setCell ⟨bw,4,none⟩ (.slice A3 R.rows.length d3)=w3 at*
     obtain⟨d4,d5,d6,d7,d8,d9⟩:=MN.out.rv.cells
     simp only at d7
     rw[L8.out,o7.out]at d7
     have L9:qam (w3.there bi (k*14) 14):=χ (WU (by have:=MN.out.rv.met.ino;simp only at this;rw[L8.out]at this;exact this) (by rw[o7.out];exact hlt))
     have Rq:qam ((#[.int .u8 1,.int .u8 at2,(),(),(),(),(),(),(),(),(),(),(),()]:Array Value).all (·.oneCell')=true):=χ (by kernel_rfl)
     have KH:qam (RM j i g pp P w0 (w3.setCells bi (k*14) [.int .u8 1,.int .u8 at2,(),(),(),(),(),(),(),(),(),(),(),()]) bw {y with x:={y.x with rA:=A3,rc:=d3}} {s with m:={s.m with rows:=R.rows,ino:=s.m.ino.set k (IP 1 at2)}}):=χ (by
      have hcell:Z9.ZX (IP 1 at2)=[.int .u8 1,.int .u8 at2,.int .i64 0,.int .i64 0,.int .i64 0,.int .i64 0,.int .i64 0,.int .i64 0,.int .i64 0,.int .i64 0,.int .i64 0,.int .i64 0,.int .i64 0,.int .i64 0]:=rfl
      rw[<-hcell]
      exact MN.out.inode HP.out.ord.Vk.ino L8.out (by simp only;rw[o7.out];exact hlt) bO.out)
     clear d4 d5 d6 d8 d9
     go_wp2_with (refine qaq rfl 40 (.tmp 77) (.tmp 76) rfl bi (k*14) #[.int .u8 1,.int .u8 at2,(),(),(),(),(),(),(),(),(),(),(),()] rfl rfl L9.out Y9 Rq.out ?_;generalize w3.setCells bi (k*14) [.int .u8 1,.int .u8 at2,.int .i64 0,.int .i64 0,.int .i64 0,.int .i64 0,.int .i64 0,.int .i64 0,.int .i64 0,.int .i64 0,.int .i64 0,.int .i64 0,.int .i64 0,.int .i64 0]=w4 at*)
     refine qaf (v:=.tuple #[k,()]) (by simp[results,Tryz.results87,go_sem]) rfl ?_
     have UI:YX s 1 a=({s with m:={s.m with rows:=(Z8.ZH s.m.rows a).rows,ino:=s.m.ino.set k (IP 1 (Z8.ZH s.m.rows a).at_)}},k,0):=by
      unfold YX
      rw[if_pos (by decide),Qz.out]
      simp only
      rw[if_pos (by rw[HR.out];exact Ct.out)]
     exact zpq2
    ·have Ct:=χ her
     clear her Xi
     have hne:(er:Int)≠0:=by omega
     have hne2:((er:Int) != 0)=true:=by simp;omega
     go_wp2
     refine qaf (v:=.tuple #[(),er]) (by simp[results,Tryz.results87,go_sem]) rfl ?_
     have UI:YX s 1 a=(s,0,er):=by
      unfold YX
      rw[if_pos (by decide),Qz.out]
      simp only
      rw[HR.out,Ct.out,if_neg he0]
     rw[UI]
     exact⟨rfl,_,XT.out⟩
   ·exact zpq1
  ·obtain rfl:i=k:=by omega
   have Cs:qam (YX s 1 a=(s,0,5)):=χ (by
    unfold YX
    rw[if_pos (by decide)]
    have:Vg s.m.ino=none:=by
     unfold Vg
     rw[qaw]
     intro n hn
     obtain⟨k',hk'⟩:=qax.1 hn
     have:=TH.out k' n (by have:=(qag.1 hk').1;rw[o7.out]at this;exact this) hk'
     simpa using this
    rw[this])
   exact zpq3
theorem bY(h:RM j i g pp P w0 w bw y s)(hp:Yb j i g pp s)(a:Nat):
  qan Tryz.prog 87 #[.pointer bw,.int .u8 2,.int .u16 a] w fun e w'=>e=.returned (.tuple #[.int .i64 ((YX s 2 a).2.1:Int),.int .i64 ((YX s 2 a).2.2:Int)])/\∃y',RM j i g pp P w0 w' bw y' (YX s 2 a).1:=by
 have MW:i<=64:=by have:=hp.ord.right.R5;rw[hp.ord.il]at this;exact this
 have hil:=hp.ord.il
 have hrl:=hp.ord.rl
 have hi1:1<=i:=by have:=hp.ord.right.YV.i1;simp only at this;omega
 obtain⟨bi,ci,Wo,hci⟩:=Zp h.rv.met.ino (by omega)
 have hA:=(qal Wo).1
 clear Wo hci
 have L8:=χ hA
 have kG:qam (∀u:qar,RM j i g pp P w0 u bw y s->u.cell? ⟨bw,4,none⟩=some (.slice y.x.rA 16 y.x.rc)/\u.cell? ⟨bw,7,none⟩=some (.slice bi i y.x.ic)):=χ (fun u hu=>by
  obtain⟨c4,c5,c6,c7,c8,c9⟩:=hu.rv.cells
  rw[hA,hil]at c7
  rw[hrl]at c4
  exact⟨c4,c7⟩)
 have HIC:qam (∀(u:qar)(q:Nat)(nd:Z9.ZC),RM j i g pp P w0 u bw y s->s.m.ino[q]? =some nd->u.cell? ⟨bi,q*14,none⟩=some (.int .u8 nd.k)):=χ (fun u q nd hu hq=>by
  have hlo:=hu.rv.met.lies.ino
  rw[hA]at hlo
  have:=Yi hlo hp.ord.Vk.ino hq 0 _ (show(Z9.ZX nd)[0]? =some (.int .u8 nd.k)from rfl)
  simpa using this)
 have HV:=χ h
 have HP:=χ hp
 have o7:=χ hil
 have acS:=χ MW
 clear h hp hil hrl hA
 go_enter Tryz.func87,Tryz.ntmps87
 go_wp2
 go_loopw [8] (fun kc wr=>∃k:Nat,kc=.int .i64 k/\k<=i/\qam (RM j i g pp P w0 wr bw y s)/\qam (∀k' n',k'<k->s.m.ino[k']? =some n'->n'.k≠0)) (fun kc _=>i-(intOf kc).toNat)
 case atStart=>exact⟨0,rfl,qak _,HV,χ (fun k' n' hk=>by omega)⟩
 case round=>
  clear HV
  obtain⟨k,rfl,hk,HV,TH⟩:=hrel
  obtain⟨c4,c7⟩:=kG.out _ HV.out
  by_cases hlt:k<i
  ·obtain⟨nd,hnd⟩:∃nd,s.m.ino[k]? =some nd:=⟨_,qaj (by rw[o7.out];exact hlt)⟩
   have ck:=HIC.out _ _ _ HV.out hnd
   have h00:(0:Int)<=(k:Int):=by omega
   have V7:(k:Int)<(i:Int):=by omega
   have hwk:qai.wrap ((k:Int)+1)=((k+1:Nat):Int):=by rw[qae];omega
   by_cases hk0:nd.k=0
   ·have Qz:qam (Vg s.m.ino=some k):=χ (PG hnd hk0 TH.out)
    rw[hk0]at ck
    have hek:¬ (k:Int)=(i:Int):=by omega
    have acT:((k:Int)==(i:Int))=false:=by simp;omega
    obtain⟨R,hR,hrt⟩:∃R,Z8.ZH s.m.rows a=R/\qan Tryz.prog 163 #[.slice y.x.rA 16 y.x.rc,.int .u16 a] wr fun e w'=>∃v,e=.returned (.tuple #[v,.int .i64 R.at_,.int .i64 R.err])/\Z8.Given wr w' v R.rows:=⟨_,rfl,by
     have hr:=HV.out.rv.met.lies.rows
     exact Z8.QW s.m.rows y.x.rA 16 y.x.rc a wr HP.out.ord.rl hr⟩
    have HR:=χ hR
    have bW:=χ hrt
    clear hR hrt hnd hk0
    go_upto_region 9 with(go_at_call 163;go_must (with_reducible refine bW.out.mono ?_);rintro e w2 ⟨v,he,hm,hb⟩;obtain rfl:=he;obtain⟨A3,d3,hv,hA⟩:=YT hm;subst hv;have XT:=χ (HV.out.below hb);have HM:=χ hm;have I6:qam (At (w0.heap.size<=·) A3):=χ (hA.mono fun _ h=>qap HV.out.kept.size h);clear hm hb hA c4 c7 ck)
    obtain⟨er,her⟩:∃er:Nat,R.err=er:=⟨_,rfl⟩
    obtain⟨at2,Xi⟩:∃at2:Nat,R.at_=at2:=⟨_,rfl⟩
    rw[her,Xi]
    by_cases he0:er=0
    ·subst he0
     have Qq:at2<16:=by have:=SV (a:=a) HP.out.ord.right.rows (by rw[HR.out];exact her);rw[HR.out,Xi]at this;exact this
     have hw8:IntKind.u8.wrap (at2:Int)=(at2:Int):=by rw[IntKind.wrap_u8];omega
     have Ct:=χ her
     have HAT:=χ Xi
     have bO:qam (Z9.YP (IP 2 at2)):=χ (Uy (by decide) Qq).2
     clear her Xi Qq
     obtain⟨d4,d5,d6,d7,d8,d9⟩:=XT.out.rv.cells
     have fz:=XT.out.rv.box.frozen 4
     clear d5 d6 d7 d8 d9
     go_upto_region 12 with fail
     have MN:qam (RM j i g pp P w0 (w2.setCell ⟨bw,4,none⟩ (.slice A3 R.rows.length d3)) bw {y with x:={y.x with rA:=A3,rc:=d3}} {s with m:={s.m with rows:=R.rows}}):=χ (XT.out.rows (ZL HM.out (qak _)) I6.out)
     clear d4 fz
     generalize w2.setCell ⟨bw,4,none⟩ (.slice A3 R.rows.length d3)=w3 at*
     obtain⟨d4,d5,d6,d7,d8,d9⟩:=MN.out.rv.cells
     simp only at d7
     rw[L8.out,o7.out]at d7
     have L9:qam (w3.there bi (k*14) 14):=χ (WU (by have:=MN.out.rv.met.ino;simp only at this;rw[L8.out]at this;exact this) (by rw[o7.out];exact hlt))
     have Rq:qam ((#[.int .u8 2,.int .u8 at2,(),(),(),(),(),(),(),(),(),(),(),()]:Array Value).all (·.oneCell')=true):=χ (by kernel_rfl)
     have KH:qam (RM j i g pp P w0 (w3.setCells bi (k*14) [.int .u8 2,.int .u8 at2,(),(),(),(),(),(),(),(),(),(),(),()]) bw {y with x:={y.x with rA:=A3,rc:=d3}} {s with m:={s.m with rows:=R.rows,ino:=s.m.ino.set k (IP 2 at2)}}):=χ (by
      have hcell:Z9.ZX (IP 2 at2)=[.int .u8 2,.int .u8 at2,.int .i64 0,.int .i64 0,.int .i64 0,.int .i64 0,.int .i64 0,.int .i64 0,.int .i64 0,.int .i64 0,.int .i64 0,.int .i64 0,.int .i64 0,.int .i64 0]:=rfl
      rw[<-hcell]
      exact MN.out.inode HP.out.ord.Vk.ino L8.out (by simp only;rw[o7.out];exact hlt) bO.out)
     clear d4 d5 d6 d8 d9
     go_wp2_with (refine qaq rfl 40 (.tmp 77) (.tmp 76) rfl bi (k*14) #[.int .u8 2,.int .u8 at2,(),(),(),(),(),(),(),(),(),(),(),()] rfl rfl L9.out Y9 Rq.out ?_;generalize w3.setCells bi (k*14) [.int .u8 2,.int .u8 at2,.int .i64 0,.int .i64 0,.int .i64 0,.int .i64 0,.int .i64 0,.int .i64 0,.int .i64 0,.int .i64 0,.int .i64 0,.int .i64 0,.int .i64 0,.int .i64 0]=w4 at*)
     refine qaf (v:=.tuple #[k,()]) (by simp[results,Tryz.results87,go_sem]) rfl ?_
     have UI:YX s 2 a=({s with m:={s.m with rows:=(Z8.ZH s.m.rows a).rows,ino:=s.m.ino.set k (IP 2 (Z8.ZH s.m.rows a).at_)}},k,0):=by
      unfold YX
      rw[if_pos (by decide),Qz.out]
      simp only
      rw[if_pos (by rw[HR.out];exact Ct.out)]
     exact zpq2
    ·have Ct:=χ her
     clear her Xi
     have hne:(er:Int)≠0:=by omega
     have hne2:((er:Int) != 0)=true:=by simp;omega
     go_wp2
     refine qaf (v:=.tuple #[(),er]) (by simp[results,Tryz.results87,go_sem]) rfl ?_
     have UI:YX s 2 a=(s,0,er):=by
      unfold YX
      rw[if_pos (by decide),Qz.out]
      simp only
      rw[HR.out,Ct.out,if_neg he0]
     rw[UI]
     exact⟨rfl,_,XT.out⟩
   ·exact zpq1
  ·obtain rfl:i=k:=by omega
   have Cs:qam (YX s 2 a=(s,0,5)):=χ (by
    unfold YX
    rw[if_pos (by decide)]
    have:Vg s.m.ino=none:=by
     unfold Vg
     rw[qaw]
     intro n hn
     obtain⟨k',hk'⟩:=qax.1 hn
     have:=TH.out k' n (by have:=(qag.1 hk').1;rw[o7.out]at this;exact this) hk'
     simpa using this
    rw[this])
   exact zpq3
end
end Go.Proofs.YtmehhgfbnfbnaaaGreat.Zl

namespace Go.Proofs.YtmehhgfbnfbnaaaGreat.Zl
open Go.RowKit Zq Meta
section
variable {w w0:qar}{bw j i g pp:Nat}{P:Nat->Prop}{y:Rm}{s:PS}
theorem OY(a:Int)(er:Nat)(hh:qan Tryz.prog 92 #[.pointer bw,a] w fun e w'=>e=.returned (.int .i64 er)/\w=w')(h0:er≠0):
  qan Tryz.prog 88 #[.pointer bw,a] w fun e w'=>e=.returned (.int .i64 er)/\w=w':=by
 have HH:=χ hh
 have e1:((er:Int) != 0)=true:=by simp;omega
 have e2:¬ (er:Int)=0:=by omega
 clear hh h0
 go_enter Tryz.func88,Tryz.ntmps88
 go_wp2_with (go_at_call 92;go_must (with_reducible refine HH.out.mono ?_);rintro e w1 ⟨he,hb⟩;obtain rfl:=he;subst hb)
 go_ret
 exact⟨rfl,rfl⟩
theorem Cv(h:RM j i g pp P w0 w bw y s)(hp:Yb j i g pp s)(a:Nat)(nd:Z9.ZC)(ha:s.m.ino[a]? =some nd)(hk:nd.k≠0)(hrel:(Z8.YH s.m.rows (nd.r:Int)).err=0):
  qan Tryz.prog 88 #[.pointer bw,a] w fun e w'=>e=.returned (.int .i64 0)/\∃y',RM j i g pp P w0 w' bw y' {s with m:={s.m with rows:=(Z8.YH s.m.rows (nd.r:Int)).rows,ino:=s.m.ino.set a .z}}:=by
 have halt:=(qag.1 ha).1
 have hon:=hp.ord.Vk.ino nd (List.mem_of_getElem? ha)
 have MW:=hp.ord.right.R5
 have HH:qam (qan Tryz.prog 92 #[.pointer bw,a] w fun e w'=>e=.returned (.int .i64 0)/\w=w'):=χ (by
  have:=SE h a nd ha hp.ord.Vk.ino MW
  rwa[if_neg hk]at this)
 have xw:qam (∀(u:qar),RM j i g pp P w0 u bw y s->qan Tryz.prog 165 #[.slice y.x.rA 16 y.x.rc,nd.r] u fun e w'=>∃v,e=.returned (.tuple #[v,()])/\Z8.Given u w' v (Z8.YH s.m.rows (nd.r:Int)).rows):=χ (fun u hu=>by
  have hr:=hu.rv.met.lies.rows
  have:=Z8.G5 s.m.rows y.x.rA 16 y.x.rc (nd.r:Int) u hp.ord.rl hr
  unfold Z8.Yh at this
  rwa[hrel]at this)
 obtain⟨bi,ci,Wo,hci⟩:=Zp h.rv.met.ino (by omega)
 have hA:=(qal Wo).1
 clear Wo hci
 have L8:=χ hA
 have HF:qam (∀u:qar,RM j i g pp P w0 u bw y s->u.cell? ⟨bw,4,none⟩=some (.slice y.x.rA 16 y.x.rc)/\u.cell? ⟨bw,7,none⟩=some (.slice bi s.m.ino.length y.x.ic)/\u.cell? ⟨bi,a*14+1,none⟩=some (.int .u8 nd.r)):=χ (fun u hu=>by
  obtain⟨c4,c5,c6,c7,c8,c9⟩:=hu.rv.cells
  rw[hA]at c7
  rw[hp.ord.rl]at c4
  have hlo:=hu.rv.met.lies.ino
  rw[hA]at hlo
  have:=Yi hlo hp.ord.Vk.ino ha 1 _ (show(Z9.ZX nd)[1]? =some (.int .u8 nd.r)from rfl)
  simp only[qas]at this
  exact⟨c4,c7,this⟩)
 have hw:qai.wrap (nd.r:Int)=(nd.r:Int):=by rw[qae];have:=hon.r;omega
 have ha0:(0:Int)<=(a:Int):=by omega
 have ha1:(a:Int)<(s.m.ino.length:Int):=by omega
 have HOK:=χ hp.ord.Vk.ino
 have Ol:=χ halt
 have Rq:qam ((#["","",(),(),(),(),(),(),(),(),(),(),(),()]:Array Value).all (·.oneCell')=true):=χ (by kernel_rfl)
 have HV:=χ h
 clear h hp ha hk hrel halt hon MW hA
 generalize Z8.YH s.m.rows (nd.r:Int)=R at*
 generalize nd.r=r at*
 go_enter Tryz.func88,Tryz.ntmps88
 go_upto_region 4 with(go_at_call 92;go_must (with_reducible refine HH.out.mono ?_);rintro e w1 ⟨he,hb⟩;obtain rfl:=he;subst hb)
 have Uv:=χ (HV.out.below (qat _ w).drew)
 have hS0:=HF.out _ Uv.out
 refine wp_region_held_drew (S:=fun u=>u.cell? ⟨bw,4,none⟩=some (.slice y.x.rA 16 y.x.rc)/\u.cell? ⟨bw,7,none⟩=some (.slice bi s.m.ino.length y.x.ic)/\u.cell? ⟨bi,a*14+1,none⟩=some (.int .u8 r)) (by kernel_rfl) hS0 (fun hHeld=>?_)
 clear hS0
 generalize hu0:w.drew=IX at*
 clear hu0
 refine tk 0 ?_ (y:=.inl ⟨by rfl,?hya0⟩) (s:=by exact hHeld) (h:=?V6)
 case hya0=>exact zpq5
 try simp only[qad,qaa,qab,qac]
 refine tk 1 ?_ (y:=.inl ⟨by rfl,?hya1⟩) (s:=by exact hHeld) (h:=?V5)
 case hya1=>exact zpq5
 try simp only[qad,qaa,qab,qac]
 refine tk 2 ?_ (y:=.inl ⟨by rfl,?hya2⟩) (s:=by exact hHeld) (h:=?V4)
 case hya2=>exact zpq5
 try simp only[qad,qaa,qab,qac]
 refine tk 3 ?_ (y:=.inl ⟨by rfl,?hya3⟩) (s:=by exact hHeld) (h:=?TD)
 case hya3=>exact zpq5
 try simp only[qad,qaa,qab,qac]
 refine tk 4 ?_ (y:=.inl ⟨by rfl,?hya4⟩) (s:=by exact hHeld) (h:=?TN)
 case hya4=>exact zpq5
 try simp only[qad,qaa,qab,qac]
 refine tk 5 ?_ (y:=.inl ⟨by rfl,?hya5⟩) (s:=by exact hHeld) (h:=?Vi)
 case hya5=>exact zpq5
 try simp only[qad,qaa,qab,qac]
 refine tk 6 ?_ (y:=.inl ⟨by rfl,?hya6⟩) (s:=by exact hHeld) (h:=?UR)
 case hya6=>exact zpq5
 try simp only[qad,qaa,qab,qac]
 refine tk 7 ?_ (y:=.inl ⟨by rfl,?hya7⟩) (s:=by exact hHeld) (h:=?RU)
 case hya7=>exact zpq5
 try simp only[qad,qaa,qab,qac]
 refine tk 8 ?_ (y:=.inl ⟨by rfl,?hya8⟩) (s:=by exact hHeld) (h:=?RS)
 case hya8=>exact zpq5
 try simp only[qad,qaa,qab,qac]
 refine tk 9 ?_ (y:=.inl ⟨by rfl,?hya9⟩) (s:=by exact hHeld) (h:=?OW)
 case hya9=>exact zpq5
 try simp only[qad,qaa,qab,qac]
 refine tk 10 ?_ (y:=.inl ⟨by rfl,?hya10⟩) (s:=by exact hHeld) (h:=?Vb)
 case hya10=>exact zpq5
 try simp only[qad,qaa,qab,qac]
 refine tk 11 ?_ (y:=.inl ⟨by rfl,?hya11⟩) (s:=by exact hHeld) (h:=?Rb)
 case hya11=>exact zpq5
 try simp only[qad,qaa,qab,qac]
 refine tk 12 ?_ (y:=.inl ⟨by rfl,?hya12⟩) (s:=by exact hHeld) (h:=?Ra)
 case hya12=>exact zpq5
 try simp only[qad,qaa,qab,qac]
 refine tk 13 ?_ (y:=.inl ⟨by rfl,?hya13⟩) (s:=by exact hHeld) (h:=?LQ)
 case hya13=>exact zpq5
 try simp only[qad,qaa,qab,qac]
 refine tk 14 ?_ (y:=.inl ⟨by rfl,?hya14⟩) (s:=by exact hHeld) (h:=?Cf)
 case hya14=>exact zpq5
 try simp only[qad,qaa,qab,qac]
 refine rd 15 (h:=fun K hK=>?_)
 go_simp
 (with_reducible refine(xw.out _ Uv.out).mono ?_)
 rintro e w8 ⟨v,he,hm,hb⟩;obtain rfl:=he;obtain⟨A3,c3,hv,hA⟩:=YT hm;subst hv
 have kC:=χ (Uv.out.below hb)
 have HM:=χ hm
 have I6:qam (At (w0.heap.size<=·) A3):=χ (hA.mono fun _ h=>qap Uv.out.kept.size h)
 clear hm hb hA
 have hS:=HF.out _ kC.out
 go_simp
 refine hK.out _ _ hS (fun Z5=>?_)
 clear hK K hHeld hS
 have hHeld:=Z5
 clear Z5
 try simp only[qad,qaa,qab,qac]
 refine tk 16 ?_ (y:=.inl ⟨by rfl,?hya16⟩) (s:=by exact hHeld) (h:=?uP)
 case hya16=>exact zpq5
 try simp only[qad,qaa,qab,qac]
 refine tk 17 ?_ (y:=.inl ⟨by rfl,?hya17⟩) (s:=by exact hHeld) (h:=?uO)
 case hya17=>exact zpq5
 try simp only[qad,qaa,qab,qac]
 refine tk 18 ?_ (y:=.inl ⟨by rfl,?hya18⟩) (s:=by exact hHeld) (h:=?uN)
 case hya18=>exact zpq5
 try simp only[qad,qaa,qab,qac]
 refine tk 19 ?_ (y:=.inl ⟨by rfl,?hya19⟩) (s:=by exact hHeld) (h:=?iW)
 case hya19=>exact zpq5
 try simp only[qad,qaa,qab,qac]
 refine tk 20 ?_ (y:=.inl ⟨by rfl,?hya20⟩) (s:=by exact hHeld) (h:=?adE)
 case hya20=>exact zpq5
 try simp only[qad,qaa,qab,qac]
 refine wpAnyH_done (by kernel_rfl) ?_ _
 clear hHeld
 obtain⟨d4,d5,d6,d7,d8,d9⟩:=kC.out.rv.cells
 clear d5 d6 d7 d8 d9
 have fz:=kC.out.rv.box.frozen 4
 go_upto_region 6 with fail
 have MN:qam (RM j i g pp P w0 (w8.setCell ⟨bw,4,none⟩ (.slice A3 R.rows.length c3)) bw {y with x:={y.x with rA:=A3,rc:=c3}} {s with m:={s.m with rows:=R.rows}}):=χ (kC.out.rows (ZL HM.out (qak _)) I6.out)
 clear d4 fz
 generalize w8.setCell ⟨bw,4,none⟩ (.slice A3 R.rows.length c3)=w3 at*
 obtain⟨d4,d5,d6,d7,d8,d9⟩:=MN.out.rv.cells
 simp only at d7
 rw[L8.out]at d7
 have L9:qam (w3.there bi (a*14) 14):=χ (WU (by have:=MN.out.rv.met.ino;simp only at this;rw[L8.out]at this;exact this) Ol.out)
 have KH:qam (RM j i g pp P w0 (w3.setCells bi (a*14) ["","",(),(),(),(),(),(),(),(),(),(),(),()]) bw {y with x:={y.x with rA:=A3,rc:=c3}} {s with m:={s.m with rows:=R.rows,ino:=s.m.ino.set a .z}}):=χ (by
  have hcell:Z9.ZX .z=[.int .u8 0,.int .u8 0,.int .i64 0,.int .i64 0,.int .i64 0,.int .i64 0,.int .i64 0,.int .i64 0,.int .i64 0,.int .i64 0,.int .i64 0,.int .i64 0,.int .i64 0,.int .i64 0]:=rfl
  rw[<-hcell]
  exact MN.out.inode HOK.out L8.out Ol.out Z9.YP.z)
 clear d4 d5 d6 d8 d9
 go_wp2_with (refine qaq rfl 40 (.tmp 45) (.tmp 44) rfl bi (a*14) #["","",(),(),(),(),(),(),(),(),(),(),(),()] rfl rfl L9.out Y9 Rq.out ?_;generalize w3.setCells bi (a*14) [.int .u8 0,.int .u8 0,.int .i64 0,.int .i64 0,.int .i64 0,.int .i64 0,.int .i64 0,.int .i64 0,.int .i64 0,.int .i64 0,.int .i64 0,.int .i64 0,.int .i64 0,.int .i64 0]=w4 at*)
 go_ret
 exact⟨rfl,_,KH.out⟩
theorem MF(h:RM j i g pp P w0 w bw y s)(a:Int)(er:Nat)(hh:∀u,RM j i g pp P w0 u bw y s->qan Tryz.prog 92 #[.pointer bw,a] u fun e w'=>e=.returned (.int .i64 er)/\u=w')(h0:er≠0):
  qan Tryz.prog 29 #[.pointer bw,a] w fun e w'=>e=.returned (.tuple #[.agg #["","",(),(),(),(),(),(),(),(),(),(),(),()],.int .u16 0,er])/\RM j i g pp P w0 w' bw y s:=by
 have hb:=Bk.new w 40 ["","",(),(),(),(),(),(),(),(),(),(),(),()]
 have hal:=Z0 w (.cells #["","",(),(),(),(),(),(),(),(),(),(),(),()] 40)
 have HV:=χ (h.below hal)
 have Zk:=χ hb
 have HB:=χ hal
 have HH:=χ (hh _ (h.below hal))
 have HV0:=χ h
 have e1:((er:Int) != 0)=true:=by simp;omega
 have e2:¬ (er:Int)=0:=by omega
 clear h hb hal hh h0
 go_enter Tryz.func29,Tryz.ntmps29
 go_upto_region 1 with fail
 generalize w.alloc (.cells #["","",(),(),(),(),(),(),(),(),(),(),(),()] 40)=U at*
 have Rq:qam ((#["","",(),(),(),(),(),(),(),(),(),(),(),()]:Array Value).all (·.oneCell')=true):=χ (by kernel_rfl)
 have L9:=χ (Jc Zk.out)
 have iK:=χ (AU Zk.out (.int .u8 0) (.int .u8 0) (.int .i64 0) (.int .i64 0) (.int .i64 0) (.int .i64 0) (.int .i64 0) (.int .i64 0) (.int .i64 0) (.int .i64 0) (.int .i64 0) (.int .i64 0) (.int .i64 0) (.int .i64 0))
 have Yt:qam (Below w.heap.size w (U.setCells w.heap.size 0 ["","",(),(),(),(),(),(),(),(),(),(),(),()])):=χ (Meta.below_setCells (Nat.le_refl _) ["","",(),(),(),(),(),(),(),(),(),(),(),()] 0 HB.out)
 go_wp2_with (first|(go_at_call 92;go_must (with_reducible refine HH.out.mono ?_);rintro e w1 ⟨he,hb⟩;obtain rfl:=he;subst hb)|(refine qaq rfl 40 (.tmp 4) (.tmp 13) rfl w.heap.size 0 #["","",(),(),(),(),(),(),(),(),(),(),(),()] rfl rfl L9.out Y9 Rq.out ?_;generalize U.setCells w.heap.size 0 [.int .u8 0,.int .u8 0,.int .i64 0,.int .i64 0,.int .i64 0,.int .i64 0,.int .i64 0,.int .i64 0,.int .i64 0,.int .i64 0,.int .i64 0,.int .i64 0,.int .i64 0,.int .i64 0]=w3 at*))
 obtain⟨z0,z1,z2,z3,z4,z5,z6,z7,z8,z9,YJ,YI,z12,XE⟩:=ZY iK.out
 refine qaf (v:=.tuple #[.agg #["","",(),(),(),(),(),(),(),(),(),(),(),()],.int .u16 0,er]) (by simp[results,Tryz.results29,go_sem,z0,z1,z2,z3,z4,z5,z6,z7,z8,z9,YJ,YI,z12,XE]) rfl ⟨rfl,HV0.out.below Yt.out⟩
theorem wW(h:RM j i g pp P w0 w bw y s)(hp:Yb j i g pp s)(a:Nat)(nd:Z9.ZC)(y0:Z8.Rw)(ha:s.m.ino[a]? =some nd)(hk:nd.k≠0)(hy:s.m.rows[nd.r]? =some y0):
  qan Tryz.prog 29 #[.pointer bw,a] w fun e w'=>e=.returned (.tuple #[.agg (Z9.ZX nd).toArray,.int .u16 y0.lab,()])/\RM j i g pp P w0 w' bw y s:=by
 have halt:=(qag.1 ha).1
 have dD:=(qag.1 hy).1
 have hon:=hp.ord.Vk.ino nd (List.mem_of_getElem? ha)
 have MW:=hp.ord.right.R5
 have hrl:=hp.ord.rl
 have Xf:=hp.ord.Vk.ino
 have hb:=Bk.new w 40 ["","",(),(),(),(),(),(),(),(),(),(),(),()]
 have hal:=Z0 w (.cells #["","",(),(),(),(),(),(),(),(),(),(),(),()] 40)
 have HV0:=χ h
 have HV:=χ (h.below hal)
 have Zk:=χ hb
 have HB:=χ hal
 have HH:qam (qan Tryz.prog 92 #[.pointer bw,a] (w.alloc (.cells #["","",(),(),(),(),(),(),(),(),(),(),(),()] 40)) fun e w'=>e=.returned (.int .i64 0)/\w.alloc (.cells #["","",(),(),(),(),(),(),(),(),(),(),(),()] 40)=w'):=χ (by
  have:=SE (h.below hal) a nd ha Xf MW
  rwa[if_neg hk]at this)
 obtain⟨bi,ci,Wo,hci⟩:=Zp h.rv.met.ino (by omega)
 have hA:=(qal Wo).1
 obtain⟨br,cr,hR0,hcr⟩:=Zp h.rv.met.rows (by omega)
 have hR:=(qal hR0).1
 clear Wo hci hR0 hcr
 have HF:qam (∀u:qar,RM j i g pp P w0 u bw y s->u.cell? ⟨bw,4,none⟩=some (.slice br 16 y.x.rc)/\u.cell? ⟨bw,7,none⟩=some (.slice bi s.m.ino.length y.x.ic)/\u.cell? ⟨bi,a*14+1,none⟩=some (.int .u8 nd.r)/\u.cell? ⟨br,nd.r*2,none⟩=some (.int .u16 y0.lab)/\u.rangeAt bi (a*14) (Z9.ZX nd)):=χ (fun u hu=>by
  obtain⟨c4,c5,c6,c7,c8,c9⟩:=hu.rv.cells
  rw[hA]at c7
  rw[hR,hrl]at c4
  have hlo:=hu.rv.met.lies.ino
  rw[hA]at hlo
  have h1:=Yi hlo Xf ha
  have h2:=h1 1 _ (show(Z9.ZX nd)[1]? =some (.int .u8 nd.r)from rfl)
  simp only[qas]at h1 h2
  have hlr:=hu.rv.met.lies.rows
  rw[hR]at hlr
  rcases Z8.Va hlr with h0|⟨b3,o3,hA3,-,hat⟩
  ·rw[h0]at dD;simp at dD
  ·cases hA3
   have h3:=(hat nd.r y0 hy).1
   rw[qas]at h3
   exact⟨c4,c7,h2,h3,h1⟩)
 have hr0:(0:Int)<=(nd.r:Int):=by omega
 have hr1:(nd.r:Int)<16:=by omega
 have ha0:(0:Int)<=(a:Int):=by omega
 have ha1:(a:Int)<(s.m.ino.length:Int):=by omega
 have TW:=χ (Yu nd hon)
 obtain⟨lab,hlab⟩:∃lab,y0.lab=lab:=⟨_,rfl⟩
 rw[hlab]at HF⊢
 obtain⟨k,rr,l,s_,p⟩:=nd
 obtain⟨p0,p1,p2,p3,p4,p5,p6,p7,p8,p9,MH⟩:=Z9.Xh hon.len
 simp only at MH
 subst MH
 simp only at hr0 hr1 HF
 have hcx:Z9.ZX ⟨k,rr,l,s_,[p0,p1,p2,p3,p4,p5,p6,p7,p8,p9]⟩=[.int .u8 k,.int .u8 rr,.int .i64 l,.int .i64 s_,.int .i64 p0,.int .i64 p1,.int .i64 p2,.int .i64 p3,.int .i64 p4,.int .i64 p5,.int .i64 p6,.int .i64 p7,.int .i64 p8,.int .i64 p9]:=rfl
 obtain⟨cx,hce⟩:∃cx:List Value,cx=[.int .u8 k,.int .u8 rr,.int .i64 l,.int .i64 s_,.int .i64 p0,.int .i64 p1,.int .i64 p2,.int .i64 p3,.int .i64 p4,.int .i64 p5,.int .i64 p6,.int .i64 p7,.int .i64 p8,.int .i64 p9]:=⟨_,rfl⟩
 rw[hcx]at HF TW⊢
 rw[<-hce]at HF TW⊢
 have HL:qam (cx.length=14):=χ (by rw[hce];rfl)
 have H1:qam (∀v∈cx,v.oneCell'=true):=χ (by rw[hce];exact Yj ⟨k,rr,l,s_,[p0,p1,p2,p3,p4,p5,p6,p7,p8,p9]⟩)
 have IQ:=χ hce
 clear h hp ha hk hy halt dD hon MW hrl Xf hb hal hA hR hlab hce hcx
 go_enter Tryz.func29,Tryz.ntmps29
 go_upto_region 1 with fail
 generalize w.alloc (.cells #["","",(),(),(),(),(),(),(),(),(),(),(),()] 40)=U at*
 go_upto_region 4 with(go_at_call 92;go_must (with_reducible refine HH.out.mono ?_);rintro e w1 ⟨he,hb⟩;obtain rfl:=he;subst hb)
 have Uv:=χ (HV.out.below (qat _ U).drew)
 have ql:qam (Bk U.drew w.heap.size 40 ["","",(),(),(),(),(),(),(),(),(),(),(),()]):=χ Zk.out
 have Yt:qam (Below w.heap.size w U.drew):=χ HB.out.drew
 have hS0:=HF.out _ Uv.out
 refine wp_region_held_drew (S:=fun u=>u.cell? ⟨bw,4,none⟩=some (.slice br 16 y.x.rc)/\u.cell? ⟨bw,7,none⟩=some (.slice bi s.m.ino.length y.x.ic)/\u.cell? ⟨bi,a*14+1,none⟩=some (.int .u8 rr)/\u.cell? ⟨br,rr*2,none⟩=some (.int .u16 lab)/\u.rangeAt bi (a*14) cx) (by kernel_rfl) hS0 (fun hHeld=>?_)
 clear hS0 Zk HB
 generalize hu0:U.drew=IX at*
 clear hu0
 refine tk 0 ?_ (y:=.inl ⟨by rfl,?hyb0⟩) (s:=by exact hHeld) (h:=?Ad)
 case hyb0=>exact zpq4
 try simp only[qad,qaa,qab,qac]
 refine tk 1 ?_ (y:=.inl ⟨by rfl,?hyb1⟩) (s:=by exact hHeld) (h:=?Ac)
 case hyb1=>exact zpq4
 try simp only[qad,qaa,qab,qac]
 refine tk 2 ?_ (y:=.inl ⟨by rfl,?hyb2⟩) (s:=by exact hHeld) (h:=?Ab)
 case hyb2=>exact zpq4
 try simp only[qad,qaa,qab,qac]
 refine tk 3 ?_ (y:=.inl ⟨by rfl,?hyb3⟩) (s:=by exact hHeld) (h:=?Aa)
 case hyb3=>exact zpq4
 try simp only[qad,qaa,qab,qac]
 refine tk 4 ?_ (y:=.inl ⟨by rfl,?hyb4⟩) (s:=by exact hHeld) (h:=?zZ)
 case hyb4=>exact zpq4
 try simp only[qad,qaa,qab,qac]
 refine tk 5 ?_ (y:=.inl ⟨by rfl,?hyb5⟩) (s:=by exact hHeld) (h:=?vK)
 case hyb5=>exact zpq4
 try simp only[qad,qaa,qab,qac]
 refine tk 6 ?_ (y:=.inl ⟨by rfl,?hyb6⟩) (s:=by exact hHeld) (h:=?eF)
 case hyb6=>exact zpq4
 try simp only[qad,qaa,qab,qac]
 refine tk 7 _ (y:=(yieldsIf_load_mid (by rfl) 40 _ rfl bi (a*14) rfl cx _ (fun u hu=>hu.2.2.2.2) Tryz.underlying40 rfl TW.out)) (s:=by exact hHeld) (h:=?_)
 try simp only[qad,qaa,qab,qac]
 refine tk 8 ?_ (y:=.inl ⟨by rfl,?hyb8⟩) (s:=by exact hHeld) (h:=?eB)
 case hyb8=>exact zpq4
 try simp only[qad,qaa,qab,qac]
 refine tk 9 ?_ (y:=.inl ⟨by rfl,?hyb9⟩) (s:=by exact hHeld) (h:=?lQ)
 case hyb9=>exact zpq4
 try simp only[qad,qaa,qab,qac]
 refine tk 10 ?_ (y:=.inl ⟨by rfl,?hyb10⟩) (s:=by exact hHeld) (h:=?Bl)
 case hyb10=>exact zpq4
 try simp only[qad,qaa,qab,qac]
 refine tk 11 ?_ (y:=.inl ⟨by rfl,?hyb11⟩) (s:=by exact hHeld) (h:=?Bj)
 case hyb11=>exact zpq4
 try simp only[qad,qaa,qab,qac]
 refine tk 12 ?_ (y:=.inl ⟨by rfl,?hyb12⟩) (s:=by exact hHeld) (h:=?vI)
 case hyb12=>exact zpq4
 try simp only[qad,qaa,qab,qac]
 refine tk 13 ?_ (y:=.inl ⟨by rfl,?hyb13⟩) (s:=by exact hHeld) (h:=?adF)
 case hyb13=>exact zpq4
 try simp only[qad,qaa,qab,qac]
 refine tk 14 ?_ (y:=.inl ⟨by rfl,?hyb14⟩) (s:=by exact hHeld) (h:=?jl)
 case hyb14=>exact zpq4
 try simp only[qad,qaa,qab,qac]
 refine tk 15 ?_ (y:=.inl ⟨by rfl,?hyb15⟩) (s:=by exact hHeld) (h:=?abp)
 case hyb15=>exact zpq4
 try simp only[qad,qaa,qab,qac]
 refine tk 16 ?_ (y:=.inl ⟨by rfl,?hyb16⟩) (s:=by exact hHeld) (h:=?adG)
 case hyb16=>exact zpq4
 try simp only[qad,qaa,qab,qac]
 refine tk 17 ?_ (y:=.inl ⟨by rfl,?hyb17⟩) (s:=by exact hHeld) (h:=?adH)
 case hyb17=>exact zpq4
 try simp only[qad,qaa,qab,qac]
 refine tk 18 ?_ (y:=.inl ⟨by rfl,?hyb18⟩) (s:=by exact hHeld) (h:=?adI)
 case hyb18=>exact zpq4
 try simp only[qad,qaa,qab,qac]
 refine tk 19 ?_ (y:=.inl ⟨by rfl,?hyb19⟩) (s:=by exact hHeld) (h:=?adJ)
 case hyb19=>exact zpq4
 try simp only[qad,qaa,qab,qac]
 refine tk 20 ?_ (y:=.inl ⟨by rfl,?hyb20⟩) (s:=by exact hHeld) (h:=?adK)
 case hyb20=>exact zpq4
 try simp only[qad,qaa,qab,qac]
 refine tk 21 ?_ (y:=.inl ⟨by rfl,?hyb21⟩) (s:=by exact hHeld) (h:=?adL)
 case hyb21=>exact zpq4
 try simp only[qad,qaa,qab,qac]
 refine tk 22 ?_ (y:=.inl ⟨by rfl,?hyb22⟩) (s:=by exact hHeld) (h:=?adM)
 case hyb22=>exact zpq4
 try simp only[qad,qaa,qab,qac]
 refine tk 23 ?_ (y:=.inl ⟨by rfl,?hyb23⟩) (s:=by exact hHeld) (h:=?adN)
 case hyb23=>exact zpq4
 try simp only[qad,qaa,qab,qac]
 refine tk 24 ?_ (y:=.inl ⟨by rfl,?hyb24⟩) (s:=by exact hHeld) (h:=?adO)
 case hyb24=>exact zpq4
 try simp only[qad,qaa,qab,qac]
 refine rd 25 (h:=fun K hK=>?_)
 rw[if_pos (by rfl)]
 refine wp_store_mid 40 _ _ rfl w.heap.size 0 cx.toArray rfl rfl (MQ ql.out rfl HL.out) TW.out (all_oneCell_toArray H1.out) ?_
 simp only[qad]
 have oL:=FI ql.out rfl cx HL.out
 have hbs:Below w.heap.size w (IX.setCells w.heap.size 0 cx):=Meta.below_setCells (Nat.le_refl _) cx 0 Yt.out
 have Qo:=χ (HV0.out.below hbs)
 have hS:=HF.out _ Qo.out
 refine hK.out _ _ hS (fun Z5=>?_)
 clear hK K hHeld hS
 have hHeld:=Z5
 clear Z5
 try simp only[qad,qaa,qab,qac]
 refine tk 26 ?_ (y:=.inl ⟨by rfl,?hyb26⟩) (s:=by exact hHeld) (h:=?adP)
 case hyb26=>exact zpq4
 try simp only[qad,qaa,qab,qac]
 refine tk 27 ?_ (y:=.inl ⟨by rfl,?hyb27⟩) (s:=by exact hHeld) (h:=?adQ)
 case hyb27=>exact zpq4
 try simp only[qad,qaa,qab,qac]
 refine wpAnyH_done (by kernel_rfl) ?_ _
 clear hHeld
 have ZB:=χ oL
 clear oL
 obtain rfl:=IQ.out
 obtain⟨z0,z1,z2,z3,z4,z5,z6,z7,z8,z9,YJ,YI,z12,XE⟩:=ZY ZB.out
 go_wp2
 refine qaf (v:=.tuple #[.agg #[.int .u8 k,.int .u8 rr,l,s_,p0,p1,p2,p3,p4,p5,p6,p7,p8,p9],.int .u16 lab,()]) (by simp[results,Tryz.results29,go_sem,z0,z1,z2,z3,z4,z5,z6,z7,z8,z9,YJ,YI,z12,XE]) rfl ⟨rfl,Qo.out⟩
end
end Go.Proofs.YtmehhgfbnfbnaaaGreat.Zl
