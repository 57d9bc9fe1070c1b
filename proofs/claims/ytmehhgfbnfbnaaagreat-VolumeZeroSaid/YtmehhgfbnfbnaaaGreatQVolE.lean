import Derived.Test.YtmehhgfbnfbnaaaGreatQVolD
import Derived.Test.YtmehhgfbnfbnaaaGreatQTk
set_option maxRecDepth 100000
set_option maxHeartbeats 25600000
open List renaming setIfInBounds_toArray->qaa,set_cons_zero->qab,set_cons_succ->qac,getElem?_eq_some_iff->qae,getElem?_eq_getElem->qag,findIdx?_eq_some_iff_getElem->qam,range->qap,findSome?_eq_none_iff->qaq
open Go.Act renaming put->qad
open Go.IntKind renaming wrap_i64->qaf,i64->qai
open Int renaming natCast_mul->qah
open Go renaming bodyPost_ret->qaj,Calls->qal,World->qao
open Nat renaming mul_le_mul_right->qak,lt_or_ge->qan
namespace Go.Proofs.YtmehhgfbnfbnaaaGreat.Y7
open Go.RowKit Zc Meta
section
variable {pp a q:Nat}{m:Meta.Met}
def UL(pp:Nat)(m:Meta.Met)(a q:Nat):Option Nat:=
 match m.own[q]? with
 |some o=>if 0<o then(match m.rows[(o-1).toNat]? with
  |some y=>if y.lab=a then Bits.fst m.used ((q:Int)*(pp:Int)) ((q:Int)*(pp:Int)+(pp:Int)) false (8*m.used.length)else none
  |none=>none)else none
 |none=>none
def RS(pp:Nat)(m:Meta.Met)(a:Nat):Option Nat:=(qap m.own.length).findSome? (UL pp m a)
theorem Fy{n:Nat}(hq:q<m.own.length)(h:UL pp m a q=some n)(h0:∀k,k<q->UL pp m a k=none):RS pp m a=some n:=by
 unfold RS
 obtain⟨k,hk⟩:∃k,m.own.length=q+(1+k):=⟨m.own.length-(q+1),by omega⟩
 have e:qap m.own.length=qap q++(q::(qap k).map (q+1+·)):=by
  rw[hk,List.range_add,Nat.add_comm 1,List.range_succ_eq_map]
  simp[Nat.add_comm,Nat.add_left_comm,Function.comp_def]
 rw[e,List.findSome?_append,qaq.2 (fun k hk=>h0 k (List.mem_range.1 hk))]
 simp[h]
theorem PZ(h0:∀k,k<m.own.length->UL pp m a k=none):RS pp m a=none:=
 qaq.2 (fun k hk=>h0 k (List.mem_range.1 hk))
theorem KJ(h:m.own[q]? =some 0):UL pp m a q=none:=by unfold UL;rw[h];rfl
theorem MH{r:Nat}{y:Z8.Rw}(h:m.own[q]? =some ((r:Int)+1))(hy:m.rows[r]? =some y):UL pp m a q=if y.lab=a then Bits.fst m.used ((q:Int)*(pp:Int)) ((q:Int)*(pp:Int)+(pp:Int)) false (8*m.used.length)else none:=by
 unfold UL
 rw[h]
 simp only
 rw[if_pos (by omega),show((r:Int)+1-1).toNat=r by omega,hy]
theorem T9{j i g:Nat}(Y8:VG j i g pp){P:Nat->Prop}{w:qao}{bv bm b bj c:Nat}{x:Meta.Mem}{be:Value}{A:Option Addr}{dead:Bool}(h:Vs P w bv x m bm (ZY j i g pp b bj be A c dead))(a:Nat)(hl:m.rows.length=16)(hg:m.own.length=g)(hu:m.used.length=64)(hown:∀(q:Nat)(o:Int),m.own[q]? =some o->o=0\/∃(r:Nat)(y:Z8.Rw),o=(r:Int)+1/\m.rows[r]? =some y):
  qal Tryz.prog 102 #[.pointer bv,.int .u16 a] w fun e w'=>e=.returned (.tuple #[.int .i64 (((RS pp m a).getD 0:Nat):Int),.bool (RS pp m a).isSome])/\Below w.heap.size w w':=by
 have UC:g<=64:=by have:=Y8.v.g2;omega
 have WV:=Y8.v.gp
 have I8:∀q,q<g->(q:Int)*(pp:Int)+(pp:Int)<=512:=fun q hq=>by
  have h1:(q+1)*pp<=g*pp:=qak _ hq
  rw[<-qah]at WV
  rw[<-qah]
  rw[Nat.add_mul,Nat.one_mul]at h1
  omega
 have HV:=χ h
 have HO:=χ hown
 have HG:=χ hg
 have HU:=χ hu
 have HQP:=χ I8
 have eX:Hid (∀(u:qao)(q r:Nat)(y:Z8.Rw),Below w.heap.size w u->m.own[q]? =some ((r:Int)+1)->m.rows[r]? =some y->qal Tryz.prog 172 #[.pointer bv,.int .i64 q] u fun e w'=>e=.returned (.int .u16 y.lab)/\Below u.heap.size u w'):=χ (fun u q r y hb h1 h2=>by
  refine(KH (h.below hb) q r y h1 h2 hl (by omega)).mono ?_
  rintro e w' ⟨he,k,rfl⟩
  exact⟨he,below_drewN (Below.refl _ _) k⟩)
 have mf:Hid (∀(u:qao)(s t:Int),Below w.heap.size w u->s<=512->qal Tryz.prog 173 #[.slice x.uA 64 x.uc,s,t,false] u fun e w'=>e=.returned (.tuple #[.int .i64 (((Bits.fst m.used s t false (8*m.used.length)).getD 0:Nat):Int),.bool (Bits.fst m.used s t false (8*m.used.length)).isSome])/\Below u.heap.size u w'):=χ (fun u s t hb hs=>by
  have:=Bits.NL m.used x.uA 64 x.uc u.heap.size s t false u hu ((h.below hb).met.lies.used) (by omega) (by omega)
  refine this.mono ?_
  rintro e w' ⟨he,k,rfl⟩
  exact⟨he,below_drewN (Below.refl _ _) k⟩)
 clear h hown hl hu WV
 obtain⟨c0,c1,c2,c3,c4⟩:=HV.out.cells
 obtain⟨b2,o2,hA,-⟩:=Y3 HV.out.met.lies.own (by rw[Z9.Zp,hg];have:=Y8.v.g1;omega)
 rw[hg,hA]at c1
 have HA:=χ hA
 clear hA
 have Ah:=χ UC
 clear hg UC I8 Y8
 obtain⟨res,hres⟩:∃res,RS pp m a=res:=⟨_,rfl⟩
 rw[hres]
 have KS:=χ hres
 clear hres
 go_enter Tryz.func102,Tryz.ntmps102
 go_wp2
 clear c0 c1 c2 c3 c4
 go_loopw [6,7,8,9,10,18] (fun _ _ _ _ _ kc wr=>∃q:Nat,kc=.int .i64 q/\q<=g/\Hid (Below w.heap.size w wr)/\Hid (∀k,k<q->UL pp m a k=none)) (fun _ _ _ _ _ kc _=>g-(intOf kc).toNat)
 case atStart=>exact⟨0,rfl,Nat.zero_le _,χ (Below.refl _ _),χ (fun k hk=>by omega)⟩
 case round=>
  obtain⟨q,rfl,hq,HB,UJ⟩:=hrel
  have TI:=χ (HV.out.below HB.out)
  obtain⟨c0,c1,c2,c3,c4⟩:=TI.out.cells
  obtain⟨g0,g1,g2,g3⟩:=TI.out.Yr
  by_cases hlt:q<g
  ·obtain⟨o,ho⟩:∃o,m.own[q]? =some o:=⟨_,qag (by rw[HG.out];exact hlt)⟩
   have hlo:=TI.out.met.lies.own
   rw[HA.out]at hlo c1
   have hco:=Yy hlo ho
   rw[HG.out]at c1
   rw[HU.out]at c2
   have I8:=HQP.out q hlt
   have hq0:(0:Int)<=(q:Int):=by omega
   have Wz:(q:Int)<(g:Int):=by omega
   have iy:qai.wrap ((q:Int)+1)=((q+1:Nat):Int):=by rw[qaf];have:=Ah.out;omega
   have hpos:(0:Int)<=(q:Int)*(pp:Int):=Int.mul_nonneg (by omega) (by omega)
   have hmw:qai.wrap ((q:Int)*(pp:Int))=(q:Int)*(pp:Int):=by rw[qaf];omega
   have haw:qai.wrap ((q:Int)*(pp:Int)+(pp:Int))=(q:Int)*(pp:Int)+(pp:Int):=by rw[qaf];omega
   rcases HO.out q o ho with h0|⟨r,y,h1,hy⟩
   ·subst h0
    have Vj:Hid (∀k,k<q+1->UL pp m a k=none):=χ (fun k hk=>by
     rcases qan k q with h|h
     ·exact UJ.out k h
     ·obtain rfl:k=q:=by omega
      exact KJ ho)
    clear ho hlo UJ hpos I8 hmw haw g0 g1 g2 g3 c0 c2 c3 c4
    go_wp2
    go_roundw
    case rel=>exact⟨q+1,by first|rfl|(congr 1),hlt,HB,Vj⟩
    case measure=>simp[intOf];omega
   ·subst h1
    have hgr:=MH (pp:=pp) (a:=a) ho hy
    have hne0:((r:Int)+1==0)=false:=by simp;omega
    have iw:=χ (eX.out wr q r y HB.out ho hy)
    have HOQ:=χ ho
    clear ho hlo
    by_cases hla:y.lab=a
    ·subst hla
     have kM:UL pp m y.lab q=Bits.fst m.used ((q:Int)*(pp:Int)) ((q:Int)*(pp:Int)+(pp:Int)) false (8*m.used.length):=by rw[hgr,if_pos rfl]
     have ma:=χ (fun u hu=>mf.out u ((q:Int)*(pp:Int)) ((q:Int)*(pp:Int)+(pp:Int)) hu (by omega))
     generalize hfo:Bits.fst m.used ((q:Int)*(pp:Int)) ((q:Int)*(pp:Int)+(pp:Int)) false (8*m.used.length)=fo at*
     have kL:=χ kM
     clear kM hgr hfo hpos I8 hy
     go_upto_region 6 with(go_at_call 172;(with_reducible refine iw.out.mono ?_);rintro e w2 ⟨he,hb⟩;obtain rfl:=he;have HB2:=χ (HB.out.trans (hb.mono HB.out.size));clear hb c0 c1 c2 c3 c4 g0 g1 g2 g3;obtain⟨g0,g1,g2,g3⟩:=(HV.out.below HB2.out).Yr)
     clear g0 g1 g2 g3
     have hS0:Below w.heap.size w w2.drew:=HB2.out.drew
     refine wp_region_held_drew (S:=fun u=>Below w.heap.size w u) (by kernel_rfl) hS0 (fun hHeld=>?_)
     clear hS0
     generalize hu0:w2.drew=NS at*
     clear hu0
     refine tk 0 ?_ (y:=.inl ⟨by rfl,?hya0⟩) (s:=by exact hHeld) (h:=?V4)
     case hya0=>(intro u hu;obtain⟨c0,c1,c2,c3,c4⟩:=(HV.out.below hu).cells;obtain⟨g0,g1,g2,g3⟩:=(HV.out.below hu).Yr;rw[HU.out]at c2;clear hu c0 c1 c3 c4;go_simp<;>with_reducible rfl)
     try simp only[qad,qaa,qab,qac]
     refine tk 1 ?_ (y:=.inl ⟨by rfl,?hya1⟩) (s:=by exact hHeld) (h:=?Wn)
     case hya1=>(intro u hu;obtain⟨c0,c1,c2,c3,c4⟩:=(HV.out.below hu).cells;obtain⟨g0,g1,g2,g3⟩:=(HV.out.below hu).Yr;rw[HU.out]at c2;clear hu c0 c1 c3 c4;go_simp<;>with_reducible rfl)
     try simp only[qad,qaa,qab,qac]
     refine tk 2 ?_ (y:=.inl ⟨by rfl,?hya2⟩) (s:=by exact hHeld) (h:=?Wm)
     case hya2=>(intro u hu;obtain⟨c0,c1,c2,c3,c4⟩:=(HV.out.below hu).cells;obtain⟨g0,g1,g2,g3⟩:=(HV.out.below hu).Yr;rw[HU.out]at c2;clear hu c0 c1 c3 c4;go_simp<;>with_reducible rfl)
     try simp only[qad,qaa,qab,qac]
     refine tk 3 ?_ (y:=.inl ⟨by rfl,?hya3⟩) (s:=by exact hHeld) (h:=?Tp)
     case hya3=>(intro u hu;obtain⟨c0,c1,c2,c3,c4⟩:=(HV.out.below hu).cells;obtain⟨g0,g1,g2,g3⟩:=(HV.out.below hu).Yr;rw[HU.out]at c2;clear hu c0 c1 c3 c4;go_simp<;>with_reducible rfl)
     try simp only[qad,qaa,qab,qac]
     refine tk 4 ?_ (y:=.inl ⟨by rfl,?hya4⟩) (s:=by exact hHeld) (h:=?TJ)
     case hya4=>(intro u hu;obtain⟨c0,c1,c2,c3,c4⟩:=(HV.out.below hu).cells;obtain⟨g0,g1,g2,g3⟩:=(HV.out.below hu).Yr;rw[HU.out]at c2;clear hu c0 c1 c3 c4;go_simp<;>with_reducible rfl)
     try simp only[qad,qaa,qab,qac]
     refine tk 5 ?_ (y:=.inl ⟨by rfl,?hya5⟩) (s:=by exact hHeld) (h:=?Vw)
     case hya5=>(intro u hu;obtain⟨c0,c1,c2,c3,c4⟩:=(HV.out.below hu).cells;obtain⟨g0,g1,g2,g3⟩:=(HV.out.below hu).Yr;rw[HU.out]at c2;clear hu c0 c1 c3 c4;go_simp<;>with_reducible rfl)
     try simp only[qad,qaa,qab,qac]
     refine tk 6 ?_ (y:=.inl ⟨by rfl,?hya6⟩) (s:=by exact hHeld) (h:=?Vg)
     case hya6=>(intro u hu;obtain⟨c0,c1,c2,c3,c4⟩:=(HV.out.below hu).cells;obtain⟨g0,g1,g2,g3⟩:=(HV.out.below hu).Yr;rw[HU.out]at c2;clear hu c0 c1 c3 c4;go_simp<;>with_reducible rfl)
     try simp only[qad,qaa,qab,qac]
     refine tk 7 ?_ (y:=.inl ⟨by rfl,?hya7⟩) (s:=by exact hHeld) (h:=?QQ)
     case hya7=>(intro u hu;obtain⟨c0,c1,c2,c3,c4⟩:=(HV.out.below hu).cells;obtain⟨g0,g1,g2,g3⟩:=(HV.out.below hu).Yr;rw[HU.out]at c2;clear hu c0 c1 c3 c4;go_simp<;>with_reducible rfl)
     try simp only[qad,qaa,qab,qac]
     refine tk 8 ?_ (y:=.inl ⟨by rfl,?hya8⟩) (s:=by exact hHeld) (h:=?RJ)
     case hya8=>(intro u hu;obtain⟨c0,c1,c2,c3,c4⟩:=(HV.out.below hu).cells;obtain⟨g0,g1,g2,g3⟩:=(HV.out.below hu).Yr;rw[HU.out]at c2;clear hu c0 c1 c3 c4;go_simp<;>with_reducible rfl)
     try simp only[qad,qaa,qab,qac]
     refine tk 9 ?_ (y:=.inl ⟨by rfl,?hya9⟩) (s:=by exact hHeld) (h:=?Qg)
     case hya9=>(intro u hu;obtain⟨c0,c1,c2,c3,c4⟩:=(HV.out.below hu).cells;obtain⟨g0,g1,g2,g3⟩:=(HV.out.below hu).Yr;rw[HU.out]at c2;clear hu c0 c1 c3 c4;go_simp<;>with_reducible rfl)
     try simp only[qad,qaa,qab,qac]
     refine tk 10 ?_ (y:=.inl ⟨by rfl,?hya10⟩) (s:=by exact hHeld) (h:=?UG)
     case hya10=>(intro u hu;obtain⟨c0,c1,c2,c3,c4⟩:=(HV.out.below hu).cells;obtain⟨g0,g1,g2,g3⟩:=(HV.out.below hu).Yr;rw[HU.out]at c2;clear hu c0 c1 c3 c4;go_simp<;>with_reducible rfl)
     try simp only[qad,qaa,qab,qac]
     refine tk 11 ?_ (y:=.inl ⟨by rfl,?hya11⟩) (s:=by exact hHeld) (h:=?Rf)
     case hya11=>(intro u hu;obtain⟨c0,c1,c2,c3,c4⟩:=(HV.out.below hu).cells;obtain⟨g0,g1,g2,g3⟩:=(HV.out.below hu).Yr;rw[HU.out]at c2;clear hu c0 c1 c3 c4;go_simp<;>with_reducible rfl)
     try simp only[qad,qaa,qab,qac]
     refine tk 12 ?_ (y:=.inl ⟨by rfl,?hya12⟩) (s:=by exact hHeld) (h:=?Qf)
     case hya12=>(intro u hu;obtain⟨c0,c1,c2,c3,c4⟩:=(HV.out.below hu).cells;obtain⟨g0,g1,g2,g3⟩:=(HV.out.below hu).Yr;rw[HU.out]at c2;clear hu c0 c1 c3 c4;go_simp<;>with_reducible rfl)
     try simp only[qad,qaa,qab,qac]
     refine tk 13 ?_ (y:=.inl ⟨by rfl,?hya13⟩) (s:=by exact hHeld) (h:=?KP)
     case hya13=>(intro u hu;obtain⟨c0,c1,c2,c3,c4⟩:=(HV.out.below hu).cells;obtain⟨g0,g1,g2,g3⟩:=(HV.out.below hu).Yr;rw[HU.out]at c2;clear hu c0 c1 c3 c4;go_simp<;>with_reducible rfl)
     try simp only[qad,qaa,qab,qac]
     refine rd 14 (h:=fun K hK=>?_)
     go_simp
     (with_reducible refine(ma.out _ hHeld).mono ?_)
     rintro e w3 ⟨he,hb⟩;obtain rfl:=he
     have hS:=hHeld.trans (hb.mono hHeld.size)
     clear hb
     go_simp
     refine hK.out _ _ hS (fun Z4=>?_)
     clear hK K hHeld hS
     have hHeld:=Z4
     clear Z4
     try simp only[qad,qaa,qab,qac]
     refine tk 15 ?_ (y:=.inl ⟨by rfl,?hya15⟩) (s:=by exact hHeld) (h:=?Ag)
     case hya15=>(intro u hu;obtain⟨c0,c1,c2,c3,c4⟩:=(HV.out.below hu).cells;obtain⟨g0,g1,g2,g3⟩:=(HV.out.below hu).Yr;rw[HU.out]at c2;clear hu c0 c1 c3 c4;go_simp<;>with_reducible rfl)
     try simp only[qad,qaa,qab,qac]
     refine tk 16 ?_ (y:=.inl ⟨by rfl,?hya16⟩) (s:=by exact hHeld) (h:=?Af)
     case hya16=>(intro u hu;obtain⟨c0,c1,c2,c3,c4⟩:=(HV.out.below hu).cells;obtain⟨g0,g1,g2,g3⟩:=(HV.out.below hu).Yr;rw[HU.out]at c2;clear hu c0 c1 c3 c4;go_simp<;>with_reducible rfl)
     try simp only[qad,qaa,qab,qac]
     refine tk 17 ?_ (y:=.inl ⟨by rfl,?hya17⟩) (s:=by exact hHeld) (h:=?Ae)
     case hya17=>(intro u hu;obtain⟨c0,c1,c2,c3,c4⟩:=(HV.out.below hu).cells;obtain⟨g0,g1,g2,g3⟩:=(HV.out.below hu).Yr;rw[HU.out]at c2;clear hu c0 c1 c3 c4;go_simp<;>with_reducible rfl)
     try simp only[qad,qaa,qab,qac]
     refine tk 18 ?_ (y:=.inl ⟨by rfl,?hya18⟩) (s:=by exact hHeld) (h:=?Ad)
     case hya18=>(intro u hu;obtain⟨c0,c1,c2,c3,c4⟩:=(HV.out.below hu).cells;obtain⟨g0,g1,g2,g3⟩:=(HV.out.below hu).Yr;rw[HU.out]at c2;clear hu c0 c1 c3 c4;go_simp<;>with_reducible rfl)
     try simp only[qad,qaa,qab,qac]
     refine tk 19 ?_ (y:=.inl ⟨by rfl,?hya19⟩) (s:=by exact hHeld) (h:=?sj)
     case hya19=>(intro u hu;obtain⟨c0,c1,c2,c3,c4⟩:=(HV.out.below hu).cells;obtain⟨g0,g1,g2,g3⟩:=(HV.out.below hu).Yr;rw[HU.out]at c2;clear hu c0 c1 c3 c4;go_simp<;>with_reducible rfl)
     try simp only[qad,qaa,qab,qac]
     refine wpAnyH_done (by kernel_rfl) ?_ _
     have HB3:=χ hHeld
     clear hHeld
     cases fo with
     |none=>
      have Vj:Hid (∀k,k<q+1->UL pp m y.lab k=none):=χ (fun k hk=>by
       rcases qan k q with h|h
       ·exact UJ.out k h
       ·obtain rfl:k=q:=by omega
        exact kL.out)
      clear hmw haw
      go_wp2
      go_roundw
      case rel=>exact⟨q+1,by first|rfl|(congr 1),hlt,HB3,Vj⟩
      case measure=>simp[intOf];omega
     |some n0=>
      have hun:res=some n0:=by rw[<-KS.out];exact Fy (by rw[HG.out];exact hlt) kL.out UJ.out
      subst hun
      clear hmw haw
      go_wp2
      refine qaj (v:=.tuple #[n0,true]) (by simp[results,Tryz.results102,go_sem]) rfl ?_
      exact⟨rfl,HB3.out⟩
    ·have Vj:Hid (∀k,k<q+1->UL pp m a k=none):=χ (fun k hk=>by
      rcases qan k q with h|h
      ·exact UJ.out k h
      ·obtain rfl:k=q:=by omega
       rw[hgr,if_neg hla])
     have hln:((y.lab:Int)==(a:Int))=false:=by simp;omega
     have abn:¬ (y.lab:Int)=(a:Int):=by omega
     clear hgr UJ hpos I8 hmw haw g0 g1 g2 g3 c0 c2 c3 c4 hy hla
     go_wp2_with (go_at_call 172;(with_reducible refine iw.out.mono ?_);rintro e w2 ⟨he,hb⟩;obtain rfl:=he;have HB2:=χ (HB.out.trans (hb.mono HB.out.size));clear hb)
     go_roundw
     case rel=>exact⟨q+1,by first|rfl|(congr 1),hlt,HB2,Vj⟩
     case measure=>simp[intOf];omega
  ·obtain rfl:q=g:=by omega
   have hun:res=none:=by rw[<-KS.out];exact PZ (by rw[HG.out];exact UJ.out)
   subst hun
   go_wp2
   refine qaj (v:=.tuple #[(),false]) (by simp[results,Tryz.results102,go_sem]) rfl ?_
   exact⟨rfl,HB.out⟩
end
end Go.Proofs.YtmehhgfbnfbnaaaGreat.Y7

namespace Go.Proofs.YtmehhgfbnfbnaaaGreat.Y7
open Go.RowKit Zc Meta
section
variable {l:List Int}{q:Nat}
def Vx(l:List Int):Option Nat:=l.findIdx? (· ==0)
theorem RD(h:l[q]? =some 0)(h0:∀k,k<q->l[k]?≠some 0):Vx l=some q:=by
 obtain⟨h1,h2⟩:=qae.1 h
 refine qam.2 ⟨h1,by simp[h2],fun k hk=>?_⟩
 have:=h0 k hk
 rw[qag (by omega)]at this
 simpa using this
theorem UH(h:Vx l=some q):l[q]? =some 0:=by
 obtain⟨h1,h2,-⟩:=qam.1 h
 rw[qag h1]
 simpa using h2
theorem RB(h0:∀k,k<l.length->l[k]?≠some 0):Vx l=none:=by
 refine List.findIdx?_eq_none_iff.2 (fun x hx=>?_)
 obtain⟨k,hk⟩:=List.getElem?_of_mem hx
 have:=h0 k (qae.1 hk).1
 rw[hk]at this
 simpa using this
def eY(o:Option Nat):Int:=match o with|some q=>(q:Int)|none=> -1
theorem P6(l:List Int)(b o c n:Nat)(w:qao)(hl:l.length=n)(hr:Rd w w.heap.size (some ⟨b,o,none⟩) (Z9.ZM l))(hm:n<=1000000):
  qal Tryz.prog 174 #[.slice (some ⟨b,o,none⟩) n c,()] w fun e w'=>e=.returned (.int .i64 (eY (Vx l)))/\w=w':=by
 have HL:=χ hl
 have HR:=χ hr
 have HM:=χ hm
 clear hl hr hm
 obtain⟨res,hres⟩:∃res,Vx l=res:=⟨_,rfl⟩
 rw[hres]
 have KS:=χ hres
 clear hres
 go_enter Tryz.func174,Tryz.ntmps174
 go_wp2
 go_loopw [5,8] (fun _ kc wr=>∃q:Nat,kc=.int .i64 q/\q<=n/\wr=w/\Hid (∀k,k<q->l[k]?≠some 0)) (fun _ kc _=>n-(intOf kc).toNat)
 case atStart=>exact⟨0,rfl,Nat.zero_le _,rfl,χ (fun k hk=>by omega)⟩
 case round=>
  obtain⟨q,rfl,hq,rfl,UJ⟩:=hrel
  by_cases hlt:q<n
  ·obtain⟨z,hz⟩:∃z,l[q]? =some z:=⟨_,qag (by rw[HL.out];exact hlt)⟩
   have hco:=Yy HR.out hz
   have hq0:(0:Int)<=(q:Int):=by omega
   have Wz:(q:Int)<(n:Int):=by omega
   have iy:qai.wrap ((q:Int)+1)=((q+1:Nat):Int):=by rw[qaf];have:=HM.out;omega
   by_cases h0:z=0
   ·subst h0
    have hun:res=some q:=by rw[<-KS.out];exact RD hz UJ.out
    subst hun
    clear hz
    go_wp2
    go_ret
    exact⟨rfl,rfl⟩
   ·have Vj:Hid (∀k,k<q+1->l[k]?≠some 0):=χ (fun k hk=>by
     rcases qan k q with h|h
     ·exact UJ.out k h
     ·obtain rfl:k=q:=by omega
      rw[hz]
      simpa using h0)
    have hz0:¬ (0:Int)=z:=fun h=>h0 h.symm
    have hz1:((0:Int)==z)=false:=by simpa using hz0
    clear hz h0
    go_wp2
    go_roundw
    case rel=>exact⟨q+1,by first|rfl|(congr 1),hlt,by first|trivial|rfl,Vj⟩
    case measure=>simp[intOf];omega
  ·obtain rfl:q=n:=by omega
   have hun:res=none:=by rw[<-KS.out];exact RB (by rw[HL.out];exact UJ.out)
   subst hun
   go_wp2
   go_ret
   exact⟨rfl,rfl⟩
noncomputable def YW(m:Meta.Met)(a q:Nat):Meta.Met:={m with rows:=(Z8.ZH m.rows a).rows,own:=m.own.set q (((Z8.ZH m.rows a).at_:Int)+1)}
theorem DR{j i g pp:Nat}(Y8:VG j i g pp){P:Nat->Prop}{w0 w:qao}{bv bm b bj c:Nat}{x:Meta.Mem}{m:Meta.Met}{be:Value}{A:Option Addr}{dead:Bool}{at_:Int->Sx}{there:Int->Bool}{n:Nat}(h:VM P w0 w bv bm x m (ZY j i g pp b bj be A c dead) at_ there n)(a q:Nat)(hg:m.own.length=g)(hq:Vx m.own=some q)(h0:(Z8.ZH m.rows a).err=0)(hat:(Z8.ZH m.rows a).at_<=65536):
  qal Tryz.prog 103 #[.pointer bv,.int .u16 a] w fun e w'=>e=.returned (.tuple #[.int .i64 ((q:Int)*(pp:Int)),()])/\∃x',VM P w0 w' bv bm x' (YW m a q) (ZY j i g pp b bj be A c dead) at_ there n:=by
 have UC:g<=64:=by have:=Y8.v.g2;omega
 have hg1:=Y8.v.g1
 have WV:=Y8.v.gp
 have hqg:q<g:=by have:=(qae.1 (UH hq)).1;omega
 obtain⟨gb,cb,hvv,-⟩:=Zv h.vs.met.own (by omega)
 have hxo:x.oA=some ⟨gb,0,none⟩:=by injection hvv
 clear hvv
 have hlo:=h.vs.met.lies.own
 rw[hxo]at hlo
 have SK:Hid (qal Tryz.prog 174 #[.slice gb g x.oc,()] w fun e w'=>e=.returned (.int .i64 q)/\w=w'):=χ (by
  have:=P6 m.own gb 0 x.oc g w hg hlo (by omega)
  rw[hq]at this
  exact this)
 have Ua:Hid (∀u:qao,VM P w0 u bv bm x m (ZY j i g pp b bj be A c dead) at_ there n->qal Tryz.prog 106 #[.pointer bv,.int .u16 a] u fun e w'=>e=.returned (.tuple #[.int .i64 ((Z8.ZH m.rows a).at_:Int),()])/\∃x',x'.oA=x.oA/\x'.oc=x.oc/\VM P w0 w' bv bm x' {m with rows:=(Z8.ZH m.rows a).rows} (ZY j i g pp b bj be A c dead) at_ there n):=χ (fun u hv=>by
  refine(Tn hv.vs a h0).mono ?_
  rintro e w' ⟨he,⟨A2,c2,h1⟩,h2⟩
  exact⟨he,{x with rA:=A2,rc:=c2},rfl,rfl,hv.turn h1 h2⟩)
 have HV:=χ h
 have SH:=χ hxo
 have HG:=χ hg
 have kN:=χ hqg
 have hqm:(q:Int)*(pp:Int)<=512:=by
  have h1:q*pp<=g*pp:=qak _ (by omega)
  rw[<-qah]at WV
  rw[<-qah]
  omega
 have hpos:(0:Int)<=(q:Int)*(pp:Int):=Int.mul_nonneg (by omega) (by omega)
 have hmw:qai.wrap ((q:Int)*(pp:Int))=(q:Int)*(pp:Int):=by rw[qaf];omega
 have haw:qai.wrap (((Z8.ZH m.rows a).at_:Int)+1)=((Z8.ZH m.rows a).at_:Int)+1:=by rw[qaf];omega
 have hq0:(0:Int)<=(q:Int):=by omega
 have hqi:(q:Int)<(g:Int):=by omega
 obtain⟨c0,c1,c2,c3,c4⟩:=h.vs.cells
 rw[hxo,hg]at c1
 clear h Y8 h0 hat hq hlo UC hg1 WV hqg hxo hg hqm hpos c0 c2 c3 c4
 have hcl:YW m a q={m with rows:=(Z8.ZH m.rows a).rows,own:=m.own.set q (((Z8.ZH m.rows a).at_:Int)+1)}:=rfl
 rw[hcl]
 clear hcl
 generalize hr:Z8.ZH m.rows a=r at*
 clear hr
 go_enter Tryz.func103,Tryz.ntmps103
 go_wp2_with (first|(go_at_call 174;go_must (with_reducible refine SK.out.mono ?_);rintro e w1 ⟨he,hb⟩;obtain rfl:=he;subst hb)|(go_at_call 106;go_must (with_reducible refine(Ua.out _ HV.out).mono ?_);rintro e w2 ⟨he,x2,e1,e2,hv⟩;obtain rfl:=he;have X7:=χ hv;have OC:=χ (e1.trans SH.out);clear c1;obtain⟨c0,c1,c2,c3,c4⟩:=hv.vs.cells;rw[OC.out,e2]at c1;simp only[HG.out]at c1;clear c0 c2 c3 c4;have ho:=hv.vs.met.own;rw[OC.out]at ho;obtain⟨⟨zc,hzc⟩,hfz⟩:=XN ho q (by rw[Nat.mul_one];show q<m.own.length;rw[HG.out];exact kN.out);have VO:=hv.owner OC.out q ((r.at_:Int)+1);have qb:=χ VO;obtain⟨g0,g1,g2,g3⟩:=hv.vs.Yr;obtain⟨g4,g5,g6,g7⟩:=VO.vs.Yr;clear ho hv e1 e2 VO))
 refine qaj (v:=.tuple #[.int .i64 ((q:Int)*(pp:Int)),()]) (by simp[results,Tryz.results103,go_sem]) rfl ?_
 exact⟨rfl,x2,qb.out⟩
end
end Go.Proofs.YtmehhgfbnfbnaaaGreat.Y7

namespace Go.Proofs.YtmehhgfbnfbnaaaGreat.Y7
open Go.RowKit Zc Meta
section
variable {j i g pp bv bm b bj c n:Nat}{P:Nat->Prop}{w0 w:qao}{x:Meta.Mem}{m:Meta.Met}{be:Value}{A:Option Addr}{dead:Bool}{at_:Int->Sx}{there:Int->Bool}
def YO(m:Meta.Met)(n0:Nat):Meta.Met:={m with used:=Bits.wb m.used n0 true}
theorem NN(Y8:VG j i g pp)(h:VM P w0 w bv bm x m (ZY j i g pp b bj be A c dead) at_ there n)(a n0:Nat)(hl:m.rows.length=16)(hg:m.own.length=g)(hu:m.used.length=64)(hown:∀(q:Nat)(o:Int),m.own[q]? =some o->o=0\/∃(r:Nat)(y:Z8.Rw),o=(r:Int)+1/\m.rows[r]? =some y)(hun:RS pp m a=some n0)(hn:n0<512):
  qal Tryz.prog 39 #[.pointer bv,.int .u16 a] w fun e w'=>e=.returned (.tuple #[n0,()])/\∃x',VM P w0 w' bv bm x' (YO m n0) (ZY j i g pp b bj be A c dead) at_ there n:=by
 have QO:Hid (qal Tryz.prog 102 #[.pointer bv,.int .u16 a] w fun e w'=>e=.returned (.tuple #[n0,true])/\Below w.heap.size w w'):=χ (by
  have:=T9 Y8 h.vs a hl hg hu hown
  rwa[hun]at this)
 have kP:Hid (∀u:qao,VM P w0 u bv bm x m (ZY j i g pp b bj be A c dead) at_ there n->qal Tryz.prog 104 #[.pointer bv,n0,true] u fun e w'=>e=.returned (.tuple #[])/\∃x',VM P w0 w' bv bm x' (YO m n0) (ZY j i g pp b bj be A c dead) at_ there n):=χ (fun u hv=>by
  refine(Il hv.vs hu n0 hn true).mono ?_
  rintro e w' ⟨he,⟨A2,c2,h1⟩,h2⟩
  exact⟨he,{x with uA:=A2,uc:=c2},hv.turn h1 h2⟩)
 have HV:=χ h
 clear h Y8 hl hg hu hown hun hn
 go_enter Tryz.func39,Tryz.ntmps39
 go_wp2_with (first|(go_at_call 102;go_must (with_reducible refine QO.out.mono ?_);rintro e w1 ⟨he,hb⟩;obtain rfl:=he;replace HV:=χ (HV.out.below hb);clear hb)|(go_at_call 104;go_must (with_reducible refine(kP.out _ HV.out).mono ?_);rintro e w2 ⟨he,x2,hv⟩;obtain rfl:=he;have X7:=χ hv;clear hv))
 refine qaj (v:=.tuple #[n0,()]) (by simp[results,Tryz.results39,go_sem]) rfl ?_
 exact⟨rfl,x2,X7.out⟩
theorem NM(Y8:VG j i g pp)(h:VM P w0 w bv bm x m (ZY j i g pp b bj be A c dead) at_ there n)(a q:Nat)(hl:m.rows.length=16)(hg:m.own.length=g)(hu:m.used.length=64)(hown:∀(q:Nat)(o:Int),m.own[q]? =some o->o=0\/∃(r:Nat)(y:Z8.Rw),o=(r:Int)+1/\m.rows[r]? =some y)(hun:RS pp m a=none)(hq:Vx m.own=some q)(h0:(Z8.ZH m.rows a).err=0)(hat:(Z8.ZH m.rows a).at_<=65536):
  qal Tryz.prog 39 #[.pointer bv,.int .u16 a] w fun e w'=>e=.returned (.tuple #[.int .i64 ((q*pp:Nat):Int),()])/\∃x',VM P w0 w' bv bm x' (YO (YW m a q) (q*pp)) (ZY j i g pp b bj be A c dead) at_ there n:=by
 have hqg:q<g:=by have:=(qae.1 (UH hq)).1;omega
 have hqm:q*pp<512:=by
  have WV:=Y8.v.gp
  have hp1:=Y8.v.p1
  have h1:(q+1)*pp<=g*pp:=qak _ hqg
  rw[<-qah]at WV
  rw[Nat.add_mul,Nat.one_mul]at h1
  omega
 have QO:Hid (qal Tryz.prog 102 #[.pointer bv,.int .u16 a] w fun e w'=>e=.returned (.tuple #[(),false])/\Below w.heap.size w w'):=χ (by
  have:=T9 Y8 h.vs a hl hg hu hown
  rwa[hun]at this)
 have Fz:Hid (∀u:qao,VM P w0 u bv bm x m (ZY j i g pp b bj be A c dead) at_ there n->qal Tryz.prog 103 #[.pointer bv,.int .u16 a] u fun e w'=>e=.returned (.tuple #[.int .i64 ((q*pp:Nat):Int),()])/\∃x',VM P w0 w' bv bm x' (YW m a q) (ZY j i g pp b bj be A c dead) at_ there n):=χ (fun u hv=>by
  have:=DR Y8 hv a q hg hq h0 hat
  rwa[<-qah]at this)
 have kP:Hid (∀(u:qao)(x':Meta.Mem),VM P w0 u bv bm x' (YW m a q) (ZY j i g pp b bj be A c dead) at_ there n->qal Tryz.prog 104 #[.pointer bv,.int .i64 ((q*pp:Nat):Int),true] u fun e w'=>e=.returned (.tuple #[])/\∃x',VM P w0 w' bv bm x' (YO (YW m a q) (q*pp)) (ZY j i g pp b bj be A c dead) at_ there n):=χ (fun u x' hv=>by
  refine(Il hv.vs hu (q*pp) hqm true).mono ?_
  rintro e w' ⟨he,⟨A2,c2,h1⟩,h2⟩
  exact⟨he,{x' with uA:=A2,uc:=c2},hv.turn h1 h2⟩)
 have HV:=χ h
 clear h Y8 hl hg hu hown hun hq h0 hat hqg hqm
 have Oy:Hid (YO (YW m a q) (q*pp)=YO (YW m a q) (q*pp)):=χ rfl
 generalize YO (YW m a q) (q*pp)=M2 at*
 generalize q*pp=Z at*
 clear Oy
 go_enter Tryz.func39,Tryz.ntmps39
 go_wp2_with (first|(go_at_call 102;go_must (with_reducible refine QO.out.mono ?_);rintro e w1 ⟨he,hb⟩;obtain rfl:=he;replace HV:=χ (HV.out.below hb);clear hb)|(go_at_call 103;go_must (with_reducible refine(Fz.out _ HV.out).mono ?_);rintro e w2 ⟨he,x2,hv⟩;obtain rfl:=he;have X7:=χ hv;clear hv)|(go_at_call 104;go_must (with_reducible refine(kP.out _ _ X7.out).mono ?_);rintro e w3 ⟨he,x3,hv⟩;obtain rfl:=he;have P5:=χ hv;clear hv))
 refine qaj (v:=.tuple #[Z,()]) (by simp[results,Tryz.results39,go_sem]) rfl ?_
 exact⟨rfl,x3,P5.out⟩
end
end Go.Proofs.YtmehhgfbnfbnaaaGreat.Y7
