import Derived.Test.YtmehhgfbnfbnaaaGreatQVolD
import Derived.Test.YtmehhgfbnfbnaaaGreatQTk
set_option maxRecDepth 100000
set_option maxHeartbeats 25600000
open List renaming getElem?_eq_some_iff->qaa,getElem?_eq_getElem->qac,findIdx?_eq_some_iff_getElem->qai,range->qal,findSome?_eq_none_iff->qam
open Go.IntKind renaming wrap_i64->qab,i64->qae
open Int renaming natCast_mul->qad
open Go renaming bodyPost_ret->qaf,Calls->qah,World->qak
open Nat renaming mul_le_mul_right->qag,lt_or_ge->qaj
namespace Go.Proofs.YtmehhgfbnfbnaaaGreat
theorem zB0{P:Prop}(h:P:=by
 (intro u hu;obtain⟨c0,c1,c2,c3,c4⟩:=(HV.out.below hu).cells;obtain⟨g0,g1,g2,g3⟩:=(HV.out.below hu).YV;rw[HU.out]at c2;clear hu c0 c1 c3 c4;go_simp<;>with_reducible rfl)):P:=h
end Go.Proofs.YtmehhgfbnfbnaaaGreat
namespace Go.Proofs.YtmehhgfbnfbnaaaGreat.Zl
open Go.RowKit Zq Meta
section
variable {pp a q:Nat}{m:Meta.Met}
def TK(pp:Nat)(m:Meta.Met)(a q:Nat):Option Nat:=
 match m.own[q]? with
 |some o=>if 0<o then(match m.rows[(o-1).toNat]? with
  |some y=>if y.lab=a then Bits.fst m.used ((q:Int)*(pp:Int)) ((q:Int)*(pp:Int)+(pp:Int)) false (8*m.used.length)else none
  |none=>none)else none
 |none=>none
def OZ(pp:Nat)(m:Meta.Met)(a:Nat):Option Nat:=(qal m.own.length).findSome? (TK pp m a)
theorem AR{n:Nat}(hq:q<m.own.length)(h:TK pp m a q=some n)(h0:∀k,k<q->TK pp m a k=none):OZ pp m a=some n:=by
 unfold OZ
 obtain⟨k,hk⟩:∃k,m.own.length=q+(1+k):=⟨m.own.length-(q+1),by omega⟩
 have e:qal m.own.length=qal q++(q::(qal k).map (q+1+·)):=by
  rw[hk,List.range_add,Nat.add_comm 1,List.range_succ_eq_map]
  simp[Nat.add_comm,Nat.add_left_comm,Function.comp_def]
 rw[e,List.findSome?_append,qam.2 (fun k hk=>h0 k (List.mem_range.1 hk))]
 simp[h]
theorem ML(h0:∀k,k<m.own.length->TK pp m a k=none):OZ pp m a=none:=
 qam.2 (fun k hk=>h0 k (List.mem_range.1 hk))
theorem FD(h:m.own[q]? =some 0):TK pp m a q=none:=by unfold TK;rw[h];rfl
theorem Jb{r:Nat}{y:Z8.Rw}(h:m.own[q]? =some ((r:Int)+1))(hy:m.rows[r]? =some y):TK pp m a q=if y.lab=a then Bits.fst m.used ((q:Int)*(pp:Int)) ((q:Int)*(pp:Int)+(pp:Int)) false (8*m.used.length)else none:=by
 unfold TK
 rw[h]
 simp only
 rw[if_pos (by omega),show((r:Int)+1-1).toNat=r by omega,hy]
theorem Sr{j i g:Nat}(Za:VG j i g pp){P:Nat->Prop}{w:qak}{bv bm b bj c:Nat}{x:Meta.Mem}{be:Value}{A:Option Addr}{dead:Bool}(h:Vs P w bv x m bm (ZZ j i g pp b bj be A c dead))(a:Nat)(hl:m.rows.length=16)(hg:m.own.length=g)(hu:m.used.length=64)(hown:∀(q:Nat)(o:Int),m.own[q]? =some o->o=0\/∃(r:Nat)(y:Z8.Rw),o=(r:Int)+1/\m.rows[r]? =some y):
  qah Tryz.prog 102 #[.pointer bv,.int .u16 a] w fun e w'=>e=.returned (.tuple #[.int .i64 (((OZ pp m a).getD 0:Nat):Int),.bool (OZ pp m a).isSome])/\Below w.heap.size w w':=by
 have S9:g<=64:=by have:=Za.v.g2;omega
 have V8:=Za.v.gp
 have EZ:∀q,q<g->(q:Int)*(pp:Int)+(pp:Int)<=512:=fun q hq=>by
  have h1:(q+1)*pp<=g*pp:=qag _ hq
  rw[<-qad]at V8
  rw[<-qad]
  rw[Nat.add_mul,Nat.one_mul]at h1
  omega
 have HV:=χ h
 have HO:=χ hown
 have HG:=χ hg
 have HU:=χ hu
 have HQP:=χ EZ
 have HLB:Hid (∀(u:qak)(q r:Nat)(y:Z8.Rw),Below w.heap.size w u->m.own[q]? =some ((r:Int)+1)->m.rows[r]? =some y->qah Tryz.prog 172 #[.pointer bv,.int .i64 q] u fun e w'=>e=.returned (.int .u16 y.lab)/\Below u.heap.size u w'):=χ (fun u q r y hb h1 h2=>by
  refine(FC (h.below hb) q r y h1 h2 hl (by omega)).mono ?_
  rintro e w' ⟨he,k,rfl⟩
  exact⟨he,below_drewN (Below.refl _ _) k⟩)
 have aU:Hid (∀(u:qak)(s t:Int),Below w.heap.size w u->s<=512->qah Tryz.prog 173 #[.slice x.uA 64 x.uc,s,t,false] u fun e w'=>e=.returned (.tuple #[.int .i64 (((Bits.fst m.used s t false (8*m.used.length)).getD 0:Nat):Int),.bool (Bits.fst m.used s t false (8*m.used.length)).isSome])/\Below u.heap.size u w'):=χ (fun u s t hb hs=>by
  have:=Bits.Lb m.used x.uA 64 x.uc u.heap.size s t false u hu ((h.below hb).met.lies.used) (by omega) (by omega)
  refine this.mono ?_
  rintro e w' ⟨he,k,rfl⟩
  exact⟨he,below_drewN (Below.refl _ _) k⟩)
 clear h hown hl hu V8
 obtain⟨c0,c1,c2,c3,c4⟩:=HV.out.cells
 obtain⟨b2,o2,hA,-⟩:=YU HV.out.met.lies.own (by rw[Z9.Zt,hg];have:=Za.v.g1;omega)
 rw[hg,hA]at c1
 have HA:=χ hA
 clear hA
 have qf:=χ S9
 clear hg S9 EZ Za
 obtain⟨res,hres⟩:∃res,OZ pp m a=res:=⟨_,rfl⟩
 rw[hres]
 have FE:=χ hres
 clear hres
 go_enter Tryz.func102,Tryz.ntmps102
 go_wp2
 clear c0 c1 c2 c3 c4
 go_loopw [6,7,8,9,10,18] (fun _ _ _ _ _ kc wr=>∃q:Nat,kc=.int .i64 q/\q<=g/\Hid (Below w.heap.size w wr)/\Hid (∀k,k<q->TK pp m a k=none)) (fun _ _ _ _ _ kc _=>g-(intOf kc).toNat)
 case atStart=>exact⟨0,rfl,Nat.zero_le _,χ (Below.refl _ _),χ (fun k hk=>by omega)⟩
 case round=>
  obtain⟨q,rfl,hq,HB,TH⟩:=hrel
  have Sb:=χ (HV.out.below HB.out)
  obtain⟨c0,c1,c2,c3,c4⟩:=Sb.out.cells
  obtain⟨g0,g1,g2,g3⟩:=Sb.out.YV
  by_cases hlt:q<g
  ·obtain⟨o,ho⟩:∃o,m.own[q]? =some o:=⟨_,qac (by rw[HG.out];exact hlt)⟩
   have hlo:=Sb.out.met.lies.own
   rw[HA.out]at hlo c1
   have hco:=Yf hlo ho
   rw[HG.out]at c1
   rw[HU.out]at c2
   have EZ:=HQP.out q hlt
   have hq0:(0:Int)<=(q:Int):=by omega
   have V7:(q:Int)<(g:Int):=by omega
   have wh:qae.wrap ((q:Int)+1)=((q+1:Nat):Int):=by rw[qab];have:=qf.out;omega
   have hpos:(0:Int)<=(q:Int)*(pp:Int):=Int.mul_nonneg (by omega) (by omega)
   have hmw:qae.wrap ((q:Int)*(pp:Int))=(q:Int)*(pp:Int):=by rw[qab];omega
   have haw:qae.wrap ((q:Int)*(pp:Int)+(pp:Int))=(q:Int)*(pp:Int)+(pp:Int):=by rw[qab];omega
   rcases HO.out q o ho with h0|⟨r,y,h1,hy⟩
   ·subst h0
    have Ue:Hid (∀k,k<q+1->TK pp m a k=none):=χ (fun k hk=>by
     rcases qaj k q with h|h
     ·exact TH.out k h
     ·obtain rfl:k=q:=by omega
      exact FD ho)
    clear ho hlo TH hpos EZ hmw haw g0 g1 g2 g3 c0 c2 c3 c4
    go_wp2
    go_roundw
    case rel=>exact⟨q+1,by first|rfl|(congr 1),hlt,HB,Ue⟩
    case measure=>simp[intOf];omega
   ·subst h1
    have hgr:=Jb (pp:=pp) (a:=a) ho hy
    have hne0:((r:Int)+1==0)=false:=by simp;omega
    have HLX:=χ (HLB.out wr q r y HB.out ho hy)
    have HOQ:=χ ho
    clear ho hlo
    by_cases hla:y.lab=a
    ·subst hla
     have abg:TK pp m y.lab q=Bits.fst m.used ((q:Int)*(pp:Int)) ((q:Int)*(pp:Int)+(pp:Int)) false (8*m.used.length):=by rw[hgr,if_pos rfl]
     have aS:=χ (fun u hu=>aU.out u ((q:Int)*(pp:Int)) ((q:Int)*(pp:Int)+(pp:Int)) hu (by omega))
     generalize hfo:Bits.fst m.used ((q:Int)*(pp:Int)) ((q:Int)*(pp:Int)+(pp:Int)) false (8*m.used.length)=fo at*
     have HGR:=χ abg
     clear abg hgr hfo hpos EZ hy
     go_upto_region 6 with(go_at_call 172;(with_reducible refine HLX.out.mono ?_);rintro e w2 ⟨he,hb⟩;obtain rfl:=he;have HB2:=χ (HB.out.trans (hb.mono HB.out.size));clear hb c0 c1 c2 c3 c4 g0 g1 g2 g3;obtain⟨g0,g1,g2,g3⟩:=(HV.out.below HB2.out).YV)
     clear g0 g1 g2 g3
     have hS0:Below w.heap.size w w2.drew:=HB2.out.drew
     refine wp_region_held_drew (S:=fun u=>Below w.heap.size w u) (by kernel_rfl) hS0 (fun hHeld=>?_)
     clear hS0
     generalize hu0:w2.drew=IX at*
     clear hu0
     refine tk 0 ?_ (y:=.inl ⟨by rfl,?hya0⟩) (s:=by exact hHeld) (h:=?V6)
     case hya0=>exact zB0
     refine tk 1 ?_ (y:=.inl ⟨by rfl,?hya1⟩) (s:=by exact hHeld) (h:=?V5)
     case hya1=>exact zB0
     refine tk 2 ?_ (y:=.inl ⟨by rfl,?hya2⟩) (s:=by exact hHeld) (h:=?V4)
     case hya2=>exact zB0
     refine tk 3 ?_ (y:=.inl ⟨by rfl,?hya3⟩) (s:=by exact hHeld) (h:=?TD)
     case hya3=>exact zB0
     refine tk 4 ?_ (y:=.inl ⟨by rfl,?hya4⟩) (s:=by exact hHeld) (h:=?TN)
     case hya4=>exact zB0
     refine tk 5 ?_ (y:=.inl ⟨by rfl,?hya5⟩) (s:=by exact hHeld) (h:=?Vi)
     case hya5=>exact zB0
     refine tk 6 ?_ (y:=.inl ⟨by rfl,?hya6⟩) (s:=by exact hHeld) (h:=?UR)
     case hya6=>exact zB0
     refine tk 7 ?_ (y:=.inl ⟨by rfl,?hya7⟩) (s:=by exact hHeld) (h:=?RU)
     case hya7=>exact zB0
     refine tk 8 ?_ (y:=.inl ⟨by rfl,?hya8⟩) (s:=by exact hHeld) (h:=?RS)
     case hya8=>exact zB0
     refine tk 9 ?_ (y:=.inl ⟨by rfl,?hya9⟩) (s:=by exact hHeld) (h:=?OW)
     case hya9=>exact zB0
     refine tk 10 ?_ (y:=.inl ⟨by rfl,?hya10⟩) (s:=by exact hHeld) (h:=?Vb)
     case hya10=>exact zB0
     refine tk 11 ?_ (y:=.inl ⟨by rfl,?hya11⟩) (s:=by exact hHeld) (h:=?Rb)
     case hya11=>exact zB0
     refine tk 12 ?_ (y:=.inl ⟨by rfl,?hya12⟩) (s:=by exact hHeld) (h:=?Ra)
     case hya12=>exact zB0
     refine tk 13 ?_ (y:=.inl ⟨by rfl,?hya13⟩) (s:=by exact hHeld) (h:=?LQ)
     case hya13=>exact zB0
     refine rd 14 (h:=fun K hK=>?_)
     go_simp
     (with_reducible refine(aS.out _ hHeld).mono ?_)
     rintro e w3 ⟨he,hb⟩;obtain rfl:=he
     have hS:=hHeld.trans (hb.mono hHeld.size)
     clear hb
     go_simp
     refine hK.out _ _ hS (fun Z5=>?_)
     clear hK K hHeld hS
     have hHeld:=Z5
     clear Z5
     refine tk 15 ?_ (y:=.inl ⟨by rfl,?hya15⟩) (s:=by exact hHeld) (h:=?jC)
     case hya15=>exact zB0
     refine tk 16 ?_ (y:=.inl ⟨by rfl,?hya16⟩) (s:=by exact hHeld) (h:=?uP)
     case hya16=>exact zB0
     refine tk 17 ?_ (y:=.inl ⟨by rfl,?hya17⟩) (s:=by exact hHeld) (h:=?uO)
     case hya17=>exact zB0
     refine tk 18 ?_ (y:=.inl ⟨by rfl,?hya18⟩) (s:=by exact hHeld) (h:=?uN)
     case hya18=>exact zB0
     refine tk 19 ?_ (y:=.inl ⟨by rfl,?hya19⟩) (s:=by exact hHeld) (h:=?iW)
     case hya19=>exact zB0
     refine wpAnyH_done (by kernel_rfl) ?_ _
     have HB3:=χ hHeld
     clear hHeld
     cases fo with
     |none=>
      have Ue:Hid (∀k,k<q+1->TK pp m y.lab k=none):=χ (fun k hk=>by
       rcases qaj k q with h|h
       ·exact TH.out k h
       ·obtain rfl:k=q:=by omega
        exact HGR.out)
      clear hmw haw
      go_wp2
      go_roundw
      case rel=>exact⟨q+1,by first|rfl|(congr 1),hlt,HB3,Ue⟩
      case measure=>simp[intOf];omega
     |some n0=>
      have hun:res=some n0:=by rw[<-FE.out];exact AR (by rw[HG.out];exact hlt) HGR.out TH.out
      subst hun
      clear hmw haw
      go_wp2
      refine qaf (v:=.tuple #[n0,true]) (by simp[results,Tryz.results102,go_sem]) rfl ?_
      exact⟨rfl,HB3.out⟩
    ·have Ue:Hid (∀k,k<q+1->TK pp m a k=none):=χ (fun k hk=>by
      rcases qaj k q with h|h
      ·exact TH.out k h
      ·obtain rfl:k=q:=by omega
       rw[hgr,if_neg hla])
     have hln:((y.lab:Int)==(a:Int))=false:=by simp;omega
     have aeu:¬ (y.lab:Int)=(a:Int):=by omega
     clear hgr TH hpos EZ hmw haw g0 g1 g2 g3 c0 c2 c3 c4 hy hla
     go_wp2_with (go_at_call 172;(with_reducible refine HLX.out.mono ?_);rintro e w2 ⟨he,hb⟩;obtain rfl:=he;have HB2:=χ (HB.out.trans (hb.mono HB.out.size));clear hb)
     go_roundw
     case rel=>exact⟨q+1,by first|rfl|(congr 1),hlt,HB2,Ue⟩
     case measure=>simp[intOf];omega
  ·obtain rfl:q=g:=by omega
   have hun:res=none:=by rw[<-FE.out];exact ML (by rw[HG.out];exact TH.out)
   subst hun
   go_wp2
   refine qaf (v:=.tuple #[(),false]) (by simp[results,Tryz.results102,go_sem]) rfl ?_
   exact⟨rfl,HB.out⟩
end
end Go.Proofs.YtmehhgfbnfbnaaaGreat.Zl

namespace Go.Proofs.YtmehhgfbnfbnaaaGreat.Zl
open Go.RowKit Zq Meta
section
variable {l:List Int}{q:Nat}
def TL(l:List Int):Option Nat:=l.findIdx? (· ==0)
theorem PI(h:l[q]? =some 0)(h0:∀k,k<q->l[k]?≠some 0):TL l=some q:=by
 obtain⟨h1,h2⟩:=qaa.1 h
 refine qai.2 ⟨h1,by simp[h2],fun k hk=>?_⟩
 have:=h0 k hk
 rw[qac (by omega)]at this
 simpa using this
theorem Qy(h:TL l=some q):l[q]? =some 0:=by
 obtain⟨h1,h2,-⟩:=qai.1 h
 rw[qac h1]
 simpa using h2
theorem PH(h0:∀k,k<l.length->l[k]?≠some 0):TL l=none:=by
 refine List.findIdx?_eq_none_iff.2 (fun x hx=>?_)
 obtain⟨k,hk⟩:=List.getElem?_of_mem hx
 have:=h0 k (qaa.1 hk).1
 rw[hk]at this
 simpa using this
def acG(o:Option Nat):Int:=match o with|some q=>(q:Int)|none=> -1
theorem MO(l:List Int)(b o c n:Nat)(w:qak)(hl:l.length=n)(hr:Rd w w.heap.size (some ⟨b,o,none⟩) (Z9.ZM l))(hm:n<=1000000):
  qah Tryz.prog 174 #[.slice (some ⟨b,o,none⟩) n c,()] w fun e w'=>e=.returned (.int .i64 (acG (TL l)))/\w=w':=by
 have HL:=χ hl
 have HR:=χ hr
 have HM:=χ hm
 clear hl hr hm
 obtain⟨res,hres⟩:∃res,TL l=res:=⟨_,rfl⟩
 rw[hres]
 have FE:=χ hres
 clear hres
 go_enter Tryz.func174,Tryz.ntmps174
 go_wp2
 go_loopw [5,8] (fun _ kc wr=>∃q:Nat,kc=.int .i64 q/\q<=n/\wr=w/\Hid (∀k,k<q->l[k]?≠some 0)) (fun _ kc _=>n-(intOf kc).toNat)
 case atStart=>exact⟨0,rfl,Nat.zero_le _,rfl,χ (fun k hk=>by omega)⟩
 case round=>
  obtain⟨q,rfl,hq,rfl,TH⟩:=hrel
  by_cases hlt:q<n
  ·obtain⟨z,hz⟩:∃z,l[q]? =some z:=⟨_,qac (by rw[HL.out];exact hlt)⟩
   have hco:=Yf HR.out hz
   have hq0:(0:Int)<=(q:Int):=by omega
   have V7:(q:Int)<(n:Int):=by omega
   have wh:qae.wrap ((q:Int)+1)=((q+1:Nat):Int):=by rw[qab];have:=HM.out;omega
   by_cases h0:z=0
   ·subst h0
    have hun:res=some q:=by rw[<-FE.out];exact PI hz TH.out
    subst hun
    clear hz
    go_wp2
    go_ret
    exact⟨rfl,rfl⟩
   ·have Ue:Hid (∀k,k<q+1->l[k]?≠some 0):=χ (fun k hk=>by
     rcases qaj k q with h|h
     ·exact TH.out k h
     ·obtain rfl:k=q:=by omega
      rw[hz]
      simpa using h0)
    have hz0:¬ (0:Int)=z:=fun h=>h0 h.symm
    have hz1:((0:Int)==z)=false:=by simpa using hz0
    clear hz h0
    go_wp2
    go_roundw
    case rel=>exact⟨q+1,by first|rfl|(congr 1),hlt,by first|trivial|rfl,Ue⟩
    case measure=>simp[intOf];omega
  ·obtain rfl:q=n:=by omega
   have hun:res=none:=by rw[<-FE.out];exact PH (by rw[HL.out];exact TH.out)
   subst hun
   go_wp2
   go_ret
   exact⟨rfl,rfl⟩
noncomputable def YA(m:Meta.Met)(a q:Nat):Meta.Met:={m with rows:=(Z8.ZH m.rows a).rows,own:=m.own.set q (((Z8.ZH m.rows a).at_:Int)+1)}
theorem xy{j i g pp:Nat}(Za:VG j i g pp){P:Nat->Prop}{w0 w:qak}{bv bm b bj c:Nat}{x:Meta.Mem}{m:Meta.Met}{be:Value}{A:Option Addr}{dead:Bool}{at_:Int->Sx}{there:Int->Bool}{n:Nat}(h:VM P w0 w bv bm x m (ZZ j i g pp b bj be A c dead) at_ there n)(a q:Nat)(hg:m.own.length=g)(hq:TL m.own=some q)(h0:(Z8.ZH m.rows a).err=0)(hat:(Z8.ZH m.rows a).at_<=65536):
  qah Tryz.prog 103 #[.pointer bv,.int .u16 a] w fun e w'=>e=.returned (.tuple #[.int .i64 ((q:Int)*(pp:Int)),()])/\∃x',VM P w0 w' bv bm x' (YA m a q) (ZZ j i g pp b bj be A c dead) at_ there n:=by
 have S9:g<=64:=by have:=Za.v.g2;omega
 have hg1:=Za.v.g1
 have V8:=Za.v.gp
 have hqg:q<g:=by have:=(qaa.1 (Qy hq)).1;omega
 obtain⟨gb,cb,hvv,-⟩:=Zp h.vs.met.own (by omega)
 have hxo:x.oA=some ⟨gb,0,none⟩:=by injection hvv
 clear hvv
 have hlo:=h.vs.met.lies.own
 rw[hxo]at hlo
 have Qz:Hid (qah Tryz.prog 174 #[.slice gb g x.oc,()] w fun e w'=>e=.returned (.int .i64 q)/\w=w'):=χ (by
  have:=MO m.own gb 0 x.oc g w hg hlo (by omega)
  rw[hq]at this
  exact this)
 have Sw:Hid (∀u:qak,VM P w0 u bv bm x m (ZZ j i g pp b bj be A c dead) at_ there n->qah Tryz.prog 106 #[.pointer bv,.int .u16 a] u fun e w'=>e=.returned (.tuple #[.int .i64 ((Z8.ZH m.rows a).at_:Int),()])/\∃x',x'.oA=x.oA/\x'.oc=x.oc/\VM P w0 w' bv bm x' {m with rows:=(Z8.ZH m.rows a).rows} (ZZ j i g pp b bj be A c dead) at_ there n):=χ (fun u hv=>by
  refine(RP hv.vs a h0).mono ?_
  rintro e w' ⟨he,⟨A2,c2,h1⟩,h2⟩
  exact⟨he,{x with rA:=A2,rc:=c2},rfl,rfl,hv.turn h1 h2⟩)
 have HV:=χ h
 have Qx:=χ hxo
 have HG:=χ hg
 have HQG:=χ hqg
 have hqm:(q:Int)*(pp:Int)<=512:=by
  have h1:q*pp<=g*pp:=qag _ (by omega)
  rw[<-qad]at V8
  rw[<-qad]
  omega
 have hpos:(0:Int)<=(q:Int)*(pp:Int):=Int.mul_nonneg (by omega) (by omega)
 have hmw:qae.wrap ((q:Int)*(pp:Int))=(q:Int)*(pp:Int):=by rw[qab];omega
 have haw:qae.wrap (((Z8.ZH m.rows a).at_:Int)+1)=((Z8.ZH m.rows a).at_:Int)+1:=by rw[qab];omega
 have hq0:(0:Int)<=(q:Int):=by omega
 have hqi:(q:Int)<(g:Int):=by omega
 obtain⟨c0,c1,c2,c3,c4⟩:=h.vs.cells
 rw[hxo,hg]at c1
 clear h Za h0 hat hq hlo S9 hg1 V8 hqg hxo hg hqm hpos c0 c2 c3 c4
 have hcl:YA m a q={m with rows:=(Z8.ZH m.rows a).rows,own:=m.own.set q (((Z8.ZH m.rows a).at_:Int)+1)}:=rfl
 rw[hcl]
 clear hcl
 generalize hr:Z8.ZH m.rows a=r at*
 clear hr
 go_enter Tryz.func103,Tryz.ntmps103
 go_wp2_with (first|(go_at_call 174;go_must (with_reducible refine Qz.out.mono ?_);rintro e w1 ⟨he,hb⟩;obtain rfl:=he;subst hb)|(go_at_call 106;go_must (with_reducible refine(Sw.out _ HV.out).mono ?_);rintro e w2 ⟨he,x2,e1,e2,hv⟩;obtain rfl:=he;have XT:=χ hv;have Rj:=χ (e1.trans Qx.out);clear c1;obtain⟨c0,c1,c2,c3,c4⟩:=hv.vs.cells;rw[Rj.out,e2]at c1;simp only[HG.out]at c1;clear c0 c2 c3 c4;have ho:=hv.vs.met.own;rw[Rj.out]at ho;obtain⟨⟨zc,hzc⟩,hfz⟩:=Xo ho q (by rw[Nat.mul_one];show q<m.own.length;rw[HG.out];exact HQG.out);have VO:=hv.owner Rj.out q ((r.at_:Int)+1);have dB:=χ VO;obtain⟨g0,g1,g2,g3⟩:=hv.vs.YV;obtain⟨g4,g5,g6,g7⟩:=VO.vs.YV;clear ho hv e1 e2 VO))
 refine qaf (v:=.tuple #[.int .i64 ((q:Int)*(pp:Int)),()]) (by simp[results,Tryz.results103,go_sem]) rfl ?_
 exact⟨rfl,x2,dB.out⟩
end
end Go.Proofs.YtmehhgfbnfbnaaaGreat.Zl

namespace Go.Proofs.YtmehhgfbnfbnaaaGreat.Zl
open Go.RowKit Zq Meta
section
variable {j i g pp bv bm b bj c n:Nat}{P:Nat->Prop}{w0 w:qak}{x:Meta.Mem}{m:Meta.Met}{be:Value}{A:Option Addr}{dead:Bool}{at_:Int->Sx}{there:Int->Bool}
def Yy(m:Meta.Met)(n0:Nat):Meta.Met:={m with used:=Bits.wb m.used n0 true}
theorem KN(Za:VG j i g pp)(h:VM P w0 w bv bm x m (ZZ j i g pp b bj be A c dead) at_ there n)(a n0:Nat)(hl:m.rows.length=16)(hg:m.own.length=g)(hu:m.used.length=64)(hown:∀(q:Nat)(o:Int),m.own[q]? =some o->o=0\/∃(r:Nat)(y:Z8.Rw),o=(r:Int)+1/\m.rows[r]? =some y)(hun:OZ pp m a=some n0)(hn:n0<512):
  qah Tryz.prog 39 #[.pointer bv,.int .u16 a] w fun e w'=>e=.returned (.tuple #[n0,()])/\∃x',VM P w0 w' bv bm x' (Yy m n0) (ZZ j i g pp b bj be A c dead) at_ there n:=by
 have OX:Hid (qah Tryz.prog 102 #[.pointer bv,.int .u16 a] w fun e w'=>e=.returned (.tuple #[n0,true])/\Below w.heap.size w w'):=χ (by
  have:=Sr Za h.vs a hl hg hu hown
  rwa[hun]at this)
 have HUS:Hid (∀u:qak,VM P w0 u bv bm x m (ZZ j i g pp b bj be A c dead) at_ there n->qah Tryz.prog 104 #[.pointer bv,n0,true] u fun e w'=>e=.returned (.tuple #[])/\∃x',VM P w0 w' bv bm x' (Yy m n0) (ZZ j i g pp b bj be A c dead) at_ there n):=χ (fun u hv=>by
  refine(EK hv.vs hu n0 hn true).mono ?_
  rintro e w' ⟨he,⟨A2,c2,h1⟩,h2⟩
  exact⟨he,{x with uA:=A2,uc:=c2},hv.turn h1 h2⟩)
 have HV:=χ h
 clear h Za hl hg hu hown hun hn
 go_enter Tryz.func39,Tryz.ntmps39
 go_wp2_with (first|(go_at_call 102;go_must (with_reducible refine OX.out.mono ?_);rintro e w1 ⟨he,hb⟩;obtain rfl:=he;replace HV:=χ (HV.out.below hb);clear hb)|(go_at_call 104;go_must (with_reducible refine(HUS.out _ HV.out).mono ?_);rintro e w2 ⟨he,x2,hv⟩;obtain rfl:=he;have XT:=χ hv;clear hv))
 refine qaf (v:=.tuple #[n0,()]) (by simp[results,Tryz.results39,go_sem]) rfl ?_
 exact⟨rfl,x2,XT.out⟩
theorem KL(Za:VG j i g pp)(h:VM P w0 w bv bm x m (ZZ j i g pp b bj be A c dead) at_ there n)(a q:Nat)(hl:m.rows.length=16)(hg:m.own.length=g)(hu:m.used.length=64)(hown:∀(q:Nat)(o:Int),m.own[q]? =some o->o=0\/∃(r:Nat)(y:Z8.Rw),o=(r:Int)+1/\m.rows[r]? =some y)(hun:OZ pp m a=none)(hq:TL m.own=some q)(h0:(Z8.ZH m.rows a).err=0)(hat:(Z8.ZH m.rows a).at_<=65536):
  qah Tryz.prog 39 #[.pointer bv,.int .u16 a] w fun e w'=>e=.returned (.tuple #[.int .i64 ((q*pp:Nat):Int),()])/\∃x',VM P w0 w' bv bm x' (Yy (YA m a q) (q*pp)) (ZZ j i g pp b bj be A c dead) at_ there n:=by
 have hqg:q<g:=by have:=(qaa.1 (Qy hq)).1;omega
 have hqm:q*pp<512:=by
  have V8:=Za.v.gp
  have hp1:=Za.v.p1
  have h1:(q+1)*pp<=g*pp:=qag _ hqg
  rw[<-qad]at V8
  rw[Nat.add_mul,Nat.one_mul]at h1
  omega
 have OX:Hid (qah Tryz.prog 102 #[.pointer bv,.int .u16 a] w fun e w'=>e=.returned (.tuple #[(),false])/\Below w.heap.size w w'):=χ (by
  have:=Sr Za h.vs a hl hg hu hown
  rwa[hun]at this)
 have KC:Hid (∀u:qak,VM P w0 u bv bm x m (ZZ j i g pp b bj be A c dead) at_ there n->qah Tryz.prog 103 #[.pointer bv,.int .u16 a] u fun e w'=>e=.returned (.tuple #[.int .i64 ((q*pp:Nat):Int),()])/\∃x',VM P w0 w' bv bm x' (YA m a q) (ZZ j i g pp b bj be A c dead) at_ there n):=χ (fun u hv=>by
  have:=xy Za hv a q hg hq h0 hat
  rwa[<-qad]at this)
 have HUS:Hid (∀(u:qak)(x':Meta.Mem),VM P w0 u bv bm x' (YA m a q) (ZZ j i g pp b bj be A c dead) at_ there n->qah Tryz.prog 104 #[.pointer bv,.int .i64 ((q*pp:Nat):Int),true] u fun e w'=>e=.returned (.tuple #[])/\∃x',VM P w0 w' bv bm x' (Yy (YA m a q) (q*pp)) (ZZ j i g pp b bj be A c dead) at_ there n):=χ (fun u x' hv=>by
  refine(EK hv.vs hu (q*pp) hqm true).mono ?_
  rintro e w' ⟨he,⟨A2,c2,h1⟩,h2⟩
  exact⟨he,{x' with uA:=A2,uc:=c2},hv.turn h1 h2⟩)
 have HV:=χ h
 clear h Za hl hg hu hown hun hq h0 hat hqg hqm
 have O5:Hid (Yy (YA m a q) (q*pp)=Yy (YA m a q) (q*pp)):=χ rfl
 generalize Yy (YA m a q) (q*pp)=M2 at*
 generalize q*pp=Z at*
 clear O5
 go_enter Tryz.func39,Tryz.ntmps39
 go_wp2_with (first|(go_at_call 102;go_must (with_reducible refine OX.out.mono ?_);rintro e w1 ⟨he,hb⟩;obtain rfl:=he;replace HV:=χ (HV.out.below hb);clear hb)|(go_at_call 103;go_must (with_reducible refine(KC.out _ HV.out).mono ?_);rintro e w2 ⟨he,x2,hv⟩;obtain rfl:=he;have XT:=χ hv;clear hv)|(go_at_call 104;go_must (with_reducible refine(HUS.out _ _ XT.out).mono ?_);rintro e w3 ⟨he,x3,hv⟩;obtain rfl:=he;have MN:=χ hv;clear hv))
 refine qaf (v:=.tuple #[Z,()]) (by simp[results,Tryz.results39,go_sem]) rfl ?_
 exact⟨rfl,x3,MN.out⟩
end
end Go.Proofs.YtmehhgfbnfbnaaaGreat.Zl
