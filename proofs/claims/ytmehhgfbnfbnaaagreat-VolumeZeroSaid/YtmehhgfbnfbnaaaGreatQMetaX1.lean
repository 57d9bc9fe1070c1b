import Derived.Test.YtmehhgfbnfbnaaaGreatQMetaU
import Derived.Test.YtmehhgfbnfbnaaaGreatQBits
import Derived.Test.YtmehhgfbnfbnaaaGreatQSuper
import Derived.Test.YtmehhgfbnfbnaaaGreatQTk
set_option maxRecDepth 100000
set_option maxHeartbeats 25600000
open List renaming getElem?_eq_getElem->qaa,mem_of_getElem?->qab,getElem_of_mem->qaf,any_eq_false->qah,any_eq_true->qai
open Go.RowKit renaming Below->qac
open Go renaming World->qad,Calls->qae
open Bool renaming false_ne_true->qag
namespace Go.Proofs.YtmehhgfbnfbnaaaGreat.Meta
open Go.Proofs.YtmehhgfbnfbnaaaGreat
open Go.RowKit
def VE(x:Int):Bool:=decide (x<0)||decide (16<x)
theorem EI(x:Int)(w:qad):qae Tryz.prog 247 #[x] w fun e w'=>e=.returned (.bool (VE x))/\w=w':=by
 by_cases h0:x<0
 ·have e:VE x=true:=by simp[VE,h0]
  rw[e]
  go_enter Tryz.func247,Tryz.ntmps247
  go_wp2
  go_ret
  exact⟨rfl,rfl⟩
 ·by_cases h1:16<x
  ·have e:VE x=true:=by simp[VE,h1]
   rw[e]
   go_enter Tryz.func247,Tryz.ntmps247
   go_wp2
   go_ret
   exact⟨rfl,rfl⟩
  ·have e:VE x=false:=by simp[VE,h0,h1]
   rw[e]
   go_enter Tryz.func247,Tryz.ntmps247
   go_wp2
   go_ret
   exact⟨rfl,rfl⟩
noncomputable def UK(n:Z9.Zz):Bool:=!Z9.ZP n
theorem uw(n:Z9.Zz)(ho:Z9.YS n)(w:qad):qae Tryz.prog 248 #[.agg (Z9.ZX n).toArray] w fun e w'=>e=.returned (.bool (UK n))/\qac w.heap.size w w':=by
 obtain⟨r,hr⟩:∃r,Z9.ZP n=r:=⟨_,rfl⟩
 have HR:Hid (∀u:qad,qae Tryz.prog 111 #[.agg (Z9.ZX n).toArray] u fun e w'=>e=.returned (.bool r)/\qac u.heap.size u w'):=χ (fun u=>by
  have:=Z9.Ya n ho u
  rwa[hr]at this)
 have e:UK n= !r:=by unfold UK;rw[hr]
 rw[e]
 clear e hr
 obtain⟨k,rr,l,s,p⟩:=n
 obtain⟨p0,p1,p2,p3,p4,p5,p6,p7,p8,p9,hp⟩:=Z9.XI ho.len
 simp only at hp
 subst hp
 clear ho
 simp only[Z9.ZX,Z9.ZM,List.map_cons,List.map_nil]at HR⊢
 go_enter Tryz.func248,Tryz.ntmps248
 go_wp2_with (go_at_call 111;(with_reducible refine(HR.out _).mono ?_);rintro e w2 ⟨he,hb⟩;obtain rfl:=he;have HB:=χ (((ZZ w _).trans (hb.mono (by simp)):qac w.heap.size w w2));clear hb)
 go_ret
 exact⟨rfl,HB.out⟩
def TD(b:List UInt8):Bool:=b.length != 64
theorem EH(b:List UInt8)(A:Option Addr)(n c:Nat)(hn:b.length=n)(w:qad):qae Tryz.prog 224 #[.slice A n c] w fun e w'=>e=.returned (.bool (TD b))/\w=w':=by
 have e:TD b=((n:Int) != 64):=by unfold TD;rw[hn,Bool.eq_iff_iff];simp;omega
 rw[e]
 go_enter Tryz.func224,Tryz.ntmps224
 go_wp2
 go_ret
 exact⟨rfl,rfl⟩
theorem Cq(l:List Int)(A:Option Addr)(n c:Nat)(w:qad)(hn:l.length=n)(hr:Rd w w.heap.size A (Z9.ZM l))(hm:n<=1000000)(r:Bool)(hr0:l.any VE=r):
  qae Tryz.prog 243 #[.slice A n c,.func (.func 247) #[] #[]] w fun e w'=>(∃k:Int,e=.returned (.int .i64 k)/\decide (0<=k)=r)/\qac w.heap.size w w':=by
 have Hn:=χ hn
 have Hr:=χ hr
 have Hb:=χ hr0
 clear hn hr hr0
 go_enter Tryz.func243,Tryz.ntmps243
 go_wp2
 go_loopw [5,8] (fun _ i wr=>∃j:Nat,j<=n/\i=.int .i64 j/\Hid (∀(k:Nat) x,k<j->l[k]? =some x->VE x=false)/\Hid (qac w.heap.size w wr)) (fun _ i _=>n-(intOf i).toNat)
 case atStart=>exact⟨0,Nat.zero_le _,rfl,χ (fun k s hk=>by omega),χ (qac.refl _ _)⟩
 case round=>
  obtain⟨j,hj,rfl,Hf,HB⟩:=hrel
  by_cases hlt:j<n
  ·obtain⟨x,hx⟩:∃x,l[j]? =some x:=⟨_,qaa (by rw[Hn.out];exact hlt)⟩
   obtain⟨b,o,hA,hb⟩:=Y3 Hr.out (by rw[Z9.Zp,Hn.out];omega)
   subst hA
   have hcx:=Yy (Hr.out.below HB.out) hx
   have HX:=χ hx
   have Wz:(j:Int)<(n:Int):=by omega
   have hj0:(0:Int)<=(j:Int):=by omega
   clear hx
   cases hp:VE x with
   |false=>
    have V7:Hid (∀(k:Nat) x,k<j+1->l[k]? =some x->VE x=false):=χ fun k y hk hy=>by
     by_cases e:k=j
     ·subst e
      rw[HX.out]at hy
      injection hy with hy
      rw[<-hy];exact hp
     ·exact Hf.out k y (by omega) hy
    go_wp2_with (first|(go_at_call 247;(with_reducible refine(EI _ _).mono ?_);rintro e w2 ⟨he,hw⟩;subst hw;rw[hp]at he;obtain rfl:=he))
    have HB2:=HB
    go_roundw
    case rel=>exact⟨j+1,by omega,by go_num,V7,HB2⟩
    case measure=>simp[intOf];omega
   |true=>
    have hrt:Hid (r=true):=χ (by rw[<-Hb.out];exact qai.2 ⟨x,qab HX.out,hp⟩)
    go_wp2_with (first|(go_at_call 247;(with_reducible refine(EI _ _).mono ?_);rintro e w2 ⟨he,hw⟩;subst hw;rw[hp]at he;obtain rfl:=he))
    have HB2:=HB
    go_ret
    exact⟨⟨(j:Int),rfl,by rw[hrt.out];simp⟩,HB2.out⟩
  ·obtain rfl:j=n:=by omega
   have hrf:Hid (r=false):=χ (by
    rw[<-Hb.out]
    refine qah.2 fun y hy=>?_
    obtain⟨k,hk,rfl⟩:=qaf hy
    rw[Hf.out k _ (by rw[<-Hn.out];exact hk) (qaa hk)]
    exact qag)
   go_wp2
   go_ret
   exact⟨⟨-1,rfl,by rw[hrf.out];rfl⟩,HB.out⟩
theorem LC(l:List Int)(A:Option Addr)(n c:Nat)(w:qad)(hn:l.length=n)(hr:Rd w w.heap.size A (Z9.ZM l))(hm:n<=1000000):
  qae Tryz.prog 198 #[.slice A n c,.func (.func 247) #[] #[]] w fun e w'=>e=.returned (.bool (l.any VE))/\qac w.heap.size w w':=by
 have HI:=χ (Cq l A n c w hn hr hm _ rfl)
 generalize l.any VE=r at*
 clear hn hr
 go_enter Tryz.func198,Tryz.ntmps198
 go_wp2_with (go_at_call 243;(with_reducible refine HI.out.mono ?_);rintro e w2 ⟨⟨k,he,hk⟩,hbl⟩;obtain rfl:=he;have HK:=χ hk;have HB:=χ hbl;clear hk hbl)
 go_ret
 exact⟨Ut HK.out.symm,HB.out⟩
theorem Co(l:List Z9.Zz)(ho:∀m∈l,Z9.YS m)(A:Option Addr)(n c:Nat)(w:qad)(hn:l.length=n)(hr:Rd w w.heap.size A (YZ l))(hm:n<=1000000)(r:Bool)(hr0:l.any UK=r):
  qae Tryz.prog 105 #[.slice A n c,.func (.func 248) #[] #[]] w fun e w'=>(∃k:Int,e=.returned (.int .i64 k)/\decide (0<=k)=r)/\qac w.heap.size w w':=by
 have Hn:=χ hn
 have Hr:=χ hr
 have Hb:=χ hr0
 have HO:=χ ho
 clear ho
 clear hn hr hr0
 go_enter Tryz.func105,Tryz.ntmps105
 go_wp2
 go_loopw [5,8] (fun _ i wr=>∃j:Nat,j<=n/\i=.int .i64 j/\Hid (∀(k:Nat) x,k<j->l[k]? =some x->UK x=false)/\Hid (qac w.heap.size w wr)) (fun _ i _=>n-(intOf i).toNat)
 case atStart=>exact⟨0,Nat.zero_le _,rfl,χ (fun k s hk=>by omega),χ (qac.refl _ _)⟩
 case round=>
  obtain⟨j,hj,rfl,Hf,HB⟩:=hrel
  by_cases hlt:j<n
  ·obtain⟨x,hx⟩:∃x,l[j]? =some x:=⟨_,qaa (by rw[Hn.out];exact hlt)⟩
   have hox:=HO.out x (qab hx)
   obtain⟨b,o,hA,hb⟩:=Y3 Hr.out (by rw[Y2 HO.out,Hn.out];omega)
   subst hA
   have OE:=χ (Yo (Hr.out.below HB.out) HO.out hx)
   have UU:=χ (YI x hox)
   have I7:Hid (∀u:qad,qae Tryz.prog 248 #[.agg (Z9.ZX x).toArray] u fun e w'=>e=.returned (.bool (UK x))/\qac u.heap.size u w'):=χ (fun u=>uw x hox u)
   clear hox
   generalize hcx:Z9.ZX x=cx at*
   have HX:=χ hx
   have Wz:(j:Int)<(n:Int):=by omega
   have hj0:(0:Int)<=(j:Int):=by omega
   clear hx
   cases hp:UK x with
   |false=>
    have V7:Hid (∀(k:Nat) x,k<j+1->l[k]? =some x->UK x=false):=χ fun k y hk hy=>by
     by_cases e:k=j
     ·subst e
      rw[HX.out]at hy
      injection hy with hy
      rw[<-hy];exact hp
     ·exact Hf.out k y (by omega) hy
    go_wp2_with (first|(refine wpList_load_mid rfl 40 (.tmp 14) rfl b (o+j*14) rfl cx _ OE.out Tryz.underlying40 rfl UU.out ?_)|(go_at_call 248;(with_reducible refine(I7.out _).mono ?_);rintro e w2 ⟨he,hbl⟩;rw[hp]at he;obtain rfl:=he;have HB2:=χ (HB.out.trans (hbl.mono HB.out.size));clear hbl))
    go_roundw
    case rel=>exact⟨j+1,by omega,by go_num,V7,HB2⟩
    case measure=>simp[intOf];omega
   |true=>
    have hrt:Hid (r=true):=χ (by rw[<-Hb.out];exact qai.2 ⟨x,qab HX.out,hp⟩)
    go_wp2_with (first|(refine wpList_load_mid rfl 40 (.tmp 14) rfl b (o+j*14) rfl cx _ OE.out Tryz.underlying40 rfl UU.out ?_)|(go_at_call 248;(with_reducible refine(I7.out _).mono ?_);rintro e w2 ⟨he,hbl⟩;rw[hp]at he;obtain rfl:=he;have HB2:=χ (HB.out.trans (hbl.mono HB.out.size));clear hbl))
    go_ret
    exact⟨⟨(j:Int),rfl,by rw[hrt.out];simp⟩,HB2.out⟩
  ·obtain rfl:j=n:=by omega
   have hrf:Hid (r=false):=χ (by
    rw[<-Hb.out]
    refine qah.2 fun y hy=>?_
    obtain⟨k,hk,rfl⟩:=qaf hy
    rw[Hf.out k _ (by rw[<-Hn.out];exact hk) (qaa hk)]
    exact qag)
   go_wp2
   go_ret
   exact⟨⟨-1,rfl,by rw[hrf.out];rfl⟩,HB.out⟩
theorem LB(l:List Z9.Zz)(ho:∀m∈l,Z9.YS m)(A:Option Addr)(n c:Nat)(w:qad)(hn:l.length=n)(hr:Rd w w.heap.size A (YZ l))(hm:n<=1000000):
  qae Tryz.prog 158 #[.slice A n c,.func (.func 248) #[] #[]] w fun e w'=>e=.returned (.bool (l.any UK))/\qac w.heap.size w w':=by
 have HI:=χ (Co l ho A n c w hn hr hm _ rfl)
 generalize l.any UK=r at*
 clear hn hr
 go_enter Tryz.func158,Tryz.ntmps158
 go_wp2_with (go_at_call 105;(with_reducible refine HI.out.mono ?_);rintro e w2 ⟨⟨k,he,hk⟩,hbl⟩;obtain rfl:=he;have HK:=χ hk;have HB:=χ hbl;clear hk hbl)
 go_ret
 exact⟨Ut HK.out.symm,HB.out⟩
theorem Cn(l:List (List UInt8))(L:List Sc)(A:Option Addr)(n c:Nat)(w:qad)(hn:l.length=n)(hr:Y6 w w.heap.size A L l)(hm:n<=1000000)(r:Bool)(hr0:l.any TD=r):
  qae Tryz.prog 259 #[.slice A n c,.func (.func 224) #[] #[]] w fun e w'=>(∃k:Int,e=.returned (.int .i64 k)/\decide (0<=k)=r)/\qac w.heap.size w w':=by
 have Hn:=χ hn
 have Hr:=χ hr
 have Hb:=χ hr0
 clear hn hr hr0
 go_enter Tryz.func259,Tryz.ntmps259
 go_wp2
 go_loopw [5,8] (fun _ i wr=>∃j:Nat,j<=n/\i=.int .i64 j/\Hid (∀(k:Nat) x,k<j->l[k]? =some x->TD x=false)/\Hid (qac w.heap.size w wr)) (fun _ i _=>n-(intOf i).toNat)
 case atStart=>exact⟨0,Nat.zero_le _,rfl,χ (fun k s hk=>by omega),χ (qac.refl _ _)⟩
 case round=>
  obtain⟨j,hj,rfl,Hf,HB⟩:=hrel
  by_cases hlt:j<n
  ·obtain⟨x,hx⟩:∃x,l[j]? =some x:=⟨_,qaa (by rw[Hn.out];exact hlt)⟩
   obtain⟨b,o,hA,hb⟩:=Hr.out.first (by rw[Hn.out];omega)
   subst hA
   obtain⟨S,-,hcx,-,-,-⟩:=(Hr.out.below HB.out).get hx
   have HX:=χ hx
   have Wz:(j:Int)<(n:Int):=by omega
   have hj0:(0:Int)<=(j:Int):=by omega
   clear hx
   cases hp:TD x with
   |false=>
    have V7:Hid (∀(k:Nat) x,k<j+1->l[k]? =some x->TD x=false):=χ fun k y hk hy=>by
     by_cases e:k=j
     ·subst e
      rw[HX.out]at hy
      injection hy with hy
      rw[<-hy];exact hp
     ·exact Hf.out k y (by omega) hy
    go_wp2_with (first|(go_at_call 224;(with_reducible refine(EH x _ _ _ rfl _).mono ?_);rintro e w2 ⟨he,hw⟩;subst hw;rw[hp]at he;obtain rfl:=he))
    have HB2:=HB
    go_roundw
    case rel=>exact⟨j+1,by omega,by go_num,V7,HB2⟩
    case measure=>simp[intOf];omega
   |true=>
    have hrt:Hid (r=true):=χ (by rw[<-Hb.out];exact qai.2 ⟨x,qab HX.out,hp⟩)
    go_wp2_with (first|(go_at_call 224;(with_reducible refine(EH x _ _ _ rfl _).mono ?_);rintro e w2 ⟨he,hw⟩;subst hw;rw[hp]at he;obtain rfl:=he))
    have HB2:=HB
    go_ret
    exact⟨⟨(j:Int),rfl,by rw[hrt.out];simp⟩,HB2.out⟩
  ·obtain rfl:j=n:=by omega
   have hrf:Hid (r=false):=χ (by
    rw[<-Hb.out]
    refine qah.2 fun y hy=>?_
    obtain⟨k,hk,rfl⟩:=qaf hy
    rw[Hf.out k _ (by rw[<-Hn.out];exact hk) (qaa hk)]
    exact qag)
   go_wp2
   go_ret
   exact⟨⟨-1,rfl,by rw[hrf.out];rfl⟩,HB.out⟩
theorem LA(l:List (List UInt8))(L:List Sc)(A:Option Addr)(n c:Nat)(w:qad)(hn:l.length=n)(hr:Y6 w w.heap.size A L l)(hm:n<=1000000):
  qae Tryz.prog 223 #[.slice A n c,.func (.func 224) #[] #[]] w fun e w'=>e=.returned (.bool (l.any TD))/\qac w.heap.size w w':=by
 have HI:=χ (Cn l L A n c w hn hr hm _ rfl)
 generalize l.any TD=r at*
 clear hn hr
 go_enter Tryz.func223,Tryz.ntmps223
 go_wp2_with (go_at_call 259;(with_reducible refine HI.out.mono ?_);rintro e w2 ⟨⟨k,he,hk⟩,hbl⟩;obtain rfl:=he;have HK:=χ hk;have HB:=χ hbl;clear hk hbl)
 go_ret
 exact⟨Ut HK.out.symm,HB.out⟩
theorem Fj(w:qad)(j i g p:Int):Bk (w.alloc (.cells #[j,i,g,p] 29)) w.heap.size 29 [j,i,g,p]:=Bk.new w 29 [j,i,g,p]
theorem Gv(j i g p:Int)(l:List Int)(A:Option Addr)(n c:Nat)(w:qad)(hn:l.length=n)(hr:Rd w w.heap.size A (Z9.ZM l))(hm:n<=1000000):
  qae Tryz.prog 206 #[.agg #[j,i,g,p],.slice A n c] w fun e w'=>e=.returned (.bool (((n:Int)==g)&& !l.any VE))/\qac w.heap.size w w':=by
 have hb:=ZZ w (.cells #[j,i,g,p] 29)
 have HC:=χ (LC l A n c _ hn ((hr.below hb).more hb.size) hm)
 have HB:=χ hb
 generalize l.any VE=r at*
 clear hr hb hn
 by_cases h:(n:Int)=g
 ·have e:((n:Int)==g)=true:=by simp[h]
  rw[e]
  go_enter Tryz.func206,Tryz.ntmps206
  go_wp2_with (go_at_call 198;(with_reducible refine HC.out.mono ?_);rintro e w2 ⟨he,hbl⟩;obtain rfl:=he;have HB2:=χ (HB.out.trans (hbl.mono HB.out.size));clear hbl)
  go_ret
  exact⟨rfl,HB2.out⟩
 ·have e:((n:Int)==g)=false:=by simp[h]
  rw[e]
  clear h
  go_enter Tryz.func206,Tryz.ntmps206
  go_wp2
  go_ret
  exact⟨rfl,HB.out⟩
theorem Gu(j i g p:Int)(l:List Z9.Zz)(ho:∀m∈l,Z9.YS m)(A:Option Addr)(n c:Nat)(w:qad)(hn:l.length=n)(hr:Rd w w.heap.size A (YZ l))(hm:n<=1000000):
  qae Tryz.prog 208 #[.agg #[j,i,g,p],.slice A n c] w fun e w'=>e=.returned (.bool (((n:Int)==i)&& !l.any UK))/\qac w.heap.size w w':=by
 have hb:=ZZ w (.cells #[j,i,g,p] 29)
 have HC:=χ (LB l ho A n c _ hn ((hr.below hb).more hb.size) hm)
 have HB:=χ hb
 generalize l.any UK=r at*
 clear hr hb hn
 by_cases h:(n:Int)=i
 ·have e:((n:Int)==i)=true:=by simp[h]
  rw[e]
  go_enter Tryz.func208,Tryz.ntmps208
  go_wp2_with (go_at_call 158;(with_reducible refine HC.out.mono ?_);rintro e w2 ⟨he,hbl⟩;obtain rfl:=he;have HB2:=χ (HB.out.trans (hbl.mono HB.out.size));clear hbl)
  go_ret
  exact⟨rfl,HB2.out⟩
 ·have e:((n:Int)==i)=false:=by simp[h]
  rw[e]
  clear h
  go_enter Tryz.func208,Tryz.ntmps208
  go_wp2
  go_ret
  exact⟨rfl,HB.out⟩
def beyond(l:List UInt8)(x:Int):Bool:=(Bits.fst l x 512 true (8*l.length)).isSome
theorem JI(j i g p:Int)(abp:0<=g*p)(WV:g*p<=512)(l:List UInt8)(A:Option Addr)(n c:Nat)(w:qad)(hn:l.length=n)(hr:Rd w w.heap.size A (Z7 l))(hm:n<=1000000):
  qae Tryz.prog 207 #[.agg #[j,i,g,p],.slice A n c] w fun e w'=>e=.returned (.bool (((n:Int)==64)&& !beyond l (g*p)))/\qac w.heap.size w w':=by
 have hb:=ZZ w (.cells #[j,i,g,p] 29)
 obtain⟨k,hk⟩:∃k:Int,Bits.yj (Bits.fst l (g*p) 512 true (8*l.length))=.tuple #[k,.bool (beyond l (g*p))]:=by
  unfold beyond
  cases Bits.fst l (g*p) 512 true (8*l.length)with
  |none=>exact⟨_,rfl⟩
  |some q=>exact⟨_,rfl⟩
 have HC:=χ (Bits.NL l A n c w.heap.size (g*p) 512 true _ hn (hr.below hb) (by omega) (by omega))
 rw[hk]at HC
 have HB:=χ hb
 have hgw:IntKind.i64.wrap (g*p)=g*p:=by rw[IntKind.wrap_i64];omega
 generalize beyond l (g*p)=r at*
 clear hr hb hn hk
 by_cases h:n=64
 ·subst h
  go_enter Tryz.func207,Tryz.ntmps207
  go_wp2_with (go_at_call 173;(with_reducible refine HC.out.mono ?_);rintro e w2 ⟨he,q,hw⟩;obtain rfl:=he;have HB2:=χ (by rw[hw];exact Z9.below_drewN HB.out q:qac w.heap.size w w2);clear hw)
  go_ret
  exact⟨rfl,HB2.out⟩
 ·have e:((n:Int)==64)=false:=by simp;omega
  rw[e]
  clear h
  go_enter Tryz.func207,Tryz.ntmps207
  go_wp2_with (go_at_call 173;(with_reducible refine HC.out.mono ?_);rintro e w2 ⟨he,q,hw⟩;obtain rfl:=he;have HB2:=χ (by rw[hw];exact Z9.below_drewN HB.out q:qac w.heap.size w w2);clear hw)
  go_ret
  exact⟨rfl,HB2.out⟩
end Go.Proofs.YtmehhgfbnfbnaaaGreat.Meta
