import Derived.Test.YtmehhgfbnfbnaaaGreatQMetaU
import Derived.Test.YtmehhgfbnfbnaaaGreatQBits
import Derived.Test.YtmehhgfbnfbnaaaGreatQSuper
import Derived.Test.YtmehhgfbnfbnaaaGreatQTk
set_option maxRecDepth 100000
set_option maxHeartbeats 25600000
open List renaming getElem?_eq_getElem->qaa,mem_of_getElem?->qab,getElem_of_mem->qaf,any_eq_false->qah,any_eq_true->qai
open Go.RowKit renaming Below->qac
open Go renaming World->qad,Calls->qae
open Bool renaming false_ne_true->qag
namespace Go.Proofs.YtmehhgfbnfbnaaaGreat
theorem zl0{P:Prop}(h:P:=by
 go_enter Tryz.func207,Tryz.ntmps207
 go_wp2_with (go_at_call 173;(with_reducible refine HC.out.mono ?_);rintro e w2 ⟨he,q,hw⟩;obtain rfl:=he;have HB2:=χ (by rw[hw];exact Z9.below_drewN HB.out q:qac w.heap.size w w2);clear hw)
 go_ret
 exact⟨rfl,HB2.out⟩):P:=h
theorem zl1{P:Prop}(h:P:=by
 obtain rfl:j=n:=by omega
 have hrf:Hid (r=false):=χ (by
  rw[<-Hb.out]
  refine qah.2 fun y hy=>?_
  obtain⟨k,hk,rfl⟩:=qaf hy
  rw[Hf.out k _ (by rw[<-Hn.out];exact hk) (qaa hk)]
  exact qag)
 go_wp2
 go_ret
 exact⟨⟨-1,rfl,by rw[hrf.out];rfl⟩,HB.out⟩):P:=h
theorem zl2{P:Prop}(h:P:=by
 rw[e]
 go_enter Tryz.func247,Tryz.ntmps247
 go_wp2
 go_ret
 exact⟨rfl,rfl⟩):P:=h
theorem zl3{P:Prop}(h:P:=by
 exact⟨0,Nat.zero_le _,rfl,χ (fun k s hk=>by omega),χ (qac.refl _ _)⟩):P:=h
theorem zl4{P:Prop}(h:P:=by
 rw[HX.out]at hy
 injection hy with hy
 rw[<-hy];exact hp):P:=h
end Go.Proofs.YtmehhgfbnfbnaaaGreat
namespace Go.Proofs.YtmehhgfbnfbnaaaGreat.Meta
open Go.Proofs.YtmehhgfbnfbnaaaGreat
open Go.RowKit
def UM(x:Int):Bool:=decide (x<0)||decide (16<x)
theorem Bt(x:Int)(w:qad):qae Tryz.prog 247 #[x] w fun e w'=>e=.returned (.bool (UM x))/\w=w':=by
 by_cases h0:x<0
 ·have e:UM x=true:=by simp[UM,h0]
  exact zl2
 ·by_cases h1:16<x
  ·have e:UM x=true:=by simp[UM,h1]
   exact zl2
  ·have e:UM x=false:=by simp[UM,h0,h1]
   exact zl2
noncomputable def TM(n:Z9.ZC):Bool:=!Z9.ZP n
theorem l7(n:Z9.ZC)(ho:Z9.YP n)(w:qad):qae Tryz.prog 248 #[.agg (Z9.ZX n).toArray] w fun e w'=>e=.returned (.bool (TM n))/\qac w.heap.size w w':=by
 obtain⟨r,hr⟩:∃r,Z9.ZP n=r:=⟨_,rfl⟩
 have HR:Hid (∀u:qad,qae Tryz.prog 111 #[.agg (Z9.ZX n).toArray] u fun e w'=>e=.returned (.bool r)/\qac u.heap.size u w'):=χ (fun u=>by
  have:=Z9.XL n ho u
  rwa[hr]at this)
 have e:TM n= !r:=by unfold TM;rw[hr]
 rw[e]
 clear e hr
 obtain⟨k,rr,l,s,p⟩:=n
 obtain⟨p0,p1,p2,p3,p4,p5,p6,p7,p8,p9,hp⟩:=Z9.Xh ho.len
 simp only at hp
 subst hp
 clear ho
 simp only[Z9.ZX,Z9.ZM,List.map_cons,List.map_nil]at HR⊢
 go_enter Tryz.func248,Tryz.ntmps248
 go_wp2_with (go_at_call 111;(with_reducible refine(HR.out _).mono ?_);rintro e w2 ⟨he,hb⟩;obtain rfl:=he;have HB:=χ (((Z0 w _).trans (hb.mono (by simp)):qac w.heap.size w w2));clear hb)
 go_ret
 exact⟨rfl,HB.out⟩
def Sg(b:List UInt8):Bool:=b.length != 64
theorem Br(b:List UInt8)(A:Option Addr)(n c:Nat)(hn:b.length=n)(w:qad):qae Tryz.prog 224 #[.slice A n c] w fun e w'=>e=.returned (.bool (Sg b))/\w=w':=by
 have e:Sg b=((n:Int) != 64):=by unfold Sg;rw[hn,Bool.eq_iff_iff];simp;omega
 rw[e]
 go_enter Tryz.func224,Tryz.ntmps224
 go_wp2
 go_ret
 exact⟨rfl,rfl⟩
theorem yD(l:List Int)(A:Option Addr)(n c:Nat)(w:qad)(hn:l.length=n)(hr:Rd w w.heap.size A (Z9.ZM l))(hm:n<=1000000)(r:Bool)(hr0:l.any UM=r):
  qae Tryz.prog 243 #[.slice A n c,.func (.func 247) #[] #[]] w fun e w'=>(∃k:Int,e=.returned (.int .i64 k)/\decide (0<=k)=r)/\qac w.heap.size w w':=by
 have Hn:=χ hn
 have Hr:=χ hr
 have Hb:=χ hr0
 clear hn hr hr0
 go_enter Tryz.func243,Tryz.ntmps243
 go_wp2
 go_loopw [5,8] (fun _ i wr=>∃j:Nat,j<=n/\i=.int .i64 j/\Hid (∀(k:Nat) x,k<j->l[k]? =some x->UM x=false)/\Hid (qac w.heap.size w wr)) (fun _ i _=>n-(intOf i).toNat)
 case atStart=>exact zl3
 case round=>
  obtain⟨j,hj,rfl,Hf,HB⟩:=hrel
  by_cases hlt:j<n
  ·obtain⟨x,hx⟩:∃x,l[j]? =some x:=⟨_,qaa (by rw[Hn.out];exact hlt)⟩
   obtain⟨b,o,hA,hb⟩:=YU Hr.out (by rw[Z9.Zt,Hn.out];omega)
   subst hA
   have hcx:=Yf (Hr.out.below HB.out) hx
   have HX:=χ hx
   have V7:(j:Int)<(n:Int):=by omega
   have hj0:(0:Int)<=(j:Int):=by omega
   clear hx
   cases hp:UM x with
   |false=>
    have Wy:Hid (∀(k:Nat) x,k<j+1->l[k]? =some x->UM x=false):=χ fun k y hk hy=>by
     by_cases e:k=j
     ·subst e
      exact zl4
     ·exact Hf.out k y (by omega) hy
    go_wp2_with (first|(go_at_call 247;(with_reducible refine(Bt _ _).mono ?_);rintro e w2 ⟨he,hw⟩;subst hw;rw[hp]at he;obtain rfl:=he))
    have HB2:=HB
    go_roundw
    case rel=>exact⟨j+1,by omega,by go_num,Wy,HB2⟩
    case measure=>simp[intOf];omega
   |true=>
    have hrt:Hid (r=true):=χ (by rw[<-Hb.out];exact qai.2 ⟨x,qab HX.out,hp⟩)
    go_wp2_with (first|(go_at_call 247;(with_reducible refine(Bt _ _).mono ?_);rintro e w2 ⟨he,hw⟩;subst hw;rw[hp]at he;obtain rfl:=he))
    have HB2:=HB
    go_ret
    exact⟨⟨(j:Int),rfl,by rw[hrt.out];simp⟩,HB2.out⟩
  ·exact zl1
theorem JA(l:List Int)(A:Option Addr)(n c:Nat)(w:qad)(hn:l.length=n)(hr:Rd w w.heap.size A (Z9.ZM l))(hm:n<=1000000):
  qae Tryz.prog 198 #[.slice A n c,.func (.func 247) #[] #[]] w fun e w'=>e=.returned (.bool (l.any UM))/\qac w.heap.size w w':=by
 have HI:=χ (yD l A n c w hn hr hm _ rfl)
 generalize l.any UM=r at*
 clear hn hr
 go_enter Tryz.func198,Tryz.ntmps198
 go_wp2_with (go_at_call 243;(with_reducible refine HI.out.mono ?_);rintro e w2 ⟨⟨k,he,hk⟩,hbl⟩;obtain rfl:=he;have HK:=χ hk;have HB:=χ hbl;clear hk hbl)
 go_ret
 exact⟨Tq HK.out.symm,HB.out⟩
theorem yC(l:List Z9.ZC)(ho:∀m∈l,Z9.YP m)(A:Option Addr)(n c:Nat)(w:qad)(hn:l.length=n)(hr:Rd w w.heap.size A (Y3 l))(hm:n<=1000000)(r:Bool)(hr0:l.any TM=r):
  qae Tryz.prog 105 #[.slice A n c,.func (.func 248) #[] #[]] w fun e w'=>(∃k:Int,e=.returned (.int .i64 k)/\decide (0<=k)=r)/\qac w.heap.size w w':=by
 have Hn:=χ hn
 have Hr:=χ hr
 have Hb:=χ hr0
 have HO:=χ ho
 clear ho
 clear hn hr hr0
 go_enter Tryz.func105,Tryz.ntmps105
 go_wp2
 go_loopw [5,8] (fun _ i wr=>∃j:Nat,j<=n/\i=.int .i64 j/\Hid (∀(k:Nat) x,k<j->l[k]? =some x->TM x=false)/\Hid (qac w.heap.size w wr)) (fun _ i _=>n-(intOf i).toNat)
 case atStart=>exact zl3
 case round=>
  obtain⟨j,hj,rfl,Hf,HB⟩:=hrel
  by_cases hlt:j<n
  ·obtain⟨x,hx⟩:∃x,l[j]? =some x:=⟨_,qaa (by rw[Hn.out];exact hlt)⟩
   have hox:=HO.out x (qab hx)
   obtain⟨b,o,hA,hb⟩:=YU Hr.out (by rw[Y8 HO.out,Hn.out];omega)
   subst hA
   have Mw:=χ (Yi (Hr.out.below HB.out) HO.out hx)
   have TW:=χ (Yu x hox)
   have E5:Hid (∀u:qad,qae Tryz.prog 248 #[.agg (Z9.ZX x).toArray] u fun e w'=>e=.returned (.bool (TM x))/\qac u.heap.size u w'):=χ (fun u=>l7 x hox u)
   clear hox
   generalize hcx:Z9.ZX x=cx at*
   have HX:=χ hx
   have V7:(j:Int)<(n:Int):=by omega
   have hj0:(0:Int)<=(j:Int):=by omega
   clear hx
   cases hp:TM x with
   |false=>
    have Wy:Hid (∀(k:Nat) x,k<j+1->l[k]? =some x->TM x=false):=χ fun k y hk hy=>by
     by_cases e:k=j
     ·subst e
      exact zl4
     ·exact Hf.out k y (by omega) hy
    go_wp2_with (first|(refine wpList_load_mid rfl 40 (.tmp 14) rfl b (o+j*14) rfl cx _ Mw.out Tryz.underlying40 rfl TW.out ?_)|(go_at_call 248;(with_reducible refine(E5.out _).mono ?_);rintro e w2 ⟨he,hbl⟩;rw[hp]at he;obtain rfl:=he;have HB2:=χ (HB.out.trans (hbl.mono HB.out.size));clear hbl))
    go_roundw
    case rel=>exact⟨j+1,by omega,by go_num,Wy,HB2⟩
    case measure=>simp[intOf];omega
   |true=>
    have hrt:Hid (r=true):=χ (by rw[<-Hb.out];exact qai.2 ⟨x,qab HX.out,hp⟩)
    go_wp2_with (first|(refine wpList_load_mid rfl 40 (.tmp 14) rfl b (o+j*14) rfl cx _ Mw.out Tryz.underlying40 rfl TW.out ?_)|(go_at_call 248;(with_reducible refine(E5.out _).mono ?_);rintro e w2 ⟨he,hbl⟩;rw[hp]at he;obtain rfl:=he;have HB2:=χ (HB.out.trans (hbl.mono HB.out.size));clear hbl))
    go_ret
    exact⟨⟨(j:Int),rfl,by rw[hrt.out];simp⟩,HB2.out⟩
  ·exact zl1
theorem Jz(l:List Z9.ZC)(ho:∀m∈l,Z9.YP m)(A:Option Addr)(n c:Nat)(w:qad)(hn:l.length=n)(hr:Rd w w.heap.size A (Y3 l))(hm:n<=1000000):
  qae Tryz.prog 158 #[.slice A n c,.func (.func 248) #[] #[]] w fun e w'=>e=.returned (.bool (l.any TM))/\qac w.heap.size w w':=by
 have HI:=χ (yC l ho A n c w hn hr hm _ rfl)
 generalize l.any TM=r at*
 clear hn hr
 go_enter Tryz.func158,Tryz.ntmps158
 go_wp2_with (go_at_call 105;(with_reducible refine HI.out.mono ?_);rintro e w2 ⟨⟨k,he,hk⟩,hbl⟩;obtain rfl:=he;have HK:=χ hk;have HB:=χ hbl;clear hk hbl)
 go_ret
 exact⟨Tq HK.out.symm,HB.out⟩
theorem yB(l:List (List UInt8))(L:List Sc)(A:Option Addr)(n c:Nat)(w:qad)(hn:l.length=n)(hr:Zd w w.heap.size A L l)(hm:n<=1000000)(r:Bool)(hr0:l.any Sg=r):
  qae Tryz.prog 259 #[.slice A n c,.func (.func 224) #[] #[]] w fun e w'=>(∃k:Int,e=.returned (.int .i64 k)/\decide (0<=k)=r)/\qac w.heap.size w w':=by
 have Hn:=χ hn
 have Hr:=χ hr
 have Hb:=χ hr0
 clear hn hr hr0
 go_enter Tryz.func259,Tryz.ntmps259
 go_wp2
 go_loopw [5,8] (fun _ i wr=>∃j:Nat,j<=n/\i=.int .i64 j/\Hid (∀(k:Nat) x,k<j->l[k]? =some x->Sg x=false)/\Hid (qac w.heap.size w wr)) (fun _ i _=>n-(intOf i).toNat)
 case atStart=>exact zl3
 case round=>
  obtain⟨j,hj,rfl,Hf,HB⟩:=hrel
  by_cases hlt:j<n
  ·obtain⟨x,hx⟩:∃x,l[j]? =some x:=⟨_,qaa (by rw[Hn.out];exact hlt)⟩
   obtain⟨b,o,hA,hb⟩:=Hr.out.first (by rw[Hn.out];omega)
   subst hA
   obtain⟨S,-,hcx,-,-,-⟩:=(Hr.out.below HB.out).get hx
   have HX:=χ hx
   have V7:(j:Int)<(n:Int):=by omega
   have hj0:(0:Int)<=(j:Int):=by omega
   clear hx
   cases hp:Sg x with
   |false=>
    have Wy:Hid (∀(k:Nat) x,k<j+1->l[k]? =some x->Sg x=false):=χ fun k y hk hy=>by
     by_cases e:k=j
     ·subst e
      exact zl4
     ·exact Hf.out k y (by omega) hy
    go_wp2_with (first|(go_at_call 224;(with_reducible refine(Br x _ _ _ rfl _).mono ?_);rintro e w2 ⟨he,hw⟩;subst hw;rw[hp]at he;obtain rfl:=he))
    have HB2:=HB
    go_roundw
    case rel=>exact⟨j+1,by omega,by go_num,Wy,HB2⟩
    case measure=>simp[intOf];omega
   |true=>
    have hrt:Hid (r=true):=χ (by rw[<-Hb.out];exact qai.2 ⟨x,qab HX.out,hp⟩)
    go_wp2_with (first|(go_at_call 224;(with_reducible refine(Br x _ _ _ rfl _).mono ?_);rintro e w2 ⟨he,hw⟩;subst hw;rw[hp]at he;obtain rfl:=he))
    have HB2:=HB
    go_ret
    exact⟨⟨(j:Int),rfl,by rw[hrt.out];simp⟩,HB2.out⟩
  ·exact zl1
theorem Jy(l:List (List UInt8))(L:List Sc)(A:Option Addr)(n c:Nat)(w:qad)(hn:l.length=n)(hr:Zd w w.heap.size A L l)(hm:n<=1000000):
  qae Tryz.prog 223 #[.slice A n c,.func (.func 224) #[] #[]] w fun e w'=>e=.returned (.bool (l.any Sg))/\qac w.heap.size w w':=by
 have HI:=χ (yB l L A n c w hn hr hm _ rfl)
 generalize l.any Sg=r at*
 clear hn hr
 go_enter Tryz.func223,Tryz.ntmps223
 go_wp2_with (go_at_call 259;(with_reducible refine HI.out.mono ?_);rintro e w2 ⟨⟨k,he,hk⟩,hbl⟩;obtain rfl:=he;have HK:=χ hk;have HB:=χ hbl;clear hk hbl)
 go_ret
 exact⟨Tq HK.out.symm,HB.out⟩
theorem BU(w:qad)(j i g p:Int):Bk (w.alloc (.cells #[j,i,g,p] 29)) w.heap.size 29 [j,i,g,p]:=Bk.new w 29 [j,i,g,p]
theorem DX(j i g p:Int)(l:List Int)(A:Option Addr)(n c:Nat)(w:qad)(hn:l.length=n)(hr:Rd w w.heap.size A (Z9.ZM l))(hm:n<=1000000):
  qae Tryz.prog 206 #[.agg #[j,i,g,p],.slice A n c] w fun e w'=>e=.returned (.bool (((n:Int)==g)&& !l.any UM))/\qac w.heap.size w w':=by
 have hb:=Z0 w (.cells #[j,i,g,p] 29)
 have HC:=χ (JA l A n c _ hn ((hr.below hb).more hb.size) hm)
 have HB:=χ hb
 generalize l.any UM=r at*
 clear hr hb hn
 by_cases h:(n:Int)=g
 ·have e:((n:Int)==g)=true:=by simp[h]
  rw[e]
  go_enter Tryz.func206,Tryz.ntmps206
  go_wp2_with (go_at_call 198;(with_reducible refine HC.out.mono ?_);rintro e w2 ⟨he,hbl⟩;obtain rfl:=he;have HB2:=χ (HB.out.trans (hbl.mono HB.out.size));clear hbl)
  go_ret
  exact⟨rfl,HB2.out⟩
 ·have e:((n:Int)==g)=false:=by simp[h]
  rw[e]
  clear h
  go_enter Tryz.func206,Tryz.ntmps206
  go_wp2
  go_ret
  exact⟨rfl,HB.out⟩
theorem DV(j i g p:Int)(l:List Z9.ZC)(ho:∀m∈l,Z9.YP m)(A:Option Addr)(n c:Nat)(w:qad)(hn:l.length=n)(hr:Rd w w.heap.size A (Y3 l))(hm:n<=1000000):
  qae Tryz.prog 208 #[.agg #[j,i,g,p],.slice A n c] w fun e w'=>e=.returned (.bool (((n:Int)==i)&& !l.any TM))/\qac w.heap.size w w':=by
 have hb:=Z0 w (.cells #[j,i,g,p] 29)
 have HC:=χ (Jz l ho A n c _ hn ((hr.below hb).more hb.size) hm)
 have HB:=χ hb
 generalize l.any TM=r at*
 clear hr hb hn
 by_cases h:(n:Int)=i
 ·have e:((n:Int)==i)=true:=by simp[h]
  rw[e]
  go_enter Tryz.func208,Tryz.ntmps208
  go_wp2_with (go_at_call 158;(with_reducible refine HC.out.mono ?_);rintro e w2 ⟨he,hbl⟩;obtain rfl:=he;have HB2:=χ (HB.out.trans (hbl.mono HB.out.size));clear hbl)
  go_ret
  exact⟨rfl,HB2.out⟩
 ·have e:((n:Int)==i)=false:=by simp[h]
  rw[e]
  clear h
  go_enter Tryz.func208,Tryz.ntmps208
  go_wp2
  go_ret
  exact⟨rfl,HB.out⟩
def beyond(l:List UInt8)(x:Int):Bool:=(Bits.fst l x 512 true (8*l.length)).isSome
theorem Gr(j i g p:Int)(adW:0<=g*p)(V8:g*p<=512)(l:List UInt8)(A:Option Addr)(n c:Nat)(w:qad)(hn:l.length=n)(hr:Rd w w.heap.size A (Z6 l))(hm:n<=1000000):
  qae Tryz.prog 207 #[.agg #[j,i,g,p],.slice A n c] w fun e w'=>e=.returned (.bool (((n:Int)==64)&& !beyond l (g*p)))/\qac w.heap.size w w':=by
 have hb:=Z0 w (.cells #[j,i,g,p] 29)
 obtain⟨k,hk⟩:∃k:Int,Bits.rW (Bits.fst l (g*p) 512 true (8*l.length))=.tuple #[k,.bool (beyond l (g*p))]:=by
  unfold beyond
  cases Bits.fst l (g*p) 512 true (8*l.length)with
  |none=>exact⟨_,rfl⟩
  |some q=>exact⟨_,rfl⟩
 have HC:=χ (Bits.Lb l A n c w.heap.size (g*p) 512 true _ hn (hr.below hb) (by omega) (by omega))
 rw[hk]at HC
 have HB:=χ hb
 have hgw:IntKind.i64.wrap (g*p)=g*p:=by rw[IntKind.wrap_i64];omega
 generalize beyond l (g*p)=r at*
 clear hr hb hn hk
 by_cases h:n=64
 ·subst h
  exact zl0
 ·have e:((n:Int)==64)=false:=by simp;omega
  rw[e]
  clear h
  exact zl0
end Go.Proofs.YtmehhgfbnfbnaaaGreat.Meta
