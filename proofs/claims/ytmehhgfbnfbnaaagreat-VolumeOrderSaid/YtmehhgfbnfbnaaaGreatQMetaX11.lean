import Derived.Test.YtmehhgfbnfbnaaaGreatQMetaX1
import Derived.Test.YtmehhgfbnfbnaaaGreatQSuper
import Derived.Test.YtmehhgfbnfbnaaaGreatQInodeB
import Derived.Test.YtmehhgfbnfbnaaaGreatQTk
set_option maxRecDepth 100000
set_option maxHeartbeats 25600000
open List renaming getElem?_eq_getElem->qaa,take_of_length_le->qab
namespace Go.Proofs.YtmehhgfbnfbnaaaGreat.Meta
open Go.Proofs.YtmehhgfbnfbnaaaGreat
open Go.RowKit
noncomputable def xM(G:Geo)(l:List (List UInt8)):Bool:=Z9.Sj (G.Ok/\(l.length:Int)=3+G.i/2/\∀s∈l,s.length=64)
theorem AX{l:List (List UInt8)}:l.any Sg=false↔∀s∈l,s.length=64:=by
 rw[List.any_eq_false]
 constructor
 ·intro h x hx
  have:=h x hx
  simpa[Sg]using this
 ·intro h x hx
  have:=h x hx
  simp[Sg,this]
theorem KS(j i g p:Int)(l:List (List UInt8))(A:Option Addr)(n c:Nat)(L:List Sc)(w:World)(hn:l.length=n)(hs:Zd w w.heap.size A L l)(hm:n<=1000000):
  Calls Tryz.prog 152 #[.agg #[j,i,g,p],.slice A n c] w fun e w'=>e=.returned (.bool (xM ⟨j,i,g,p⟩ l))/\Below w.heap.size w w':=by
 have HS:=χ hs
 have HW:=χ (BU w j i g p)
 have hb0:=Z0 w (.cells #[j,i,g,p] 29)
 have HB:=χ hb0
 obtain⟨g0,g1,g2,g3⟩:=Z7 HW.out
 obtain⟨W,hW⟩:∃W,W=w.alloc (.cells #[j,i,g,p] 29):=⟨_,rfl⟩
 rw[<-hW]at HW HB g0 g1 g2 g3
 have HWE:=χ hW
 clear hb0 hs hW
 by_cases hv:ZG.Valid j i g p
 rotate_left
 ·have hr:xM ⟨j,i,g,p⟩ l=false:=Z9.WO (fun h=>hv h.1)
  rw[hr]
  have HV:Hid (∀u:World,Calls Tryz.prog 129 #[.agg #[j,i,g,p]] u fun e w'=>e=.returned (.bool false)/\ZG.Boxed u j i g p w'):=χ (fun u=>ZG.GK hv u)
  clear hv hr hn
  go_enter Tryz.func152,Tryz.ntmps152
  go_upto_region 1 with fail
  rw[<-HWE.out]
  go_wp2_with (go_at_call 129;(with_reducible refine(HV.out _).mono ?_);rintro e w1 ⟨he,hbx⟩;obtain rfl:=he;have hb:=hbx.below;replace HB:=χ (HB.out.trans (hb.mono HB.out.size));clear hb hbx)
  go_ret
  exact⟨rfl,HB.out⟩
 have HV:Hid (∀u:World,Calls Tryz.prog 129 #[.agg #[j,i,g,p]] u fun e w'=>e=.returned (.bool true)/\ZG.Boxed u j i g p w'):=χ (fun u=>ZG.Wq hv u)
 have HM:Hid (∀u:World,Calls Tryz.prog 72 #[.agg #[j,i,g,p]] u fun e w'=>e=.returned (.int .i64 (3+i/2))/\Below u.heap.size u w'):=χ (fun u=>ZG.Q7 hv u)
 by_cases hlen:(n:Int)=3+i/2
 rotate_left
 ·have hr:xM ⟨j,i,g,p⟩ l=false:=Z9.WO (fun h=>hlen (by rw[<-hn];exact h.2.1))
  rw[hr]
  have hne:((n:Int)==3+i/2)=false:=by simpa using hlen
  clear hv hr hn hlen
  go_enter Tryz.func152,Tryz.ntmps152
  go_upto_region 1 with fail
  rw[<-HWE.out]
  go_wp2_with (first
   |(go_at_call 129;(with_reducible refine(HV.out _).mono ?_);rintro e w1 ⟨he,hbx⟩;obtain rfl:=he;have hb:=hbx.below;replace HB:=χ (HB.out.trans (hb.mono HB.out.size));replace HW:=χ (HW.out.below hb HW.out.lt);clear hb hbx g0 g1 g2 g3;obtain⟨g0,g1,g2,g3⟩:=Z7 HW.out)
   |(go_at_call 72;(with_reducible refine(HM.out _).mono ?_);rintro e w2 ⟨he,hb⟩;obtain rfl:=he;replace HB:=χ (HB.out.trans (hb.mono HB.out.size));clear hb g0 g1 g2 g3))
  go_ret
  exact⟨rfl,HB.out⟩
 have hr:xM ⟨j,i,g,p⟩ l= !l.any Sg:=by
  cases hb:l.any Sg with
  |false=>exact Z9.VD ⟨hv,by rw[hn];exact hlen,AX.1 hb⟩
  |true=>exact Z9.WO (fun h=>by rw[AX.2 h.2.2]at hb;cases hb)
 rw[hr]
 have HC:Hid (∀u:World,Below w.heap.size w u->Calls Tryz.prog 223 #[.slice A n c,.func (.func 224) #[] #[]] u fun e w'=>e=.returned (.bool (l.any Sg))/\Below u.heap.size u w'):=χ (fun u hu=>Jy l L A n c u hn ((HS.out.below hu).more hu.size) hm)
 generalize l.any Sg=r at*
 have hne:((n:Int)==3+i/2)=true:=by simp[hlen]
 clear hv hr hn hlen
 go_enter Tryz.func152,Tryz.ntmps152
 go_upto_region 1 with fail
 rw[<-HWE.out]
 go_wp2_with (first
  |(go_at_call 129;(with_reducible refine(HV.out _).mono ?_);rintro e w1 ⟨he,hbx⟩;obtain rfl:=he;have hb:=hbx.below;replace HB:=χ (HB.out.trans (hb.mono HB.out.size));replace HW:=χ (HW.out.below hb HW.out.lt);clear hb hbx g0 g1 g2 g3;obtain⟨g0,g1,g2,g3⟩:=Z7 HW.out)
  |(go_at_call 72;(with_reducible refine(HM.out _).mono ?_);rintro e w2 ⟨he,hb⟩;obtain rfl:=he;replace HB:=χ (HB.out.trans (hb.mono HB.out.size));clear hb g0 g1 g2 g3)
  |(go_at_call 223;(with_reducible refine(HC.out _ HB.out).mono ?_);rintro e w3 ⟨he,hb⟩;obtain rfl:=he;replace HB:=χ (HB.out.trans (hb.mono HB.out.size));clear hb))
 go_ret
 exact⟨rfl,HB.out⟩
theorem qx(l m:List (List UInt8))(A1 A2:Option Addr)(n c d:Nat)(L M:List Sc)(w:World)(hl:l.length=n)(hm:m.length=n)(h1:Zd w w.heap.size A1 L l)(h2:Zd w w.heap.size A2 M m)(hn:n<=1000000):
  Calls Tryz.prog 156 #[.slice A1 n c,.slice A2 n d,.func (.func 145) #[] #[]] w fun e w'=>e=.returned (.bool (l==m))/\w=w':=by
 have H1:=χ h1
 have H2:=χ h2
 have HL:=χ hl
 have HMl:=χ hm
 clear h1 h2 hl hm
 go_enter Tryz.func156,Tryz.ntmps156
 go_wp2
 go_loopw [7,8,9,17] (fun _ _ _ k wr=>∃i:Nat,k=.int .i64 i/\i<=n/\Hid (l.take i=m.take i)/\w=wr) (fun _ _ _ k _=>n-(intOf k).toNat)
 case atStart=>exact⟨0,rfl,Nat.zero_le _,χ (by simp),rfl⟩
 case round=>
  obtain⟨i,rfl,hi,HE,hw⟩:=hrel
  subst hw
  by_cases hlt:i<n
  ·have V7:(i:Int)<(n:Int):=by omega
   have hi0:(0:Int)<=(i:Int):=by omega
   obtain⟨b1,o1,hA1,-⟩:=H1.out.first (by rw[HL.out];omega)
   subst hA1
   obtain⟨b2,o2,hA2,-⟩:=H2.out.first (by rw[HMl.out];omega)
   subst hA2
   obtain⟨x,hx⟩:∃x,l[i]? =some x:=⟨_,qaa (by rw[HL.out];exact hlt)⟩
   obtain⟨y,hy⟩:∃y,m[i]? =some y:=⟨_,qaa (by rw[HMl.out];exact hlt)⟩
   obtain⟨s,-,hcx,hrx,-,-⟩:=H1.out.get hx
   obtain⟨t,-,hcy,hry,-,-⟩:=H2.out.get hy
   have HQ:=χ (Z9.XO x y s.A x.length s.c t.A y.length t.c _ _ w rfl hrx rfl hry)
   have HX:=χ hx
   have HY:=χ hy
   clear hx hy hrx hry
   cases hxy:(x==y)
   ·have HF:Hid ((l==m)=false):=χ (by
     cases h:(l==m)with
     |false=>rfl
     |true=>
      have h:l=m:=by simpa using h
      have h1:=HY.out
      rw[<-h,HX.out]at h1
      injection h1 with h1
      rw[h1]at hxy
      simp at hxy)
    go_wp2_with (go_at_call 145;(with_reducible refine HQ.out.mono ?_);rintro e w2 ⟨he,hw⟩;rw[hxy]at he;obtain rfl:=he;subst hw)
    go_ret
    exact⟨Tq HF.out,rfl⟩
   ·have HE2:Hid (l.take (i+1)=m.take (i+1)):=χ (by
     have h:x=y:=by simpa using hxy
     rw[List.take_add_one,List.take_add_one,HE.out,HX.out,HY.out,h])
    go_wp2_with (go_at_call 145;(with_reducible refine HQ.out.mono ?_);rintro e w2 ⟨he,hw⟩;rw[hxy]at he;obtain rfl:=he;subst hw)
    go_roundw
    case rel=>exact⟨i+1,by go_num,hlt,HE2,by first|trivial|rfl⟩
    case measure=>simp[intOf];omega
  ·obtain rfl:n=i:=by omega
   have HT:Hid ((l==m)=true):=χ (by
    have h:=HE.out
    rw[qab (by rw[HL.out];exact Nat.le_refl _),qab (by rw[HMl.out];exact Nat.le_refl _)]at h
    rw[h];simp)
   go_wp2
   go_ret
   exact⟨Tq HT.out,rfl⟩
theorem WV(l m:List (List UInt8))(A1 A2:Option Addr)(n k c d:Nat)(L M:List Sc)(w:World)(hl:l.length=n)(hm:m.length=k)(h1:Zd w w.heap.size A1 L l)(h2:Zd w w.heap.size A2 M m)(hn:n<=1000000):
  Calls Tryz.prog 156 #[.slice A1 n c,.slice A2 k d,.func (.func 145) #[] #[]] w fun e w'=>e=.returned (.bool (l==m))/\w=w':=by
 by_cases hk:n=k
 ·subst hk
  exact qx l m A1 A2 n c d L M w hl hm h1 h2 hn
 ·have hf:(l==m)=false:=by
   rw[<-Bool.not_eq_true]
   intro h
   have h:l=m:=by simpa using h
   rw[h]at hl
   omega
  have hne:((n:Int) != (k:Int))=true:=by simp;omega
  rw[hf]
  clear h1 h2 hl hm hk hf
  go_enter Tryz.func156,Tryz.ntmps156
  go_wp2
  go_ret
  exact⟨rfl,rfl⟩
end Go.Proofs.YtmehhgfbnfbnaaaGreat.Meta
