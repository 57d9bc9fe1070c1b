import Derived.Test.YtmehhgfbnfbnaaaGreatQInternA
import Derived.Test.YtmehhgfbnfbnaaaGreatQTk
import Derived.Laws.StructEq
import Derived.Test.YtmehhgfbnfbnaaaGreatQF
set_option maxRecDepth 100000
set_option maxHeartbeats 25600000
open List renaming getElem?_eq_getElem->qaa,getElem?_eq_some_iff->qab,getElem?_eq_none->qaf,mem_of_getElem?->qag,length_set->qak,take_succ_eq_append_getElem->qao,getD_eq_getElem?_getD->qap,take_of_length_le->qaq,mem_iff_getElem?->qar
open Go.RowKit.Below renaming refl->qac
open Go renaming World->qad,Calls->qaj,Addr->qan
open Nat renaming lt_of_lt_of_le->qae
open Go.IntKind renaming wrap_i64->qah,i64->qam
open Int renaming natCast_nonneg->qai
open Go.RowKit renaming Below->qal
namespace Go.Proofs.YtmehhgfbnfbnaaaGreat
theorem zy0{P:Prop}(h:P:=by
 clear h
 go_enter Tryz.func165,Tryz.ntmps165
 go_wp2_with (go_at_call 227;(with_reducible refine(YS l _ 16 c _ _ Hn.out Hr.out).mono ?_);rintro e w1 ⟨he,q1,hw1⟩;obtain rfl:=he;rw[hb];subst hw1)
 go_ret2
 exact Ye HP.out (below_drewN (qac _ _) _)):P:=h
end Go.Proofs.YtmehhgfbnfbnaaaGreat
namespace Go.Proofs.YtmehhgfbnfbnaaaGreat.Z8
open Go.RowKit
section
variable {w w':qad}{v:Value}{m:List Rw}{r:Ha}{i:Nat}
theorem Lt(hm:m.length=16)(ho:w'.ownsRow w.heap.size 68 2 v 16 (ZV m))(hb:qal w.heap.size w w'):Given w w' v m:=⟨by rw[hm];exact ho,hb⟩
theorem NI(hr:r=⟨m,i,0⟩)(hm:m.length=16)(ho:w'.ownsRow w.heap.size 68 2 v 16 (ZV m))(hb:qal w.heap.size w w'):
  Ww w r (.returned (.tuple #[v,i,()])) w':=by
 subst hr
 exact⟨_,rfl,Lt hm ho hb⟩
theorem NH(hr:r=⟨m,0,0⟩)(hm:m.length=16)(ho:w'.ownsRow w.heap.size 68 2 v 16 (ZV m))(hb:qal w.heap.size w w'):
  Yh w r (.returned (.tuple #[v,()])) w':=by
 subst hr
 exact⟨_,rfl,Lt hm ho hb⟩
theorem tO{base g c b:Nat}{l:List Rw}(h:w.ownsRow base 68 2 (.slice g 16 c) 16 (ZV (l.set i ⟨b,0⟩)))(hi:i<l.length):
  (w.setCell ⟨g,i*2,none⟩ (.int .u16 0)).ownsRow base 68 2 (.slice g 16 c) 16 (ZV (l.set i .z)):=by
 have h1:=(h.stored (i*2) (.int .u16 0)).1
 have e:(ZV (l.set i ⟨b,0⟩)).set (i*2) (.int .u16 0)=ZV (l.set i .z):=by
  rw[Wu l i _ hi,Wu l i _ hi,List.set_comm _ _ (by omega),List.set_set]
  rfl
 rw[e]at h1
 exact h1
theorem mM(l:List Rw)(A:Option qan)(n c a:Nat)(w:qad)(hn:l.length=n)(hr:Rd w w.heap.size A (ZV l))(hR:¬ Right l):
  qaj Tryz.prog 163 #[.slice A n c,.int .u16 a] w fun e w'=>Ww w (ZH l a) e w':=by
 have Hn:=χ hn
 have Hr:=χ hr
 have hb:=ZN hR
 have HP:=χ (BH hR a)
 clear hn hr hR
 go_enter Tryz.func163,Tryz.ntmps163
 go_wp2_with (go_at_call 227;(with_reducible refine(YS l _ n c _ _ Hn.out Hr.out).mono ?_);rintro e w1 ⟨he,q1,hw1⟩;obtain rfl:=he;rw[hb];subst hw1)
 go_ret3
 exact Wt HP.out (below_drewN (qac _ _) _)
theorem Eu(l:List Rw)(A:Option qan)(c a i:Nat)(w:qad)(hn:l.length=16)(hr:Rd w w.heap.size A (ZV l))(hR:Right l)(hf:TT l a=some i):
  qaj Tryz.prog 163 #[.slice A 16 c,.int .u16 a] w fun e w'=>Ww w (ZH l a) e w':=by
 obtain⟨⟨b,x⟩,X6,hx0,oJ,_⟩:=Vx hf
 simp only at hx0 oJ
 subst oJ
 have hlo:=Xm (hR.fits i _ X6)
 have hhi:=WY (hR.fits i _ X6)
 simp only at hlo hhi
 obtain⟨B,o,rfl,hB,hcc⟩:∃B o,A=some ⟨B,o,none⟩/\B<w.heap.size/\(w.cell? ⟨B,o+i*2,none⟩=some (.int .u16 b)/\w.cell? ⟨B,o+i*2+1,none⟩=some (.int .i64 x)):=Ws hr X6
 have hi:i<16:=by rw[<-hn];exact(qab.1 X6).1
 have hii:(i:Int)<16:=by omega
 have Hn:=χ hn
 have Hr:=χ hr
 have Hc:=χ hcc
 have hb:=ZW hR
 have HF:=χ (Vw hR b)
 have HA:=χ hf
 have HI:=χ X6
 have HL:=χ (fun h=>P9 hR hf X6 h)
 have HM:=χ (fun h=>P8 hR hf X6 h)
 clear hn hr hR hf X6 hcc
 by_cases hx:x=65535
 ·have HP:=χ (HL.out hx)
  clear HL HM
  subst hx
  go_enter Tryz.func163,Tryz.ntmps163
  go_wp2_with (first
   |(go_at_call 227;(with_reducible refine(YS l _ 16 c _ _ Hn.out Hr.out).mono ?_);rintro e w1 ⟨he,q1,hw1⟩;obtain rfl:=he;rw[hb];subst hw1)
   |(at_builtin;refine WM _ rfl (.tmp 14) (.tmp 15) rfl _ rfl rfl _ 16 c l rfl Hn.out (Hr.out.drewN _) (by decide) ?_;intro v3 w3 hown3 hb3;obtain⟨g,c3,hv3,hg3⟩:=G7 hown3;subst hv3;have HB3:=χ ((below_drewN (qac _ _) q1).trans hb3:qal w.heap.size w w3);have yZ:=χ (show w3.ownsRow w.heap.size 68 2 (.slice g 16 c3) 16 (ZV l)from hown3);have hg4:w.heap.size<=g:=hg3;have hsg:g<w3.heap.size:=(hown3.lt g rfl).2;clear hb3 hown3 hg3)
   |(go_at_call 160;(with_reducible refine(SK l _ 16 c b _ _ Hn.out (Hr.out.below HB3.out) (by omega)).mono ?_);rintro e w4 ⟨he,q4,hw4⟩;obtain rfl:=he;rw[HF.out,HA.out];have VT:=χ (by subst hw4;exact below_drewN HB3.out q4:qal w.heap.size w w4);have aO:=χ (by subst hw4;exact yZ.out:w4.ownsRow w.heap.size 68 2 (.slice g 16 c3) 16 (ZV l));have hs4:g<w4.heap.size:=(by subst hw4;exact hsg);clear hw4;have c1:=(VT.out.cell hB).trans Hc.out.2;have hB2:=qae hB VT.out.size;simp only[JP,Option.getD_some,Option.isSome_some]))
  go_ret3
  exact Wt HP.out VT.out
 ·have HP:=χ (HM.out hx)
  have g0:(x==65535)=false:=by simp[hx]
  have g1:qam.wrap (x+1)=x+1:=by rw[qah];omega
  clear HL HM
  go_enter Tryz.func163,Tryz.ntmps163
  go_wp2_with (first
   |(go_at_call 227;(with_reducible refine(YS l _ 16 c _ _ Hn.out Hr.out).mono ?_);rintro e w1 ⟨he,q1,hw1⟩;obtain rfl:=he;rw[hb];subst hw1)
   |(at_builtin;refine WM _ rfl (.tmp 14) (.tmp 15) rfl _ rfl rfl _ 16 c l rfl Hn.out (Hr.out.drewN _) (by decide) ?_;intro v3 w3 hown3 hb3;obtain⟨g,c3,hv3,hg3⟩:=G7 hown3;subst hv3;have HB3:=χ ((below_drewN (qac _ _) q1).trans hb3:qal w.heap.size w w3);have yZ:=χ (show w3.ownsRow w.heap.size 68 2 (.slice g 16 c3) 16 (ZV l)from hown3);have hg4:w.heap.size<=g:=hg3;have hsg:g<w3.heap.size:=(hown3.lt g rfl).2;clear hb3 hown3 hg3)
   |(go_at_call 160;(with_reducible refine(SK l _ 16 c b _ _ Hn.out (Hr.out.below HB3.out) (by omega)).mono ?_);rintro e w4 ⟨he,q4,hw4⟩;obtain rfl:=he;rw[HF.out,HA.out];have VT:=χ (by subst hw4;exact below_drewN HB3.out q4:qal w.heap.size w w4);have aO:=χ (by subst hw4;exact yZ.out:w4.ownsRow w.heap.size 68 2 (.slice g 16 c3) 16 (ZV l));have hs4:g<w4.heap.size:=(by subst hw4;exact hsg);clear hw4;have c1:=(VT.out.cell hB).trans Hc.out.2;have hB2:=qae hB VT.out.size;obtain⟨k0,k1,j0,j1,_⟩:=SI aO.out HI.out;have fU:=χ (NG aO.out HI.out (x+1));simp only at k0 k1;simp only[JP,Option.getD_some,Option.isSome_some]))
  go_ret3
  exact NI HP.out (by rw[qak,Hn.out]) fU.out (VT.out.setCell (p:=⟨g,i*2+1,none⟩) hg4 _)
theorem yY(l:List Rw)(A:Option qan)(c a:Nat)(w:qad)(hn:l.length=16)(hr:Rd w w.heap.size A (ZV l))(hR:Right l)(hf:TT l a=none):
  qaj Tryz.prog 163 #[.slice A 16 c,.int .u16 a] w fun e w'=>Ww w (ZH l a) e w':=by
 obtain⟨B,o,rfl,hB,hcc⟩:∃B o,A=some ⟨B,o,none⟩/\B<w.heap.size/\∀(i:Nat) r,l[i]? =some r->w.cell? ⟨B,o+i*2,none⟩=some (.int .u16 r.lab)/\w.cell? ⟨B,o+i*2+1,none⟩=some (.int .i64 r.refs):=by
  rcases Va hr with h|h
  ·subst h;simp at hn
  ·exact h
 have Hn:=χ hn
 have Hr:=χ hr
 have Hc:=χ hcc
 have hb:=ZW hR
 have HF:=χ (Vw hR a)
 have HA:=χ hf
 have HL:=χ (fun h=>P7 hR hf h)
 have HM:=χ (fun i h=>NF (i:=i) hR hf h)
 clear hn hr hR hf hcc
 go_enter Tryz.func163,Tryz.ntmps163
 go_wp2_with (first
  |(go_at_call 227;(with_reducible refine(YS l _ 16 c _ _ Hn.out Hr.out).mono ?_);rintro e w1 ⟨he,q1,hw1⟩;obtain rfl:=he;rw[hb];subst hw1)
  |(at_builtin;refine WM _ rfl (.tmp 14) (.tmp 15) rfl _ rfl rfl _ 16 c l rfl Hn.out (Hr.out.drewN _) (by decide) ?_;intro v3 w3 hown3 hb3;obtain⟨g,c3,hv3,hg3⟩:=G7 hown3;subst hv3;have HB3:=χ ((below_drewN (qac _ _) q1).trans hb3:qal w.heap.size w w3);have yZ:=χ (show w3.ownsRow w.heap.size 68 2 (.slice g 16 c3) 16 (ZV l)from hown3);have hg4:w.heap.size<=g:=hg3;have hsg:g<w3.heap.size:=(hown3.lt g rfl).2;clear hb3 hown3 hg3)
  |(go_at_call 160;(with_reducible refine(SK l _ 16 c a _ _ Hn.out (Hr.out.below HB3.out) (by omega)).mono ?_);rintro e w4 ⟨he,q4,hw4⟩;obtain rfl:=he;rw[HF.out,HA.out];have VT:=χ (by subst hw4;exact below_drewN HB3.out q4:qal w.heap.size w w4);have aO:=χ (by subst hw4;exact yZ.out:w4.ownsRow w.heap.size 68 2 (.slice g 16 c3) 16 (ZV l));have hs4:g<w4.heap.size:=(by subst hw4;exact hsg);clear hw4;have hB2:=qae hB VT.out.size;simp only[JP,Option.getD_none,Option.isSome_none]))
 go_loop [10] (fun i=>∃j:Nat,j<=16/\i=.int .i64 j/\Hid (∀(k:Nat) s,k<j->l[k]? =some s->s.refs≠0)) (fun i=>16-(intOf i).toNat)
 case atStart=>exact⟨0,Nat.zero_le _,rfl,χ (fun k s hk=>by omega)⟩
 case round=>
  obtain⟨j,hj,rfl,Hf⟩:=hrel
  by_cases hlt:j<16
  ·obtain⟨⟨b,x⟩,QY⟩:∃r,l[j]? =some r:=⟨_,qaa (by rw[Hn.out];exact hlt)⟩
   obtain⟨_,c1⟩:=Hc.out j ⟨b,x⟩ QY
   replace c1:=(VT.out.cell hB).trans c1
   simp only at c1
   have HJ:=χ QY
   have hji:(j:Int)<16:=by omega
   clear QY
   by_cases hx:x=0
   ·subst hx
    have hfa:Vv l=some j:=by
     obtain⟨h1,h2⟩:=qab.1 HJ.out
     refine List.findIdx?_eq_some_iff_getElem.2 ⟨h1,by rw[h2];rfl,fun k hk=>?_⟩
     have:=Hf.out k _ hk (qaa (by omega))
     simpa[free]using this
    have HP:=χ (HM.out j hfa)
    obtain⟨k0,k1,j0,j1,_⟩:=SI aO.out HJ.out
    simp only at k0 k1
    have fU:=χ (mK aO.out (i:=j) (by rw[Hn.out];exact hlt) a 1)
    clear hfa
    go_wp2
    go_ret3
    exact NI HP.out (by rw[qak,Hn.out]) fU.out ((VT.out.setCell (p:=⟨g,j*2,none⟩) hg4 _).setCell (p:=⟨g,j*2+1,none⟩) hg4 _)
   ·have g0:(x==0)=false:=by simp[hx]
    have mJ:Hid (∀(k:Nat) s,k<j+1->l[k]? =some s->s.refs≠0):=χ fun k s hk hs=>by
     by_cases e:k=j
     ·subst e
      rw[HJ.out]at hs
      injection hs with hs
      subst hs
      exact hx
     ·exact Hf.out k s (by omega) hs
    go_wp2
    go_round
    case rel=>exact⟨j+1,by omega,by go_num,mJ⟩
    case measure=>simp[intOf];omega
  ·obtain rfl:j=16:=by omega
   have hfa:Vv l=none:=by
    refine List.findIdx?_eq_none_iff.2 fun r hr=>?_
    obtain⟨k,hk,rfl⟩:=List.getElem_of_mem hr
    have:=Hf.out k _ (by rw[<-Hn.out];exact hk) (qaa hk)
    simpa[free]using this
   have HP:=χ (HL.out hfa)
   clear hfa
   go_wp2
   go_ret3
   exact Wt HP.out VT.out
theorem QW(l:List Rw)(A:Option qan)(n c a:Nat)(w:qad)(hn:l.length=n)(hr:Rd w w.heap.size A (ZV l)):
  qaj Tryz.prog 163 #[.slice A n c,.int .u16 a] w fun e w'=>Ww w (ZH l a) e w':=by
 by_cases hR:Right l
 ·have h16:=hR.len
  rw[hn]at h16
  subst h16
  cases hf:TT l a with
  |none=>exact yY l A c a w hn hr hR hf
  |some i=>exact Eu l A c a i w hn hr hR hf
 ·exact mM l A n c a w hn hr hR
theorem mI(l:List Rw)(A:Option qan)(n c:Nat)(row:Int)(w:qad)(hn:l.length=n)(hr:Rd w w.heap.size A (ZV l))(hR:¬ Right l):
  qaj Tryz.prog 165 #[.slice A n c,row] w fun e w'=>Yh w (YH l row) e w':=by
 have Hn:=χ hn
 have Hr:=χ hr
 have hb:=ZN hR
 have HP:=χ (BG hR row)
 clear hn hr hR
 go_enter Tryz.func165,Tryz.ntmps165
 go_wp2_with (go_at_call 227;(with_reducible refine(YS l _ n c _ _ Hn.out Hr.out).mono ?_);rintro e w1 ⟨he,q1,hw1⟩;obtain rfl:=he;rw[hb];subst hw1)
 go_ret2
 exact Ye HP.out (below_drewN (qac _ _) _)
theorem tN(l:List Rw)(A:Option qan)(c:Nat)(row:Int)(w:qad)(hn:l.length=16)(hr:Rd w w.heap.size A (ZV l))(hR:Right l)(h:¬ (0<=row/\row<16)):
  qaj Tryz.prog 165 #[.slice A 16 c,row] w fun e w'=>Yh w (YH l row) e w':=by
 have Hn:=χ hn
 have Hr:=χ hr
 have hb:=ZW hR
 have HP:=χ (G6 (l:=l) h)
 clear hn hr hR
 by_cases h1:row<0
 ·exact zy0
 ·have h2:16<=row:=by omega
  exact zy0
theorem yX(l:List Rw)(A:Option qan)(c i b:Nat)(w:qad)(hn:l.length=16)(hr:Rd w w.heap.size A (ZV l))(hR:Right l)(X6:l[i]? =some ⟨b,0⟩):
  qaj Tryz.prog 165 #[.slice A 16 c,i] w fun e w'=>Yh w (YH l (i:Int)) e w':=by
 obtain⟨B,o,rfl,hB,hcc⟩:∃B o,A=some ⟨B,o,none⟩/\B<w.heap.size/\(w.cell? ⟨B,o+i*2,none⟩=some (.int .u16 b)/\w.cell? ⟨B,o+i*2+1,none⟩=some (.int .i64 0)):=Ws hr X6
 obtain⟨c0,c1⟩:=hcc
 have hi:i<16:=by rw[<-hn];exact(qab.1 X6).1
 have hi0:(0:Int)<=(i:Int):=qai _
 have hii:(i:Int)<16:=by omega
 have Hn:=χ hn
 have Hr:=χ hr
 have hb:=ZW hR
 have HP:=χ (Ls hR X6 rfl)
 clear hn hr hR X6
 go_enter Tryz.func165,Tryz.ntmps165
 go_wp2_with (go_at_call 227;(with_reducible refine(YS l _ 16 c _ _ Hn.out Hr.out).mono ?_);rintro e w1 ⟨he,q1,hw1⟩;obtain rfl:=he;rw[hb];subst hw1)
 go_ret2
 exact Ye HP.out (below_drewN (qac _ _) _)
theorem tL(l:List Rw)(A:Option qan)(c i b:Nat)(w:qad)(hn:l.length=16)(hr:Rd w w.heap.size A (ZV l))(hR:Right l)(X6:l[i]? =some ⟨b,1⟩):
  qaj Tryz.prog 165 #[.slice A 16 c,i] w fun e w'=>Yh w (YH l (i:Int)) e w':=by
 have hhi:=WY (hR.fits i _ X6)
 simp only at hhi
 obtain⟨B,o,rfl,hB,hcc⟩:∃B o,A=some ⟨B,o,none⟩/\B<w.heap.size/\(w.cell? ⟨B,o+i*2,none⟩=some (.int .u16 b)/\w.cell? ⟨B,o+i*2+1,none⟩=some (.int .i64 1)):=Ws hr X6
 obtain⟨c0,c1⟩:=hcc
 have hi:i<16:=by rw[<-hn];exact(qab.1 X6).1
 have hi0:(0:Int)<=(i:Int):=qai _
 have hii:(i:Int)<16:=by omega
 have Hn:=χ hn
 have Hr:=χ hr
 have hb:=ZW hR
 have HP:=χ ((UC hR X6 (by show(1:Int)≠0;decide)).trans (by rfl:_=(⟨l.set i .z,0,0⟩:Ha)))
 have HI:=χ X6
 clear hn hr hR X6
 go_enter Tryz.func165,Tryz.ntmps165
 go_wp2_with (first
  |(go_at_call 227;(with_reducible refine(YS l _ 16 c _ _ Hn.out Hr.out).mono ?_);rintro e w1 ⟨he,q1,hw1⟩;obtain rfl:=he;rw[hb];subst hw1)
  |(at_builtin;refine WM _ rfl (.tmp 26) (.tmp 27) rfl _ rfl rfl _ 16 c l rfl Hn.out (Hr.out.drewN _) (by decide) ?_;intro v3 w3 hown3 hb3;obtain⟨g,c3,hv3,hg3⟩:=G7 hown3;subst hv3;have HB3:=χ ((below_drewN (qac _ _) q1).trans hb3:qal w.heap.size w w3);have yZ:=χ (show w3.ownsRow w.heap.size 68 2 (.slice g 16 c3) 16 (ZV l)from hown3);have hg4:w.heap.size<=g:=hg3;have hsg:g<w3.heap.size:=(hown3.lt g rfl).2;obtain⟨k0,k1,j0,j1,_⟩:=SI yZ.out HI.out;simp only at k0 k1;have fU:=χ (NG yZ.out HI.out 0);clear hb3 hown3 hg3))
 go_ret2
 exact NH HP.out (by rw[qak,Hn.out]) (tO fU.out (by rw[Hn.out];exact hi)) ((HB3.out.setCell (p:=⟨g,i*2+1,none⟩) hg4 _).setCell (p:=⟨g,i*2,none⟩) hg4 _)
theorem yV(l:List Rw)(A:Option qan)(c i b:Nat)(x:Int)(w:qad)(hn:l.length=16)(hr:Rd w w.heap.size A (ZV l))(hR:Right l)(X6:l[i]? =some ⟨b,x⟩)(h1:1<x):
  qaj Tryz.prog 165 #[.slice A 16 c,i] w fun e w'=>Yh w (YH l (i:Int)) e w':=by
 have hhi:=WY (hR.fits i _ X6)
 simp only at hhi
 obtain⟨B,o,rfl,hB,hcc⟩:∃B o,A=some ⟨B,o,none⟩/\B<w.heap.size/\(w.cell? ⟨B,o+i*2,none⟩=some (.int .u16 b)/\w.cell? ⟨B,o+i*2+1,none⟩=some (.int .i64 x)):=Ws hr X6
 obtain⟨c0,c1⟩:=hcc
 have hi:i<16:=by rw[<-hn];exact(qab.1 X6).1
 have hi0:(0:Int)<=(i:Int):=qai _
 have hii:(i:Int)<16:=by omega
 have Hn:=χ hn
 have Hr:=χ hr
 have hb:=ZW hR
 have HP:=χ ((UC hR X6 (by show x≠0;omega)).trans (by unfold Rw.less;rw[if_neg (by show ¬ x=1;omega)]:_=(⟨l.set i ⟨b,x-1⟩,0,0⟩:Ha)))
 have HI:=χ X6
 clear hn hr hR X6
 have g0:(x==0)=false:=by simp;omega
 have g1:(x-1==0)=false:=by simp;omega
 have g2:qam.wrap (x-1)=x-1:=by rw[qah];omega
 go_enter Tryz.func165,Tryz.ntmps165
 go_wp2_with (first
  |(go_at_call 227;(with_reducible refine(YS l _ 16 c _ _ Hn.out Hr.out).mono ?_);rintro e w1 ⟨he,q1,hw1⟩;obtain rfl:=he;rw[hb];subst hw1)
  |(at_builtin;refine WM _ rfl (.tmp 26) (.tmp 27) rfl _ rfl rfl _ 16 c l rfl Hn.out (Hr.out.drewN _) (by decide) ?_;intro v3 w3 hown3 hb3;obtain⟨g,c3,hv3,hg3⟩:=G7 hown3;subst hv3;have HB3:=χ ((below_drewN (qac _ _) q1).trans hb3:qal w.heap.size w w3);have yZ:=χ (show w3.ownsRow w.heap.size 68 2 (.slice g 16 c3) 16 (ZV l)from hown3);have hg4:w.heap.size<=g:=hg3;have hsg:g<w3.heap.size:=(hown3.lt g rfl).2;obtain⟨k0,k1,j0,j1,_⟩:=SI yZ.out HI.out;simp only at k0 k1;have fU:=χ (NG yZ.out HI.out (x-1));clear hb3 hown3 hg3))
 go_ret2
 exact NH HP.out (by rw[qak,Hn.out]) fU.out (HB3.out.setCell (p:=⟨g,i*2+1,none⟩) hg4 _)
theorem G5(l:List Rw)(A:Option qan)(n c:Nat)(row:Int)(w:qad)(hn:l.length=n)(hr:Rd w w.heap.size A (ZV l)):
  qaj Tryz.prog 165 #[.slice A n c,row] w fun e w'=>Yh w (YH l row) e w':=by
 by_cases hR:Right l
 ·have h16:=hR.len
  rw[hn]at h16
  subst h16
  by_cases h:0<=row/\row<16
  ·obtain⟨i,rfl⟩:∃i:Nat,row=(i:Int):=⟨row.toNat,by omega⟩
   obtain⟨⟨b,x⟩,X6⟩:∃r,l[i]? =some r:=⟨_,qaa (by omega)⟩
   have hlo:=Xm (hR.fits i _ X6)
   simp only at hlo
   rcases Int.lt_trichotomy x 1 with hx|rfl|hx
   ·obtain rfl:x=0:=by omega
    exact yX l A c i b w hn hr hR X6
   ·exact tL l A c i b w hn hr hR X6
   ·exact yV l A c i b x w hn hr hR X6 hx
  ·exact tN l A c row w hn hr hR h
 ·exact mI l A n c row w hn hr hR
end
end Go.Proofs.YtmehhgfbnfbnaaaGreat.Z8

namespace Go.Proofs.YtmehhgfbnfbnaaaGreat.Z8
open Go.RowKit
theorem Zf(xs:Array Value)(k:Nat)(x:Int)(h:xs[k]? =some (.int .i64 x))(W:qad):(part 3 xs k).run Tryz.prog W=.ok (.int .i64 x) W:=by
 unfold part
 simp[h,go_sem]
end Go.Proofs.YtmehhgfbnfbnaaaGreat.Z8

namespace Go.Proofs.YtmehhgfbnfbnaaaGreat.Z8
open Go.RowKit
section
variable {l:List Rw}
def words:List Rw->List Nat
 |[]=>[]
 |r::l=>r.lab::r.refs.toNat::words l
theorem Xl(l:List Rw):(words l).length=l.length*2:=by
 induction l with
 |nil=>rfl
 |cons r l ih=>simp[words,ih];omega
theorem Uk(l m:List Rw):words (l++m)=words l++words m:=by
 induction l with
 |nil=>rfl
 |cons r l ih=>simp[words,ih]
theorem Ev{j:Nat}{r:Rw}(h:l[j]? =some r):words (l.take (j+1))=words (l.take j)++[r.lab,r.refs.toNat]:=by
 obtain⟨hj,rfl⟩:=qab.1 h
 rw[qao hj,Uk]
 rfl
theorem y8{x:Nat}(h:x∈words l):∃r∈l,x=r.lab\/x=r.refs.toNat:=by
 induction l with
 |nil=>simp[words]at h
 |cons r l ih=>
  simp only[words,List.mem_cons]at h
  rcases h with h|h|h
  ·exact⟨r,by simp,.inl h⟩
  ·exact⟨r,by simp,.inr h⟩
  ·obtain⟨s,h1,h2⟩:=ih h
   exact⟨s,by simp[h1],h2⟩
def bytesOf(l:List Rw):List UInt8:=Y0 2 (words l)
theorem VC(l:List Rw):(bytesOf l).length=l.length*4:=by
 unfold bytesOf
 rw[ZA,Xl];omega
theorem Wh(h:Right l)(ho:zy l):∀x∈words l,x<65536:=by
 intro x hx
 obtain⟨r,hr,h1⟩:=y8 hx
 obtain⟨i,hi⟩:=qar.1 hr
 have h2:=Xm (h.fits i r hi)
 have h3:=WY (h.fits i r hi)
 have h4:=(ho r hr).lab
 omega
def VY(w:qad)(bs:List UInt8)(err:Nat)(e:Ending)(w':qad):Prop:=
 ∃v,e=.returned (.tuple #[v,err])/\w'.ownsRow w.heap.size 5 1 v bs.length (Z6 bs)/\qal w.heap.size w w'
noncomputable def y7(l:List Rw):List UInt8 × Nat:=if ZP l then(bytesOf l,0)else([],1)
theorem G8(h:Right l):y7 l=(bytesOf l,0):=by unfold y7;rw[ZW h];rfl
theorem mP(h:¬ Right l):y7 l=([],1):=by unfold y7;rw[ZN h];rfl
theorem mO{w W:qad}(a b:Value)(e:TypeId)(g:Nat)(hg:g=W.heap.size)(hw:w=W.alloc (.cells #[a,b] e)):Rd w (g+1) (some ⟨g,0,none⟩) [a,b]:=by
 subst hg
 subst hw
 exact .inr ⟨W.heap.size,0,rfl,Nat.lt_succ_self _,fun i v hv=>by
  rw[Nat.zero_add,qad.cell?_alloc_at _ _ _ _ rfl]
  simpa using hv⟩
theorem fV(L:List Nat)(A:Option qan)(n c:Nat)(w:qad)(hn:L.length=n)(hr:Rd w w.heap.size A (Zg L))(hL:∀x∈L,x<65536)(hm:n<=2000):
  qaj Tryz.prog 185 #[.int .i64 2,.slice A n c] w fun e w'=>∃v,e=.returned (.tuple #[v,()])/\Made w (Y0 2 L) v w':=
 NU L A n c 2 w hn hr (by omega) (by omega) (fun x hx=>Nat.lt_trans (hL x hx) (by decide)) (fun x hx=>by
  have:=hL x hx
  simp only[WB,decide_eq_true_eq]
  omega) (by omega)
theorem Wn(l:List Rw)(A:Option qan)(c:Nat)(w:qad)(hn:l.length=16)(hr:Rd w w.heap.size A (ZV l))(hR:Right l)(ho:zy l):
  qaj Tryz.prog 135 #[.slice A 16 c] w fun e w'=>VY w (bytesOf l) 0 e w':=by
 obtain⟨B,o,rfl,hB,hcc⟩:∃B o,A=some ⟨B,o,none⟩/\B<w.heap.size/\∀(i:Nat) r,l[i]? =some r->w.cell? ⟨B,o+i*2,none⟩=some (.int .u16 r.lab)/\w.cell? ⟨B,o+i*2+1,none⟩=some (.int .i64 r.refs):=by
  rcases Va hr with h|h
  ·subst h;simp at hn
  ·exact h
 have Hn:=χ hn
 have Hr:=χ hr
 have Hc:=χ hcc
 have hb:=ZW hR
 have HS:=χ (Wh hR ho)
 have HF:=χ (fun i (b:Nat) x (h:l[i]? =some (⟨b,x⟩:Rw))=>(⟨(ho _ (qag h)).lab,Xm (hR.fits i _ h),WY (hR.fits i _ h)⟩:b<65536/\0<=x/\x<=65535))
 clear hn hr hR ho hcc
 go_enter Tryz.func135,Tryz.ntmps135
 go_wp2_with (go_at_call 38;(with_reducible refine(Zb l _ 16 c _ Hn.out Hr.out).mono ?_);rintro e w1 ⟨he,hb1⟩;obtain rfl:=he;rw[hb];have HB1:=χ hb1;clear hb1)
 go_loopw [4,6,12] (fun v _ i wr=>∃j:Nat,j<=16/\i=.int .i64 j/\wr.ownsRow w.heap.size 41 1 v (j*2) (Zg (words (l.take j)))/\qal w.heap.size w wr) (fun _ _ i _=>16-(intOf i).toNat)
 case atStart=>exact⟨0,Nat.zero_le _,rfl,qad.ownsRow_nil _ _ _ _,HB1.out⟩
 case round=>
  obtain⟨j,hj,rfl,hown,hbel⟩:=hrel
  by_cases hlt:j<16
  ·obtain⟨⟨b,x⟩,QY⟩:∃r,l[j]? =some r:=⟨_,qaa (by rw[Hn.out];exact hlt)⟩
   obtain⟨hb6,hx0,hx1⟩:=HF.out j b x QY
   obtain⟨m,rfl⟩:∃m:Nat,x=(m:Int):=⟨x.toNat,by omega⟩
   obtain⟨c0,c1⟩:=Hc.out j ⟨b,(m:Int)⟩ QY
   replace c0:=(hbel.cell hB).trans c0
   replace c1:=(hbel.cell hB).trans c1
   simp only at c0 c1
   have hs:=qae hB hbel.size
   have HW:=χ (Ev QY)
   have e1:IntKind.u64.wrap (b:Int)=(b:Int):=by rw[IntKind.wrap_u64];omega
   have e2:IntKind.u64.wrap (m:Int)=(m:Int):=by rw[IntKind.wrap_u64];omega
   have hsz:=hbel.size
   have HO:=χ hown
   have HB:=χ hbel
   clear QY hown hbel
   go_wp2_with (at_builtin;refine QX _ rfl (.tmp 16) (.tmp 23) rfl w.heap.size _ (j*2) (words (l.take j)) rfl ((HO.out.alloc _).alloc _) (wr.heap.size+1+1) _ 2 2 [b,m] rfl rfl (mO (Qf b) (Qf m) 41 (wr.heap.size+1) ?c1 rfl) ?c3 ?c4 ?_)
   case c3=>omega
   case c4=>omega
   intro v' w3 hown' hg'
   have hm2:((m:Int)).toNat=m:=Int.toNat_natCast m
   have yZ:=χ (show w3.ownsRow w.heap.size 41 1 v' ((j+1)*2) (Zg (words (l.take (j+1))))by
    rw[HW.out,hm2,Nat.add_mul];exact hown')
   have HB3:=χ (((HB.out.alloc hsz _).alloc (by simp;omega) _).grown hg' (by simp;omega) (fun k hk=>(HO.out.lt k hk).1))
   clear hown' hg'
   go_wp2
   go_roundw
   case rel=>exact⟨j+1,by omega,by go_num,yZ.out,HB3.out⟩
   case measure=>simp[intOf];omega
  ·obtain rfl:j=16:=by omega
   have e:l.take 16=l:=qaq (by rw[Hn.out];exact Nat.le_refl _)
   rw[e]at hown
   obtain⟨_,A2,c2,rfl,_,_,hr2⟩:=Yx hown
   have HR2:=χ hr2
   have aP:(words l).length=32:=by rw[Xl,Hn.out]
   have HLW:=χ aP
   have HB:=χ hbel
   clear hown hbel hr2 aP
   go_wp2_with (go_at_call 185;(with_reducible refine(fV (words l) A2 32 c2 _ HLW.out HR2.out HS.out (by omega)).mono ?_);rintro e w4 ⟨v4,he,jA⟩;obtain rfl:=he;have HM:=χ jA;clear jA)
   go_ret2
   exact⟨_,rfl,ZL HM.out.1 HB.out.size,HB.out.trans (HM.out.2.mono HB.out.size)⟩
theorem Un(l:List Rw)(A:Option qan)(n c:Nat)(w:qad)(hn:l.length=n)(hr:Rd w w.heap.size A (ZV l))(hR:¬ Right l):
  qaj Tryz.prog 135 #[.slice A n c] w fun e w'=>VY w [] 1 e w':=by
 have Hn:=χ hn
 have Hr:=χ hr
 have hb:=ZN hR
 clear hn hr hR
 go_enter Tryz.func135,Tryz.ntmps135
 go_wp2_with (go_at_call 38;(with_reducible refine(Zb l _ n c _ Hn.out Hr.out).mono ?_);rintro e w1 ⟨he,hb1⟩;obtain rfl:=he;rw[hb];have HB1:=χ hb1;clear hb1)
 go_ret2
 exact⟨_,rfl,qad.ownsRow_nil _ _ _ _,HB1.out⟩
theorem tQ(l:List Rw)(A:Option qan)(n c:Nat)(w:qad)(hn:l.length=n)(hr:Rd w w.heap.size A (ZV l))(ho:zy l):
  qaj Tryz.prog 135 #[.slice A n c] w fun e w'=>VY w (y7 l).1 (y7 l).2 e w':=by
 by_cases hR:Right l
 ·have h16:=hR.len
  rw[hn]at h16
  subst h16
  rw[G8 hR]
  exact Wn l A c w hn hr hR ho
 ·rw[mP hR]
  exact Un l A n c w hn hr hR
end
end Go.Proofs.YtmehhgfbnfbnaaaGreat.Z8

namespace Go.Proofs.YtmehhgfbnfbnaaaGreat.Z8
open Go.RowKit
section
variable {j B:Nat}{T:List Rw}{bs:List UInt8}{w:qad}
def rowsOf(ws:List Nat):List Rw:=(List.range 16).map fun i=>⟨ws.getD (2*i) 0,(ws.getD (2*i+1) 0:Nat)⟩
theorem Wl(ws:List Nat):(rowsOf ws).length=16:=by simp[rowsOf]
theorem Qb{ws:List Nat}{a m:Nat}(hj:j<16)(h0:ws[2*j]? =some a)(h1:ws[2*j+1]? =some m):(rowsOf ws)[j]? =some ⟨a,(m:Int)⟩:=by
 simp[rowsOf,hj,qap,h0,h1]
def U0(T:List Rw)(j:Nat):List Rw:=T.take j++List.replicate (16-j) .z
theorem Ex(T:List Rw):U0 T 0=frees:=by simp[U0,frees]
theorem za(h:T.length=16):U0 T 16=T:=by
 unfold U0
 rw[qaq (by omega)]
 simp
theorem JS(h:T.length=16)(hj:j<=16):(U0 T j).length=16:=by simp[U0];omega
theorem Ew(h:T.length=16){r:Rw}(hr:T[j]? =some r):(U0 T j).set j r=U0 T (j+1):=by
 obtain⟨hj,rfl⟩:=qab.1 hr
 have e:16-j=(16-(j+1))+1:=by omega
 have hl:(T.take j).length=j:=by simp;omega
 unfold U0
 rw[e,List.replicate_succ,List.set_append_right _ _ (by omega),hl,qao hj]
 simp only[Nat.sub_self,List.set_cons_zero,List.append_assoc,List.cons_append,List.nil_append]
noncomputable def WA(bs:List UInt8):Ha:=
 if bs.length=64 then if ZP (rowsOf (Ze 2 bs))then⟨rowsOf (Ze 2 bs),0,0⟩else .bad 100 else .bad 100
theorem NK(h:bs.length≠64):WA bs=.bad 100:=by unfold WA;rw[if_neg h]
theorem QZ(h:bs.length=64)(hR:Right (rowsOf (Ze 2 bs))):WA bs=⟨rowsOf (Ze 2 bs),0,0⟩:=by unfold WA;rw[if_pos h,ZW hR];rfl
theorem JU(h:bs.length=64)(hR:¬ Right (rowsOf (Ze 2 bs))):WA bs=.bad 100:=by unfold WA;rw[if_pos h,ZN hR];rfl
theorem take_len(A:Option qan)(n c:Nat)(w:qad)(h:n≠64)(bs:List UInt8)(hb:bs.length=n):qaj Tryz.prog 153 #[.slice A n c] w fun e w'=>Yh w (WA bs) e w':=by
 have hP:=NK (bs:=bs) (by omega)
 have hn:((n:Int) != 64)=true:=by simp;omega
 have HP:=χ hP
 clear hP
 go_enter Tryz.func153,Tryz.ntmps153
 go_wp2
 go_ret2
 exact Ye HP.out (qac _ _)
theorem take2(l:List UInt8)(A:Option qan)(c:Nat)(w:qad)(hn:l.length=64)(hr:Rd w w.heap.size A (Z6 l))(hc:64<=c):
  qaj Tryz.prog 220 #[.int .i64 2,.slice A 64 c] w fun e w'=>∃v,e=.returned (.tuple #[v,()])/\tT w (Ze 2 l) v w':=
 JR l A 64 c 32 2 w hn hr hc (by omega) (by omega) (by omega) (by omega)
theorem U4(l:List UInt8):∀x∈Ze 2 l,x<65536:=by
 intro x hx
 simp only[Ze,List.mem_map,List.mem_range]at hx
 obtain⟨k,_,rfl⟩:=hx
 have h1:=BK ((l.drop (k*2)).take 2)
 have h2:((l.drop (k*2)).take 2).length<=2:=by rw[List.length_take];omega
 have h3:256^((l.drop (k*2)).take 2).length<=256^2:=Nat.pow_le_pow_right (by omega) h2
 have h4:(256:Nat)^2=65536:=rfl
 omega
theorem JQ{A:Option qan}{l:List Nat}(h:Rd w B A (Zg l))(hl:l≠[]):∃b o,A=some ⟨b,o,none⟩/\b<B/\∀(i:Nat) x,l[i]? =some x->w.cell? ⟨b,o+i,none⟩=some (.int .u64 x):=by
 rcases h with h|⟨b,o,h1,h2,h3⟩
 ·exact absurd (by simpa[Zg]using h) hl
 ·exact⟨b,o,h1,h2,fun i x hx=>h3 i _ (by simp[Zg,Qf,hx])⟩
theorem YB{a:qad}(h:qal B a w):qal B a w.drew:=⟨h.os,h.tape,h.output,h.size,h.block⟩
theorem G9{g:Nat}{l:List Rw}(h:Bk w g 68 (ZV l)):Rd w w.heap.size (some ⟨g,0,none⟩) (ZV l):=by
 have:=h.rd (ZV l).length 0
 rwa[List.drop_zero,List.take_length]at this
theorem y9(l:List UInt8)(A:Option qan)(c:Nat)(w:qad)(hn:l.length=64)(hr:Rd w w.heap.size A (Z6 l))(hc:64<=c):
  qaj Tryz.prog 153 #[.slice A 64 c] w fun e w'=>Yh w (WA l) e w':=by
 have hT:(Ze 2 l).length=32:=by rw[XX,hn]
 obtain⟨T,hTe⟩:∃T,T=rowsOf (Ze 2 l):=⟨_,rfl⟩
 have hTl:T.length=16:=by rw[hTe];exact Wl _
 have HY:=χ (fun h=>QZ hn (hTe▸h))
 have HN:=χ (fun h=>JU hn (hTe▸h))
 have aQ:=χ hTl
 have HTe:=χ hTe
 have HT:=χ hT
 have HS:=χ (U4 l)
 have Hn:=χ hn
 have Hr:=χ hr
 clear hT hTe hTl hn hr
 have hmk:=Qa
 go_enter Tryz.func153,Tryz.ntmps153
 go_wp2_with (go_at_call 220;(with_reducible refine(take2 l A c _ Hn.out Hr.out hc).mono ?_);rintro e w1 ⟨v1,he,hown1,hb1⟩;obtain rfl:=he;rw[HT.out]at hown1;obtain⟨_,A2,c2,hv1,_,_,hr2⟩:=Yx hown1;subst hv1;have HR2:=χ hr2;have HB1:=χ hb1;clear hown1 hb1 hr2)
 have hne:Ze 2 l≠[]:=by intro h;have:=HT.out;rw[h]at this;cases this
 obtain⟨B,o,rfl,hB,hcc⟩:=JQ HR2.out hne
 have Hc:=χ hcc
 clear hcc hne hmk
 have hs0:=HB1.out.size
 go_loopw [7,19] (fun _ i wr=>∃j:Nat,j<=16/\i=.int .i64 j/\Bk wr w1.heap.size 68 (ZV (U0 T j))/\qal w1.heap.size w1 wr) (fun _ i _=>16-(intOf i).toNat)
 case atStart=>exact⟨0,Nat.zero_le _,rfl,by rw[Ex];exact Bk.new w1 68 _,ZR _ _⟩
 case round=>
  obtain⟨j,hj,rfl,hk,hbel⟩:=hrel
  by_cases hlt:j<16
  ·obtain⟨a,ha⟩:∃a,(Ze 2 l)[2*j]? =some a:=⟨_,qaa (by rw[HT.out];omega)⟩
   obtain⟨m,hm⟩:∃m,(Ze 2 l)[2*j+1]? =some m:=⟨_,qaa (by rw[HT.out];omega)⟩
   have ha6:=HS.out a (qag ha)
   have hm6:=HS.out m (qag hm)
   have c0:=(hbel.cell hB).trans (Hc.out _ a ha)
   have c1:=(hbel.cell hB).trans (Hc.out _ m hm)
   have hTj:=Qb hlt ha hm
   rw[<-HTe.out]at hTj
   have hkl:=JS aQ.out hj
   have hset:=(hk.set (j*2) (.int .u16 a)).set (j*2+1) (.int .i64 m)
   rw[<-Wu (U0 T j) j ⟨a,(m:Int)⟩ (by omega),Ew aQ.out hTj]at hset
   have hk1:=hk.cell (j*2)
   have hk2:=hk.cell (j*2+1)
   obtain⟨u0,hu0⟩:∃u,(ZV (U0 T j))[j*2]? =some u:=⟨_,qaa (by rw[Zj];omega)⟩
   obtain⟨u1,hu1⟩:∃u,(ZV (U0 T j))[j*2+1]? =some u:=⟨_,qaa (by rw[Zj];omega)⟩
   rw[hu0]at hk1
   rw[hu1]at hk2
   have f0:=hk.frozen (j*2)
   have f1:=hk.frozen (j*2+1)
   have hs:=qae hB hbel.size
   have hs1:=hk.lt
   have HK:=χ hset
   have HB2:=χ ((hbel.setCell (p:=⟨w1.heap.size,j*2,none⟩) (Nat.le_refl _) (.int .u16 a)).setCell (p:=⟨w1.heap.size,j*2+1,none⟩) (Nat.le_refl _) (.int .i64 m))
   have e1:IntKind.u16.wrap (a:Int)=(a:Int):=by rw[IntKind.wrap_u16];omega
   have e2:qam.wrap (m:Int)=(m:Int):=by rw[qah];omega
   have e3:qam.wrap (2*(j:Int))=((2*j:Nat):Int):=by rw[qah];omega
   have e4:qam.wrap (((2*j:Nat):Int)+1)=((2*j+1:Nat):Int):=by rw[qah];omega
   have e5:(0:Int)<=(j:Int):=qai _
   have e6:(j:Int)<16:=by omega
   have hne2:B≠w1.heap.size:=by omega
   clear ha hm hk hset hu0 hu1 hTj hbel
   go_wp2
   go_region
   have HK3:Hid (Bk (((wr.setCell ⟨w1.heap.size,j*2,none⟩ (.int .u16 a)).setCell ⟨w1.heap.size,j*2+1,none⟩ (.int .i64 m)).drew) w1.heap.size 68 (ZV (U0 T (j+1)))):=HK
   have HB3:=χ (YB HB2.out)
   go_wp2
   go_roundw
   case rel=>exact⟨j+1,by omega,by go_num,HK3.out,HB3.out⟩
   case measure=>simp[intOf];omega
  ·obtain rfl:j=16:=by omega
   rw[za aQ.out]at hk
   have HK:=χ hk
   have HB:=χ hbel
   have HW:=χ (HB1.out.trans (hbel.mono hs0))
   clear hk hbel
   by_cases hR:Right T
   ·have hb:=ZW hR
    have HP:=χ (HY.out hR)
    clear hR HN HY
    go_wp2_with (go_at_call 38;(with_reducible refine(Zb T _ 16 16 _ aQ.out (G9 HK.out)).mono ?_);rintro e w4 ⟨he,hb4⟩;obtain rfl:=he;rw[hb];have VT:=χ hb4;clear hb4)
    go_ret2
    refine Tk (m:=T) (by rw[HP.out,HTe.out]) aQ.out hs0 ?_ (HW.out.trans (VT.out.mono HW.out.size))
    exact HK.out.below VT.out HK.out.lt
   ·have hb:=ZN hR
    have HP:=χ (HN.out hR)
    clear hR HN HY
    go_wp2_with (go_at_call 38;(with_reducible refine(Zb T _ 16 16 _ aQ.out (G9 HK.out)).mono ?_);rintro e w4 ⟨he,hb4⟩;obtain rfl:=he;rw[hb];have VT:=χ hb4;clear hb4)
    go_ret2
    exact Ye HP.out (HW.out.trans (VT.out.mono HW.out.size))
theorem NJ(l:List UInt8)(A:Option qan)(n c:Nat)(w:qad)(hn:l.length=n)(hr:Rd w w.heap.size A (Z6 l))(hc:n<=c):
  qaj Tryz.prog 153 #[.slice A n c] w fun e w'=>Yh w (WA l) e w':=by
 by_cases h:n=64
 ·subst h
  exact y9 l A c w hn hr hc
 ·exact take_len A n c w h l hn
end
end Go.Proofs.YtmehhgfbnfbnaaaGreat.Z8

namespace Go.Proofs.YtmehhgfbnfbnaaaGreat.Z8
open Go.RowKit
section
variable {l:List Rw}{bs:List UInt8}
theorem RH(l:List UInt8)(m:Nat)(h:l.length=(m+1)*2):Ze 2 l=le (l.take 2)::Ze 2 (l.drop 2):=by
 have e1:l.length/2=m+1:=by omega
 have e2:(l.drop 2).length/2=m:=by rw[List.length_drop];omega
 unfold Ze
 rw[e1,e2,List.range_succ_eq_map,List.map_cons,List.map_map]
 congr 1
 apply List.map_congr_left
 intro k _
 show le ((l.drop ((k+1)*2)).take 2)=_
 rw[List.drop_drop]
 congr 3
 omega
theorem NM(m:Nat):∀l:List UInt8,l.length=m*2->Y0 2 (Ze 2 l)=l:=by
 induction m with
 |zero=>
  intro l h
  obtain rfl:l=[]:=List.eq_nil_of_length_eq_zero (by omega)
  rfl
 |succ m ih=>
  intro l h
  rw[RH l m h]
  show YE (le (l.take 2)) 2++Y0 2 (Ze 2 (l.drop 2))=l
  have h2:(l.take 2).length=2:=by rw[List.length_take];omega
  have:=BI (l.take 2)
  rw[h2]at this
  rw[this,ih _ (by rw[List.length_drop];omega),List.take_append_drop]
theorem Hg{i:Nat}{r:Rw}(h:l[i]? =some r):(words l)[2*i]? =some r.lab/\(words l)[2*i+1]? =some r.refs.toNat:=by
 induction l generalizing i with
 |nil=>simp at h
 |cons s l ih=>
  cases i with
  |zero=>
   obtain rfl:s=r:=by simpa using h
   exact⟨rfl,rfl⟩
  |succ i=>
   obtain⟨h1,h2⟩:=ih (i:=i) (by simpa using h)
   have e1:2*(i+1)=2*i+1+1:=by omega
   rw[e1]
   exact⟨h1,h2⟩
theorem JW(h:Right l):rowsOf (words l)=l:=by
 apply List.ext_getElem?
 intro i
 by_cases hi:i<16
 ·obtain⟨r,hr⟩:∃r,l[i]? =some r:=⟨_,qaa (by rw[h.len];exact hi)⟩
  obtain⟨h1,h2⟩:=Hg hr
  rw[Qb hi h1 h2,hr]
  have:=Xm (h.fits i r hr)
  congr 1
  cases r
  simp only at this⊢
  congr 1
  omega
 ·rw[qaf (by rw[Wl];omega),qaf (by rw[h.len];omega)]
theorem JV{ws:List Nat}(h:ws.length=32):words (rowsOf ws)=ws:=by
 apply List.ext_getElem?
 intro j
 by_cases hj:j<32
 ·have h0:∃a,ws[2*(j/2)]? =some a:=⟨_,qaa (by omega)⟩
  have h1:∃a,ws[2*(j/2)+1]? =some a:=⟨_,qaa (by omega)⟩
  obtain⟨a,h0⟩:=h0
  obtain⟨m,h1⟩:=h1
  have hr:=Qb (j:=j/2) (by omega) h0 h1
  obtain⟨k0,k1⟩:=Hg hr
  rcases Nat.mod_two_eq_zero_or_one j with e|e
  ·have e2:2*(j/2)=j:=by omega
   rw[e2]at k0 h0
   rw[k0,h0]
  ·have e2:2*(j/2)+1=j:=by omega
   rw[e2]at k1 h1
   rw[k1,h1]
   simp
 ·rw[qaf (by rw[Xl,Wl];omega),qaf (by omega)]
theorem NL(h:Right l)(ho:zy l):WA (bytesOf l)=⟨l,0,0⟩:=by
 have hb:(bytesOf l).length=64:=by rw[VC,h.len]
 have e:rowsOf (Ze 2 (bytesOf l))=l:=by
  unfold bytesOf
  rw[NP 2 (by omega) _ fun x hx=>by
   have:=Wh h ho x hx
   simp only[WB,decide_eq_true_eq]
   omega]
  exact JW h
 rw[QZ hb (by rw[e];exact h),e]
theorem tX(h:bs.length=64):bytesOf (rowsOf (Ze 2 bs))=bs:=by
 unfold bytesOf
 rw[JV (by rw[XX,h])]
 exact NM 32 bs h
theorem tV(bs:List UInt8):zy (rowsOf (Ze 2 bs)):=by
 intro r hr
 obtain⟨i,hi⟩:=qar.1 hr
 have hl:i<16:=by
  have:=(qab.1 hi).1
  rwa[Wl]at this
 have hsm:∀k,(Ze 2 bs).getD k 0<65536:=fun k=>by
  rw[qap]
  cases hk:(Ze 2 bs)[k]? with
  |none=>simp
  |some x=>simpa using U4 bs x (qag hk)
 simp only[rowsOf,List.getElem?_map,List.getElem?_range hl,Option.map_some,Option.some.injEq]at hi
 subst hi
 refine⟨hsm _,?_,?_⟩
 ·show-9223372036854775808<=((_:Nat):Int);omega
 ·have:=hsm (2*i+1)
  show((_:Nat):Int)<=9223372036854775807;omega
theorem bytes_inj{m:List Rw}(hl:Right l)(ol:zy l)(hm:Right m)(om:zy m)(h:bytesOf l=bytesOf m):l=m:=by
 have h1:=NL hl ol
 have h2:=NL hm om
 rw[h,h2]at h1
 injection h1 with h1
 exact h1.symm
theorem zb(h:(WA bs).err=0):bs.length=64/\Right (WA bs).rows/\zy (WA bs).rows/\bytesOf (WA bs).rows=bs:=by
 by_cases hl:bs.length=64
 ·by_cases hR:Right (rowsOf (Ze 2 bs))
  ·rw[QZ hl hR]
   exact⟨hl,hR,tV bs,tX hl⟩
  ·rw[JU hl hR]at h
   cases h
 ·rw[NK hl]at h
  cases h
end
end Go.Proofs.YtmehhgfbnfbnaaaGreat.Z8
