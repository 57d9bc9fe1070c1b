import Derived.Test.YtmehhgfbnfbnaaaGreatQTopA
import Derived.Test.YtmehhgfbnfbnaaaGreatQSuper
import Derived.Test.YtmehhgfbnfbnaaaGreatQMetaR
import Derived.Test.YtmehhgfbnfbnaaaGreatQTk
import Derived.Test.YtmehhgfbnfbnaaaGreatQMetaX8
set_option maxRecDepth 100000
set_option maxHeartbeats 25600000
open List renaming setIfInBounds_toArray->qaa,set_cons_zero->qab,set_cons_succ->qac,replicate->qad,getElem?_eq_some_iff->qam,take_of_length_le->qan,length_singleton->qao
open Go.Act renaming put->qae
open Nat renaming le_trans->qaf,le_refl->qag
open Go renaming World->qah,Calls->qak
open Go.RowKit renaming Below->qai
open Go.RowKit.Below renaming refl->qaj
open Go.IntKind renaming wrap_i64->qal
namespace Go.Proofs.YtmehhgfbnfbnaaaGreat.Y7
open Go.RowKit Zc Meta
section
variable {g j i pp b q:Nat}{w u:qah}{e:TypeId}{a0 a1 a2 a3 a4 a5 a6:Value}{S:Nat->Prop}{k:Dk Sx}
structure VG(j i g pp:Nat):Prop where
 v:ZF.Valid (j:Int) (i:Int) (g:Int) (pp:Int)
 room:(i:Int)/2+84+((i:Int)/2+82)/15<=(j:Int)-1
def Vy(j i:Nat):Nat:=1+j+1+1+1+i/2
def Ym(j i g pp:Nat):Nat:=Vy j i+g*pp
theorem SE(j i g pp:Nat):((Ym j i g pp:Nat):Int)=1+(j:Int)+1+1+1+(i:Int)/2+(g:Int)*(pp:Int):=by
 unfold Ym Vy
 push_cast
 omega
theorem VG.all (h:VG j i g pp):Ym j i g pp<=2000:=by
 have h1:=h.v.j2
 have h2:=h.v.i2
 have h3:=h.v.gp
 have:=SE j i g pp
 omega
theorem Ky(h:Zo sx w S b k):qak Tryz.prog 49 #[.pointer b] w fun e w'=>e=.returned (.int .i64 k.safe.length)/\w=w':=SB w S b k h
theorem zQ(n:Int)(h:1<=n)(hm:n<=1000)(w:qah):qak Tryz.prog 184 #[n] w fun e w'=>e=.returned (.int .i64 (n+1+(n-1)/15))/\w=w':=by
 have:=zP n (by unfold DK;omega) (by omega) w
 unfold zO at this
 rw[if_neg (by omega)]at this
 exact this
theorem zT(h:Bk u q e [a0,a1,a2,a3,a4,a5,a6])(v0 v1 v2 v3 v4 v5 v6:Value):
  ∃u',(((((((u.setCell ⟨q,0,none⟩ v0).setCell ⟨q,1,none⟩ v1).setCell ⟨q,2,none⟩ v2).setCell ⟨q,3,none⟩ v3).setCell ⟨q,4,none⟩ v4).setCell ⟨q,5,none⟩ v5).setCell ⟨q,6,none⟩ v6)=u'/\Bk u' q e [v0,v1,v2,v3,v4,v5,v6]/\(∀B,B<=q->qai B u u')/\u.grownBy u' (some q):=by
 refine⟨_,rfl,?_,fun B hB=>?_,?_⟩
 ·have:=(((((((h.set 0 v0).set 1 v1).set 2 v2).set 3 v3).set 4 v4).set 5 v5).set 6 v6)
  simpa only[qab,qac]using this
 ·repeat(refine qai.setCell ?_ hB _)
  exact qaj _ _
 ·exact ZT (ZT (ZT (ZT (ZT (ZT (ZT (qah.grownBy.refl _ _) 0 v0) 1 v1) 2 v2) 3 v3) 4 v4) 5 v5) 6 v6
theorem pF(h:Bk u q e [a0,a1,a2,a3])(v0 v1 v2 v3:Value):
  ∃u',((((u.setCell ⟨q,0,none⟩ v0).setCell ⟨q,1,none⟩ v1).setCell ⟨q,2,none⟩ v2).setCell ⟨q,3,none⟩ v3)=u'/\Bk u' q e [v0,v1,v2,v3]/\(∀B,B<=q->qai B u u')/\u.grownBy u' (some q):=by
 refine⟨_,rfl,?_,fun B hB=>?_,?_⟩
 ·have:=((((h.set 0 v0).set 1 v1).set 2 v2).set 3 v3)
  simpa only[qab,qac]using this
 ·repeat(refine qai.setCell ?_ hB _)
  exact qaj _ _
 ·exact ZT (ZT (ZT (ZT (qah.grownBy.refl _ _) 0 v0) 1 v1) 2 v2) 3 v3
theorem ZU(h:Bk w g e [a0,a1,a2,a3,a4,a5,a6]):w.cell? ⟨g,0,none⟩=some a0/\w.cell? ⟨g,1,none⟩=some a1/\w.cell? ⟨g,2,none⟩=some a2/\w.cell? ⟨g,3,none⟩=some a3/\w.cell? ⟨g,4,none⟩=some a4/\w.cell? ⟨g,5,none⟩=some a5/\w.cell? ⟨g,6,none⟩=some a6:=
 ⟨h.cell 0,h.cell 1,h.cell 2,h.cell 3,h.cell 4,h.cell 5,h.cell 6⟩
theorem Fh(h:VG j i g pp)(hD:Zo sx w S b k)(hlen:Ym j i g pp<=k.safe.length):
  qak Tryz.prog 112 #[.pointer b,.agg #[j,i,g,pp]] w fun e w'=>e=.returned (.tuple #[.agg #[.int .i64 1,.int .i64 (1+(j:Int)),.int .i64 (1+(j:Int)+1),.int .i64 (1+(j:Int)+1+1),.int .i64 (1+(j:Int)+1+1+1),.int .i64 (1+(j:Int)+1+1+1+(i:Int)/2),.int .i64 (1+(j:Int)+1+1+1+(i:Int)/2+(g:Int)*(pp:Int))],()])/\qai w.heap.size w w':=by
 have hall:=SE j i g pp
 have hroom:=h.room
 have hj2:=h.v.j2
 have hi1:=h.v.i1
 have hi2:=h.v.i2
 have hlt:decide ((k.safe.length:Int)<1+(j:Int)+1+1+1+(i:Int)/2+(g:Int)*(pp:Int))=false:=decide_eq_false (by omega)
 obtain⟨nn,hnn⟩:∃nn:Int,3+(i:Int)/2=nn:=⟨_,rfl⟩
 have dQ:nn<=100/\3<=nn:=by omega
 have hw1:IntKind.i64.wrap (nn+80)=nn+80:=by rw[qal];omega
 have hw2:IntKind.i64.wrap ((j:Int)-1)=(j:Int)-1:=by rw[qal];omega
 have hgt:decide ((j:Int)-1<nn+80+1+(nn+80-1)/15)=false:=decide_eq_false (by omega)
 have rX:Hid (∀u:qah,qak Tryz.prog 65 #[.agg #[j,i,g,pp]] u fun e w'=>e=.returned (.tuple #[.agg #[.int .i64 1,.int .i64 (1+(j:Int)),.int .i64 (1+(j:Int)+1),.int .i64 (1+(j:Int)+1+1),.int .i64 (1+(j:Int)+1+1+1),.int .i64 (1+(j:Int)+1+1+1+(i:Int)/2),.int .i64 (1+(j:Int)+1+1+1+(i:Int)/2+(g:Int)*(pp:Int))],()])/\qai u.heap.size u w'):=χ (fun u=>ZF.PX h.v u)
 have kJ:Hid (∀u:qah,qak Tryz.prog 72 #[.agg #[j,i,g,pp]] u fun e w'=>e=.returned (.int .i64 nn)/\qai u.heap.size u w'):=χ (fun u=>by rw[<-hnn];exact ZF.PW h.v u)
 have su:Hid (∀u:qah,qak Tryz.prog 184 #[.int .i64 (nn+80)] u fun e w'=>e=.returned (.int .i64 (nn+80+1+(nn+80-1)/15))/\u=w'):=χ (fun u=>zQ (nn+80) (by omega) (by omega) u)
 obtain⟨W,hW⟩:∃W,W=(w.alloc (.cells #[j,i,g,pp] 29)).alloc (.cells #[(),(),(),(),(),(),()] 112):=⟨_,rfl⟩
 have hbW:qai w.heap.size w W:=by rw[hW];exact(qaj _ _).alloc (qag _) _|>.alloc (by simp) _
 have hG:Bk W w.heap.size 29 [j,i,g,pp]:=by rw[hW];exact(Bk.new w 29 [j,i,g,pp]).below (ZZ _ _) (by simp)
 have hR:Bk W (w.heap.size+1) 112 [(),(),(),(),(),(),()]:=by
  rw[hW]
  have:=Bk.new (w.alloc (.cells #[j,i,g,pp] 29)) 112 [(),(),(),(),(),(),()]
  simpa using this
 have HG:=χ hG
 have HR:=χ hR
 have HB:=χ hbW
 have HD:=χ (hD.below hbW)
 have Vz:=χ (qaj W.heap.size W)
 have FB:Hid (W.heap.size=w.heap.size+2):=χ (by rw[hW];simp)
 obtain⟨g0,g1,g2,g3⟩:=Meta.Z6 hG
 clear hbW hG hR hD hall hroom hnn h hlen
 go_enter Tryz.func112,Tryz.ntmps112
 go_upto_region 1 with fail
 rw[<-hW]
 clear hW
 go_upto_region 2 with(go_at_call 65;(with_reducible refine(rX.out _).mono ?_);rintro e w1 ⟨he,hb⟩;obtain rfl:=he;replace Vz:=χ (Vz.out.trans (hb.mono Vz.out.size));replace HG:=χ (HG.out.below hb HG.out.lt);replace HR:=χ (HR.out.below hb HR.out.lt);replace HD:=χ (HD.out.below hb);have HZ1:=χ hb.size;clear g0 g1 g2 g3;clear hb;obtain⟨g0,g1,g2,g3⟩:=Meta.Z6 HG.out)
 have hal:=ZZ w1 (.cells #[.int .i64 1,.int .i64 (1+(j:Int)),.int .i64 (1+(j:Int)+1),.int .i64 (1+(j:Int)+1+1),.int .i64 (1+(j:Int)+1+1+1),.int .i64 (1+(j:Int)+1+1+1+(i:Int)/2),.int .i64 (1+(j:Int)+1+1+1+(i:Int)/2+(g:Int)*(pp:Int))] 112)
 replace Vz:=χ (Vz.out.trans (hal.mono Vz.out.size))
 replace HG:=χ (HG.out.below hal HG.out.lt)
 replace HR:=χ (HR.out.below hal HR.out.lt)
 replace HD:=χ (HD.out.below hal)
 have HL:=χ (Bk.new w1 112 [.int .i64 1,.int .i64 (1+(j:Int)),.int .i64 (1+(j:Int)+1),.int .i64 (1+(j:Int)+1+1),.int .i64 (1+(j:Int)+1+1+1),.int .i64 (1+(j:Int)+1+1+1+(i:Int)/2),.int .i64 (1+(j:Int)+1+1+1+(i:Int)/2+(g:Int)*(pp:Int))])
 clear g0 g1 g2 g3
 clear hal
 generalize pO:w1.heap.size=zU1 at*
 clear pO
 generalize w1.alloc (.cells #[.int .i64 1,.int .i64 (1+(j:Int)),.int .i64 (1+(j:Int)+1),.int .i64 (1+(j:Int)+1+1),.int .i64 (1+(j:Int)+1+1+1),.int .i64 (1+(j:Int)+1+1+1+(i:Int)/2),.int .i64 (1+(j:Int)+1+1+1+(i:Int)/2+(g:Int)*(pp:Int))] 112)=U1 at*
 have HZ2:=χ Vz.out.size
 have hS0:qai U1.heap.size U1 U1.drew:=(qaj _ _).drew
 refine wp_region_held_drew (S:=fun u=>qai U1.heap.size U1 u) (by kernel_rfl) hS0 (fun hHeld=>?_)
 clear hS0
 generalize hu0:U1.drew=NS at*
 clear hu0
 refine tk 0 ?_ (y:=.inl ⟨by rfl,?hya0⟩) (s:=by exact hHeld) (h:=?V4)
 case hya0=>(intro u hu;obtain⟨g0,g1,g2,g3⟩:=Meta.Z6 (HG.out.below hu HG.out.lt);obtain⟨l0,l1,l2,l3,l4,l5,l6⟩:=ZU (HL.out.below hu HL.out.lt);clear hu;go_simp<;>with_reducible rfl)
 try simp only[qae,qaa,qab,qac]
 refine tk 1 ?_ (y:=.inl ⟨by rfl,?hya1⟩) (s:=by exact hHeld) (h:=?Wn)
 case hya1=>(intro u hu;obtain⟨g0,g1,g2,g3⟩:=Meta.Z6 (HG.out.below hu HG.out.lt);obtain⟨l0,l1,l2,l3,l4,l5,l6⟩:=ZU (HL.out.below hu HL.out.lt);clear hu;go_simp<;>with_reducible rfl)
 try simp only[qae,qaa,qab,qac]
 refine tk 2 ?_ (y:=.inl ⟨by rfl,?hya2⟩) (s:=by exact hHeld) (h:=?Wm)
 case hya2=>(intro u hu;obtain⟨g0,g1,g2,g3⟩:=Meta.Z6 (HG.out.below hu HG.out.lt);obtain⟨l0,l1,l2,l3,l4,l5,l6⟩:=ZU (HL.out.below hu HL.out.lt);clear hu;go_simp<;>with_reducible rfl)
 try simp only[qae,qaa,qab,qac]
 refine tk 3 ?_ (y:=.inl ⟨by rfl,?hya3⟩) (s:=by exact hHeld) (h:=?Tp)
 case hya3=>(intro u hu;obtain⟨g0,g1,g2,g3⟩:=Meta.Z6 (HG.out.below hu HG.out.lt);obtain⟨l0,l1,l2,l3,l4,l5,l6⟩:=ZU (HL.out.below hu HL.out.lt);clear hu;go_simp<;>with_reducible rfl)
 try simp only[qae,qaa,qab,qac]
 refine tk 5 ?_ (y:=.inl ⟨by rfl,?hya5⟩) (s:=by exact hHeld) (h:=?Vw)
 case hya5=>(intro u hu;obtain⟨g0,g1,g2,g3⟩:=Meta.Z6 (HG.out.below hu HG.out.lt);obtain⟨l0,l1,l2,l3,l4,l5,l6⟩:=ZU (HL.out.below hu HL.out.lt);clear hu;go_simp<;>with_reducible rfl)
 try simp only[qae,qaa,qab,qac]
 refine tk 6 ?_ (y:=.inl ⟨by rfl,?hya6⟩) (s:=by exact hHeld) (h:=?Vg)
 case hya6=>(intro u hu;obtain⟨g0,g1,g2,g3⟩:=Meta.Z6 (HG.out.below hu HG.out.lt);obtain⟨l0,l1,l2,l3,l4,l5,l6⟩:=ZU (HL.out.below hu HL.out.lt);clear hu;go_simp<;>with_reducible rfl)
 try simp only[qae,qaa,qab,qac]
 refine rd 4 (h:=fun K hK=>?_)
 go_simp
 (with_reducible refine(Ky (HD.out.below hHeld)).mono ?_)
 rintro e x1 ⟨he,hb⟩;obtain rfl:=he;subst hb
 have hS:=hHeld
 go_simp
 refine hK.out _ _ hS (fun Z4=>?_)
 clear hK K hHeld hS
 have hHeld:=Z4
 clear Z4
 try simp only[qae,qaa,qab,qac]
 refine tk 7 ?_ (y:=.inl ⟨by rfl,?hya7⟩) (s:=by exact hHeld) (h:=?QQ)
 case hya7=>(intro u hu;obtain⟨g0,g1,g2,g3⟩:=Meta.Z6 (HG.out.below hu HG.out.lt);obtain⟨l0,l1,l2,l3,l4,l5,l6⟩:=ZU (HL.out.below hu HL.out.lt);clear hu;go_simp<;>with_reducible rfl)
 try simp only[qae,qaa,qab,qac]
 refine tk 8 ?_ (y:=.inl ⟨by rfl,?hya8⟩) (s:=by exact hHeld) (h:=?RJ)
 case hya8=>(intro u hu;obtain⟨g0,g1,g2,g3⟩:=Meta.Z6 (HG.out.below hu HG.out.lt);obtain⟨l0,l1,l2,l3,l4,l5,l6⟩:=ZU (HL.out.below hu HL.out.lt);clear hu;go_simp<;>with_reducible rfl)
 try simp only[qae,qaa,qab,qac]
 refine tk 9 ?_ (y:=.inl ⟨by rfl,?hya9⟩) (s:=by exact hHeld) (h:=?Qg)
 case hya9=>(intro u hu;obtain⟨g0,g1,g2,g3⟩:=Meta.Z6 (HG.out.below hu HG.out.lt);obtain⟨l0,l1,l2,l3,l4,l5,l6⟩:=ZU (HL.out.below hu HL.out.lt);clear hu;go_simp<;>with_reducible rfl)
 try simp only[qae,qaa,qab,qac]
 refine tk 10 ?_ (y:=.inl ⟨by rfl,?hya10⟩) (s:=by exact hHeld) (h:=?UG)
 case hya10=>(intro u hu;obtain⟨g0,g1,g2,g3⟩:=Meta.Z6 (HG.out.below hu HG.out.lt);obtain⟨l0,l1,l2,l3,l4,l5,l6⟩:=ZU (HL.out.below hu HL.out.lt);clear hu;go_simp<;>with_reducible rfl)
 try simp only[qae,qaa,qab,qac]
 refine tk 14 ?_ (y:=.inl ⟨by rfl,?hya14⟩) (s:=by exact hHeld) (h:=?Ao)
 case hya14=>(intro u hu;obtain⟨g0,g1,g2,g3⟩:=Meta.Z6 (HG.out.below hu HG.out.lt);obtain⟨l0,l1,l2,l3,l4,l5,l6⟩:=ZU (HL.out.below hu HL.out.lt);clear hu;go_simp<;>with_reducible rfl)
 try simp only[qae,qaa,qab,qac]
 refine tk 15 ?_ (y:=.inl ⟨by rfl,?hya15⟩) (s:=by exact hHeld) (h:=?Ag)
 case hya15=>(intro u hu;obtain⟨g0,g1,g2,g3⟩:=Meta.Z6 (HG.out.below hu HG.out.lt);obtain⟨l0,l1,l2,l3,l4,l5,l6⟩:=ZU (HL.out.below hu HL.out.lt);clear hu;go_simp<;>with_reducible rfl)
 try simp only[qae,qaa,qab,qac]
 refine tk 16 ?_ (y:=.inl ⟨by rfl,?hya16⟩) (s:=by exact hHeld) (h:=?Af)
 case hya16=>(intro u hu;obtain⟨g0,g1,g2,g3⟩:=Meta.Z6 (HG.out.below hu HG.out.lt);obtain⟨l0,l1,l2,l3,l4,l5,l6⟩:=ZU (HL.out.below hu HL.out.lt);clear hu;go_simp<;>with_reducible rfl)
 try simp only[qae,qaa,qab,qac]
 refine rd 11 (h:=fun K hK=>?_)
 go_simp
 (with_reducible refine(kJ.out _).mono ?_)
 rintro e x2 ⟨he,hb⟩;obtain rfl:=he
 have hS:qai U1.heap.size U1 x2:=hHeld.trans (hb.mono hHeld.size)
 clear hb
 go_simp
 refine hK.out _ _ hS (fun Z4=>?_)
 clear hK K hHeld hS
 have hHeld:=Z4
 clear Z4
 try simp only[qae,qaa,qab,qac]
 refine tk 12 ?_ (y:=.inl ⟨by rfl,?hya12⟩) (s:=by exact hHeld) (h:=?Qf)
 case hya12=>(intro u hu;obtain⟨g0,g1,g2,g3⟩:=Meta.Z6 (HG.out.below hu HG.out.lt);obtain⟨l0,l1,l2,l3,l4,l5,l6⟩:=ZU (HL.out.below hu HL.out.lt);clear hu;go_simp<;>with_reducible rfl)
 try simp only[qae,qaa,qab,qac]
 refine rd 13 (h:=fun K hK=>?_)
 go_simp
 (with_reducible refine(su.out _).mono ?_)
 rintro e x3 ⟨he,hb⟩;obtain rfl:=he;subst hb
 have hS:=hHeld
 go_simp
 refine hK.out _ _ hS (fun Z4=>?_)
 clear hK K hHeld hS
 have hHeld:=Z4
 clear Z4
 try simp only[qae,qaa,qab,qac]
 refine tk 17 ?_ (y:=.inl ⟨by rfl,?hya17⟩) (s:=by exact hHeld) (h:=?Ae)
 case hya17=>(intro u hu;obtain⟨g0,g1,g2,g3⟩:=Meta.Z6 (HG.out.below hu HG.out.lt);obtain⟨l0,l1,l2,l3,l4,l5,l6⟩:=ZU (HL.out.below hu HL.out.lt);clear hu;go_simp<;>with_reducible rfl)
 try simp only[qae,qaa,qab,qac]
 refine tk 18 ?_ (y:=.inl ⟨by rfl,?hya18⟩) (s:=by exact hHeld) (h:=?Ad)
 case hya18=>(intro u hu;obtain⟨g0,g1,g2,g3⟩:=Meta.Z6 (HG.out.below hu HG.out.lt);obtain⟨l0,l1,l2,l3,l4,l5,l6⟩:=ZU (HL.out.below hu HL.out.lt);clear hu;go_simp<;>with_reducible rfl)
 try simp only[qae,qaa,qab,qac]
 refine wpAnyH_done (by kernel_rfl) ?_ _
 clear rX kJ su hw1 hw2 hlt hgt dQ
 have HBE:Hid (qai w.heap.size U1 x2):=χ (hHeld.mono (by have:=FB.out;have:=HZ2.out;omega))
 obtain⟨l0,l1,l2,l3,l4,l5,l6⟩:=ZU (HL.out.below hHeld HL.out.lt)
 have hrx:=HR.out.below hHeld HR.out.lt
 obtain⟨r0,r1,r2,r3,r4,r5,r6⟩:=ZU hrx
 have fz:=fun q=>hrx.frozen q
 go_wp2_with fail
 obtain⟨u7,dY,YE,hw7,-⟩:=zT hrx (.int .i64 1) (.int .i64 (1+(j:Int))) (.int .i64 (1+(j:Int)+1)) (.int .i64 (1+(j:Int)+1+1)) (.int .i64 (1+(j:Int)+1+1+1)) (.int .i64 (1+(j:Int)+1+1+1+(i:Int)/2)) (.int .i64 (1+(j:Int)+1+1+1+(i:Int)/2+(g:Int)*(pp:Int)))
 rw[dY]
 obtain⟨c0,c1,c2,c3,c4,c5,c6⟩:=ZU YE
 refine bodyPost_ret (v:=.tuple #[.agg #[.int .i64 1,.int .i64 (1+(j:Int)),.int .i64 (1+(j:Int)+1),.int .i64 (1+(j:Int)+1+1),.int .i64 (1+(j:Int)+1+1+1),.int .i64 (1+(j:Int)+1+1+1+(i:Int)/2),.int .i64 (1+(j:Int)+1+1+1+(i:Int)/2+(g:Int)*(pp:Int))],()]) (by simp[results,Tryz.results112,go_sem,c0,c1,c2,c3,c4,c5,c6]) rfl ⟨rfl,?_⟩
 exact HB.out.trans ((Vz.out.mono (by have:=FB.out;omega)).trans (HBE.out.trans (hw7 _ (by omega))))
end
end Go.Proofs.YtmehhgfbnfbnaaaGreat.Y7

namespace Go.Proofs.YtmehhgfbnfbnaaaGreat.Y7
open Go.RowKit Zc Meta
section
variable {k:Dk Sx}{j i g pp:Nat}
def pU(j i g pp:Nat):Sx:=⟨ZF.Yw j i g pp,0,ZF.XM j i g pp,by decide⟩
def fmtS(j i g pp:Nat):List Sx:=pU j i g pp::qad (Ym j i g pp-1) zx
def SF(j i g pp:Nat):List (Nat × Sx):=placed 0 (fmtS j i g pp)
theorem PV(j i g pp:Nat):1<=Ym j i g pp:=by unfold Ym Vy;omega
theorem UB(j i g pp:Nat):(fmtS j i g pp).length=Ym j i g pp:=by
 have:=PV j i g pp
 simp[fmtS];omega
theorem Kw(j i g pp:Nat):(SF j i g pp).length=Ym j i g pp:=by rw[SF,Ot,UB]
def Ie(j i g pp a:Nat):List UInt8:=if a=0 then ZF.Yw j i g pp else qad 64 0
theorem pE{a:Nat}(h:a<Ym j i g pp):∃c:Sx,(SF j i g pp)[a]? =some (a,c)/\c.b=Ie j i g pp a/\c.t=0:=by
 unfold SF Ie
 rw[PT,Nat.zero_add]
 cases a with
 |zero=>exact⟨pU j i g pp,rfl,rfl,rfl⟩
 |succ a=>
  refine⟨zx,?_,by rw[if_neg (by omega)];rfl,rfl⟩
  have:(fmtS j i g pp)[a+1]? =some zx:=by
   unfold fmtS
   rw[List.getElem?_cons_succ,List.getElem?_replicate,if_pos (by omega)]
  rw[this];rfl
theorem MG(hd:k.dead=false)(hc:k.cut=false):k.off=false:=by unfold Dk.off;rw[hd,hc];rfl
theorem zS(hd:k.dead=false)(hc:k.cut=false)(s:Nat)(c:Sx):(k.wrote s c).dead=false/\(k.wrote s c).cut=false:=by
 unfold Dk.wrote Dk.op
 rw[MG hd hc]
 exact⟨hd,hc⟩
theorem DI(h:VG j i g pp){B:Nat}{w:qah}{S:Nat->Prop}{b:Nat}(hD:DO B w S b k)(hB:B<=w.heap.size)(hlen:Ym j i g pp<=k.safe.length)(hd:k.dead=false)(hc:k.cut=false)(hu:k.un.length<=100000):
  qak Tryz.prog 47 #[.pointer b,.agg #[j,i,g,pp]] w fun e w'=>e=.returned (.int .i64 0)/\(∃S',DO B w' S' b (k.writes (SF j i g pp)).2)/\Zc.Good w w'/\qai B w w':=by
 have hall:=SE j i g pp
 have hpos:=PV j i g pp
 have hmax:=h.all
 have sD:=χ h
 have vC:Hid (∀u:qah,(∃S,DO B u S b k)->qak Tryz.prog 112 #[.pointer b,.agg #[j,i,g,pp]] u fun e w'=>e=.returned (.tuple #[.agg #[.int .i64 1,.int .i64 (1+(j:Int)),.int .i64 (1+(j:Int)+1),.int .i64 (1+(j:Int)+1+1),.int .i64 (1+(j:Int)+1+1+1),.int .i64 (1+(j:Int)+1+1+1+(i:Int)/2),.int .i64 (1+(j:Int)+1+1+1+(i:Int)/2+(g:Int)*(pp:Int))],()])/\qai u.heap.size u w'):=χ (fun u hu=>by
  obtain⟨S,hS⟩:=hu
  exact Fh h hS.disk hlen)
 have kz:Hid (∀u:qah,qak Tryz.prog 113 #[.agg #[j,i,g,pp]] u fun e w'=>∃v,e=.returned (.tuple #[v,()])/\Made u (ZF.Yw j i g pp) v w'):=χ (fun u=>ZF.Kv h.v u)
 obtain⟨N,hN⟩:∃N,Ym j i g pp=N:=⟨_,rfl⟩
 have HL:Hid (∀a,a<N->∃c:Sx,(SF j i g pp)[a]? =some (a,c)/\c.b=Ie j i g pp a/\c.t=0):=χ (fun a ha=>pE (by rw[hN];exact ha))
 have vD:Hid ((SF j i g pp).length=N):=χ (by rw[Kw,hN])
 rw[hN]at hall hpos hmax hlen
 have HN:=χ hall
 have HLEN:=χ hlen
 have HD:=χ hD
 have HB0:=χ hB
 have pM:=χ hc
 have HDD:=χ hd
 have QO:=χ hu
 have Yz:=χ (qaj B w)
 have UA:=χ (Good.refl w)
 clear h hD hB hlen hd hc hu hN hall
 generalize SF j i g pp=L at*
 go_enter Tryz.func47,Tryz.ntmps47
 go_upto_region 1 with fail
 have hal:=ZZ w (.cells #[j,i,g,pp] 29)
 replace HD:=χ (HD.out.below hal)
 replace Yz:=χ (Yz.out.trans (hal.mono (qaf HB0.out Yz.out.size)))
 replace UA:=χ (UA.out.trans (Good.of_below hal))
 have HG:=χ (Bk.new w 29 [j,i,g,pp])
 clear hal
 generalize w.alloc (.cells #[j,i,g,pp] 29)=U1 at*
 obtain⟨g0,g1,g2,g3⟩:=Z6 HG.out
 go_upto_region 3 with fail
 go_upto_region 4 with(go_at_call 112;(with_reducible refine(vC.out _ ⟨_,HD.out⟩).mono ?_);rintro e w1 ⟨he,hb⟩;obtain rfl:=he;replace HD:=χ (HD.out.below hb);replace HG:=χ (HG.out.below hb HG.out.lt);replace Yz:=χ (Yz.out.trans (hb.mono (qaf HB0.out Yz.out.size)));replace UA:=χ (UA.out.trans (Good.of_below hb));clear g0 g1 g2 g3;clear hb;obtain⟨g0,g1,g2,g3⟩:=Z6 HG.out)
 have hal:=ZZ w1 (.cells #[.int .i64 1,.int .i64 (1+(j:Int)),.int .i64 (1+(j:Int)+1),.int .i64 (1+(j:Int)+1+1),.int .i64 (1+(j:Int)+1+1+1),.int .i64 (1+(j:Int)+1+1+1+(i:Int)/2),.int .i64 (1+(j:Int)+1+1+1+(i:Int)/2+(g:Int)*(pp:Int))] 112)
 replace HD:=χ (HD.out.below hal)
 replace HG:=χ (HG.out.below hal HG.out.lt)
 replace Yz:=χ (Yz.out.trans (hal.mono (qaf HB0.out Yz.out.size)))
 replace UA:=χ (UA.out.trans (Good.of_below hal))
 have HP:=χ (Bk.new w1 112 [.int .i64 1,.int .i64 (1+(j:Int)),.int .i64 (1+(j:Int)+1),.int .i64 (1+(j:Int)+1+1),.int .i64 (1+(j:Int)+1+1+1),.int .i64 (1+(j:Int)+1+1+1+(i:Int)/2),.int .i64 (1+(j:Int)+1+1+1+(i:Int)/2+(g:Int)*(pp:Int))])
 clear g0 g1 g2 g3
 clear hal
 generalize pR:w1.heap.size=zU2 at*
 clear pR
 generalize w1.alloc (.cells #[.int .i64 1,.int .i64 (1+(j:Int)),.int .i64 (1+(j:Int)+1),.int .i64 (1+(j:Int)+1+1),.int .i64 (1+(j:Int)+1+1+1),.int .i64 (1+(j:Int)+1+1+1+(i:Int)/2),.int .i64 (1+(j:Int)+1+1+1+(i:Int)/2+(g:Int)*(pp:Int))] 112)=U2 at*
 obtain⟨g0,g1,g2,g3⟩:=Z6 HG.out
 obtain⟨l0,l1,l2,l3,l4,l5,l6⟩:=ZU HP.out
 go_upto_region 6 with fail
 go_upto_region 7 with(go_at_call 113;have ky:=Yz;(with_reducible refine(kz.out _).mono ?_);rintro e w2 ⟨v,he,hmd,hb⟩;obtain rfl:=he;replace HD:=χ (HD.out.below hb);replace HG:=χ (HG.out.below hb HG.out.lt);replace HP:=χ (HP.out.below hb HP.out.lt);replace Yz:=χ (Yz.out.trans (hb.mono (qaf HB0.out Yz.out.size)));replace UA:=χ (UA.out.trans (Good.of_below hb));have lY:=χ hmd;have HZB:=χ ky.out.size;clear hmd ky;clear g0 g1 g2 g3 l0 l1 l2 l3 l4 l5 l6;clear hb;obtain⟨g0,g1,g2,g3⟩:=Z6 HG.out;obtain⟨l0,l1,l2,l3,l4,l5,l6⟩:=ZU HP.out)
 have hmk:∀u:qah,(Instr.makeSlice 37 (.int .i64 64) (.int .i64 64)).run Tryz.prog u=.ok (.slice u.heap.size 64 64) (u.alloc (.cells (Z7 (qad 64 0)).toArray 5)):=fun u=>YG 64 (by decide) u
 have kv:=χ hmk
 clear hmk
 rw[<-HN.out]at l6
 have ku:Hid (w2.ownsRow B 5 1 v 64 (Z7 (Ie j i g pp 0))):=χ (by
  have hm:=ZI lY.out (qaf HB0.out HZB.out)
  rw[ZF.XM]at hm
  exact hm)
 clear lY vC kz
 go_wp2_with fail
 clear g0 g1 g2 g3 l0 l1 l2 l3 l4 l5 l6
 go_loopw [7,9,10,29] (fun bv _ _ kc wr=>∃(a:Nat)(kj:Dk Sx)(S':Nat->Prop),kc=.int .i64 a/\a<=N/\Hid (DO B wr S' b kj)/\Hid (k.writes L=kj.writes (L.drop a))/\Hid (kj.dead=false/\kj.cut=false)/\Hid (kj.un.length=k.un.length+a/\kj.safe.length=k.safe.length)/\Hid (wr.ownsRow B 5 1 bv 64 (Z7 (Ie j i g pp a)))/\Hid (Zc.Good w wr)/\Hid (qai B w wr)) (fun _ _ _ kc _=>N-(intOf kc).toNat)
 case atStart=>exact⟨0,k,S,rfl,Nat.zero_le _,HD,χ rfl,χ ⟨HDD.out,pM.out⟩,χ ⟨rfl,rfl⟩,ku,UA,Yz⟩
 case round=>
  clear HD UA Yz ku
  obtain⟨a,kj,S',rfl,ha,HD,wN,rT,K4,lY,UA,Yz⟩:=hrel
  by_cases hlt:a<N
  ·obtain⟨c,hc1,hc2,hc3⟩:=HL.out a hlt
   obtain⟨gb,cb,hv,hcb⟩:=Zv lY.out (by omega)
   subst hv
   have hrow:=lY.out
   have hra:wr.rangeAt gb 0 (Z7 c.b):=fun q u hu=>by
    rw[Nat.zero_add,hrow.cellAt q (by have:=(qam.1 hu).1;rw[Z5,c.hb]at this;omega),<-hc2]
    exact hu
   have hgt:∃cur,wr.heap[gb]? =some (.cells cur 5 (0,0)):=by
    rcases hrow.2 with⟨hv,_⟩|⟨g',cap,cur,hv,_,hg,_⟩
    ·cases hv
    ·injection hv with hv _ _
     injection hv with hv
     injection hv with hv
     subst hv
     exact⟨cur,hg⟩
   obtain⟨cur,Dv⟩:=hgt
   have kr:¬ S' gb:=fun hs=>by
    obtain⟨c',e',h1,h2⟩:=typed HD.out.disk hs
    rw[Dv]at h1
    cases h1
    exact absurd h2 (by decide)
   have hwc:=NF Ti wr S' b kj HD.out.disk a (by rw[K4.out.2];have:=HLEN.out;omega) gb 0 cb (Z7 c.b) 0 c (by show Z7 c.b++[.int .u16 c.t]=_;rw[hc3];rfl) (by rw[Z5,c.hb]) hra kr (Xp Dv) (by rw[K4.out.1];have:=QO.out;omega) (MG rT.out.1 rT.out.2)
   have HWC:=χ hwc
   have hdrop:L.drop a=(a,c)::L.drop (a+1):=by
    obtain⟨h1,h2⟩:=qam.1 hc1
    rw[<-h2,List.getElem_cons_drop]
   have dX:Hid (k.writes L=(kj.wrote a c).writes (L.drop (a+1))):=χ (by
    rw[wN.out,hdrop]
    show(if kj.off then _ else _)=_
    rw[MG rT.out.1 rT.out.2]
    rfl)
   have dW:=χ (zS rT.out.1 rT.out.2 a c)
   have dV:Hid ((kj.wrote a c).un.length=k.un.length+(a+1)/\(kj.wrote a c).safe.length=k.safe.length):=χ (by
    rw[Dk.Uy,Dk.Wi,List.length_append,K4.out.1]
    exact⟨by simp only[qao];omega,K4.out.2⟩)
   have HFB:Hid (Ie j i g pp (a+1)=qad 64 0):=χ (if_neg (by omega))
   have hmk:=kv.out
   have Wz:(a:Int)<(N:Int):=by omega
   have hi0:(0:Int)<=(a:Int):=by omega
   have iy:IntKind.i64.wrap ((a:Int)+1)=((a+1:Nat):Int):=by rw[qal];omega
   clear hwc hdrop hra Dv kr hrow hc1 hc2 hc3 hcb wN lY
   go_wp2_with (go_at_call 114;(with_reducible refine HWC.out.mono ?_);rintro e w' ⟨he,ht⟩;obtain rfl:=he;obtain⟨⟨S2,hD2⟩,hg2,hb2⟩:=HD.out.turn ht (qaf HB0.out Yz.out.size);have HD2:=χ hD2;have pz:=χ (UA.out.trans hg2);have zR:=χ (Yz.out.trans hb2);clear ht hD2 hg2 hb2)
   have hal:=ZZ w' (.cells (Z7 (qad 64 0)).toArray 5)
   have HD3:=χ (HD2.out.below hal)
   have dU:=χ (pz.out.trans (Good.of_below hal))
   have dS:=χ (zR.out.trans (hal.mono (qaf HB0.out zR.out.size)))
   have dR:Hid ((w'.alloc (.cells (Z7 (qad 64 0)).toArray 5)).ownsRow B 5 1 (.slice w'.heap.size 64 64) 64 (Z7 (Ie j i g pp (a+1)))):=χ (by
    rw[HFB.out]
    exact(Bk.new w' 5 (Z7 (qad 64 0))).own 64 (by rw[Z5];simp) (qaf HB0.out zR.out.size) (by decide))
   clear hal
   go_roundw
   case rel=>exact⟨a+1,_,_,by first|rfl|(congr 1),hlt,HD3,dX,dW,dV,dR,dU,dS⟩
   case measure=>simp[intOf];omega
  ·obtain rfl:N=a:=by omega
   have hdr:L.drop N=[]:=List.drop_of_length_le (by rw[vD.out];exact qag _)
   have hwf:(k.writes L).2=kj.flush:=by rw[wN.out,hdr];rfl
   have hfl:=ND Ti wr S' b kj HD.out.disk (by rw[K4.out.1];have:=QO.out;omega)
   rw[MG rT.out.1 rT.out.2]at hfl
   have mG:=χ hfl
   have HWF:=χ hwf
   clear hdr hwf hfl
   go_wp2_with (go_at_call 115;(with_reducible refine mG.out.mono ?_);rintro e w' ⟨he,ht⟩;obtain rfl:=he;obtain⟨hD2,hg2,hb2⟩:=HD.out.turn ht (qaf HB0.out Yz.out.size);have HD2:=χ hD2;have pz:=χ (UA.out.trans hg2);have zR:=χ (Yz.out.trans hb2);clear ht hD2 hg2 hb2)
   go_ret
   exact⟨rfl,by rw[HWF.out];exact HD2.out,pz.out,zR.out⟩
end
end Go.Proofs.YtmehhgfbnfbnaaaGreat.Y7

namespace Go.Proofs.YtmehhgfbnfbnaaaGreat.Y7
open Go.RowKit Zc Meta
structure TH(u:qah)(base:Nat)(v:Value)(L:List Sc)(l:List (List UInt8)):Prop where
 len:L.length=l.length
 row:u.ownsRow base 37 1 v l.length (Yj L l)
 each:∀(i:Nat)(s:Sc)(b:List UInt8),L[i]? =some s->l[i]? =some b->∃g,s.A=some ⟨g,0,none⟩/\b.length<=s.c/\s.c<=maxLen/\Bk u g 161 (Z7 b)
section
variable {u u':qah}{base:Nat}{v:Value}{L:List Sc}{l:List (List UInt8)}
theorem TH.below (h:TH u base v L l)(hb:qai u.heap.size u u'):TH u' base v L l:=
 ⟨h.len,own_below h.row hb,fun i s b h1 h2=>by
  obtain⟨g,e1,e2,e3,e4⟩:=h.each i s b h1 h2
  exact⟨g,e1,e2,e3,e4.below hb e4.lt⟩⟩
theorem TH.at_ {A:Option Addr}{n c:Nat}(h:TH u base (.slice A n c) L l):n=l.length/\Y6 u u.heap.size A L l:=by
 obtain⟨_,A',c',hv,hc,hm,hr⟩:=YC h.row
 injection hv with h1 h2 h3
 subst h1 h2 h3
 refine⟨rfl,h.len,hr,fun i s b h1 h2=>?_⟩
 obtain⟨g,e1,e2,e3,e4⟩:=h.each i s b h1 h2
 rw[e1]
 have:=e4.rd b.length 0
 rw[List.drop_zero,qan (by rw[Z5];exact qag _)]at this
 exact⟨this,e2,e3⟩
end
section
variable {u u':qah}{base:Nat}{v:Value}{L:List Sc}{l:List (List UInt8)}
theorem TH.lower {base':Nat}(h:TH u base v L l)(hb:base'<=base):TH u base' v L l:=⟨h.len,ZI h.row hb,h.each⟩
end
def SC(n:Nat)(L:List Sc)(l:List (List UInt8)):List Value:=Yj L l++qad (n-l.length) (.slice none 0 0)
theorem Dx{n:Nat}{L:List Sc}{l:List (List UInt8)}(hL:L.length=l.length)(hn:l.length<n)(S:Sc)(b:List UInt8):(SC n L l).set l.length (.slice S.A b.length S.c)=SC n (L++[S]) (l++[b]):=by
 unfold SC
 rw[PU hL,List.length_append,qao,show n-l.length=(n-(l.length+1))+1 by omega,List.replicate_succ,List.set_append_right _ _ (by rw[Ww hL];exact qag _),Ww hL,Nat.sub_self,qab,List.append_assoc]
 rfl
end Go.Proofs.YtmehhgfbnfbnaaaGreat.Y7

namespace Go.Proofs.YtmehhgfbnfbnaaaGreat.Y7
open Go.RowKit Zc Meta
section
variable {j i g pp:Nat}
theorem Kz(J I G P:Nat):∃R,ZF.Yw J I G P=ZF.Q8++(YK J 2++(YK I 2++(YK G 2++(YK P 2++R)))):=by
 refine⟨qad (60-(ZF.Uz J I G P).length) 0++YK (sumOf (Yg (ZF.Uz J I G P) 60)) 4,?_⟩
 simp[ZF.Yw,VI,Yg,ZF.Uz,YX]
theorem Ih{J I G P:Nat}(hJ:J<65536)(hI:I<65536)(hG:G<65536)(hP:P<65536):
  ZF.ZG (ZF.Yw J I G P) 4=J/\ZF.ZG (ZF.Yw J I G P) 6=I/\ZF.ZG (ZF.Yw J I G P) 8=G/\ZF.ZG (ZF.Yw J I G P) 10=P:=by
 obtain⟨R,hR⟩:=Kz J I G P
 have e:∀n:Nat,n<65536->le (YK n 2)=n:=fun n hn=>WT n 2 (by simpa using hn)
 have hJ':=e J hJ
 have hI':=e I hI
 have hG':=e G hG
 have hP':=e P hP
 unfold ZF.ZG
 rw[hR]
 simp only[ZF.Q8,YK]at*
 exact⟨hJ',hI',hG',hP'⟩
theorem Ig(h:ZF.Valid (j:Int) i g pp)(A:Option Addr)(c:Nat)(w:qah)(hr:Rd w w.heap.size A (Z7 (ZF.Yw j i g pp)))(hc:64<=c):
  qak Tryz.prog 148 #[.slice A 64 c] w fun e w'=>e=.returned (.tuple #[.agg #[j,i,g,pp],()])/\qai w.heap.size w w':=by
 have p2:=h.p2
 obtain⟨j1,j2,i1,i2,i3,g1,g2,p1,gp⟩:=id h
 obtain⟨e0,e1,e2,e3⟩:=Ih (J:=j) (I:=i) (G:=g) (P:=pp) (by omega) (by omega) (by omega) (by omega)
 have:=ZF.Dw (ZF.Yw j i g pp) A c w (ZF.XM j i g pp) hr hc (by rw[e0,e1,e2,e3];exact h) (by rw[e0,e1,e2,e3])
 rw[e0,e1,e2,e3]at this
 exact this
theorem find_ok(h:VG j i g pp){B:Nat}{w:qah}{S:Nat->Prop}{b:Nat}{k:Dk Sx}(hD:DO B w S b k)(hlen:Ym j i g pp<=k.safe.length){c:Sx}(hc:k.now[0]? =some c)(hcb:c.b=ZF.Yw j i g pp)(hd:k.dead=false):
  qak Tryz.prog 79 #[.pointer b] w fun e w'=>e=.returned (.tuple #[.agg #[j,i,g,pp],.agg #[.int .i64 1,.int .i64 (1+(j:Int)),.int .i64 (1+(j:Int)+1),.int .i64 (1+(j:Int)+1+1),.int .i64 (1+(j:Int)+1+1+1),.int .i64 (1+(j:Int)+1+1+1+(i:Int)/2),.int .i64 (1+(j:Int)+1+1+1+(i:Int)/2+(g:Int)*(pp:Int))],()])/\qai w.heap.size w w':=by
 have hpos:=PV j i g pp
 have hne:((k.safe.length:Int)==0)=false:=by rw[beq_eq_false_iff_ne];omega
 have OD:Hid (∀u:qah,DO B u S b k->qak Tryz.prog 50 #[.pointer b,()] u fun e w'=>e=.returned (.tuple #[.slice u.heap.size 64 64,()])/\Bk w' u.heap.size 161 (Z7 (ZF.Yw j i g pp))/\qai u.heap.size u w'):=χ (fun u hu=>by
  have:=Ry hu (s:=0) hc hd
  rw[hcb]at this
  exact this)
 have HTK:Hid (∀(u:qah)(q:Nat),Bk u q 161 (Z7 (ZF.Yw j i g pp))->qak Tryz.prog 148 #[.slice q 64 64] u fun e w'=>e=.returned (.tuple #[.agg #[j,i,g,pp],()])/\qai u.heap.size u w'):=χ (fun u q hq=>by
  have hrd:=hq.rd 64 0
  rw[List.drop_zero,qan (by rw[Z5,ZF.XM];exact qag _)]at hrd
  exact Ig h.v _ _ u hrd (qag _))
 have vC:Hid (∀u:qah,DO B u S b k->qak Tryz.prog 112 #[.pointer b,.agg #[j,i,g,pp]] u fun e w'=>e=.returned (.tuple #[.agg #[.int .i64 1,.int .i64 (1+(j:Int)),.int .i64 (1+(j:Int)+1),.int .i64 (1+(j:Int)+1+1),.int .i64 (1+(j:Int)+1+1+1),.int .i64 (1+(j:Int)+1+1+1+(i:Int)/2),.int .i64 (1+(j:Int)+1+1+1+(i:Int)/2+(g:Int)*(pp:Int))],()])/\qai u.heap.size u w'):=χ (fun u hu=>Fh h hu.disk hlen)
 obtain⟨W,hW⟩:∃W,W=(w.alloc (.cells #[(),(),(),()] 29)).alloc (.cells #[(),(),(),(),(),(),()] 112):=⟨_,rfl⟩
 have hbW:qai w.heap.size w W:=by rw[hW];exact(qaj _ _).alloc (qag _) _|>.alloc (by simp) _
 have hG:Bk W w.heap.size 29 [(),(),(),()]:=by rw[hW];exact(Bk.new w 29 [(),(),(),()]).below (ZZ _ _) (by simp)
 have hR:Bk W (w.heap.size+1) 112 [(),(),(),(),(),(),()]:=by
  rw[hW]
  have:=Bk.new (w.alloc (.cells #[(),(),(),()] 29)) 112 [(),(),(),(),(),(),()]
  simpa using this
 have HG:=χ hG
 have HR:=χ hR
 have HB:=χ hbW
 have HD:=χ (hD.below hbW)
 have Vz:=χ (qaj W.heap.size W)
 have FB:Hid (W.heap.size=w.heap.size+2):=χ (by rw[hW];simp)
 have K4:=χ (fun(u:qah) (hu:DO B u S b k)=>Ky hu.disk)
 clear hpos h hD hlen hc hcb hd hbW hG hR
 go_enter Tryz.func79,Tryz.ntmps79
 go_upto_region 1 with fail
 rw[<-hW]
 clear hW
 go_upto_region 5 with(go_at_call 49;(with_reducible refine(K4.out _ HD.out).mono ?_);rintro e w1 ⟨he,hb⟩;obtain rfl:=he;subst hb)
 go_upto_region 8 with(go_at_call 50;(with_reducible refine(OD.out _ HD.out).mono ?_);rintro e w1 ⟨he,hbk,hb⟩;obtain rfl:=he;replace Vz:=χ (Vz.out.trans (hb.mono Vz.out.size));replace HG:=χ (HG.out.below hb HG.out.lt);replace HR:=χ (HR.out.below hb HR.out.lt);replace HD:=χ (HD.out.below hb);have I5:=χ hbk;clear hbk;clear hb)
 go_upto_region 9 with(go_at_call 148;(with_reducible refine(HTK.out _ _ I5.out).mono ?_);rintro e w2 ⟨he,hb⟩;obtain rfl:=he;replace Vz:=χ (Vz.out.trans (hb.mono Vz.out.size));replace HG:=χ (HG.out.below hb HG.out.lt);replace HR:=χ (HR.out.below hb HR.out.lt);replace HD:=χ (HD.out.below hb);replace I5:=χ (I5.out.below hb I5.out.lt);clear hb)
 have HZ7:=χ Vz.out.size
 have hal:=ZZ w2 (.cells #[j,i,g,pp] 29)
 replace Vz:=χ (Vz.out.trans (hal.mono Vz.out.size))
 replace HG:=χ (HG.out.below hal HG.out.lt)
 replace HR:=χ (HR.out.below hal HR.out.lt)
 replace HD:=χ (HD.out.below hal)
 replace I5:=χ (I5.out.below hal I5.out.lt)
 have H7:=χ (Bk.new w2 29 [j,i,g,pp])
 clear hal
 generalize ed:w2.heap.size=zU7 at*
 clear ed
 generalize w2.alloc (.cells #[j,i,g,pp] 29)=U7 at*
 obtain⟨g0,g1,g2,g3⟩:=Z6 H7.out
 go_upto_region 10 with(go_at_call 112;(with_reducible refine(vC.out _ HD.out).mono ?_);rintro e w3 ⟨he,hb⟩;obtain rfl:=he;replace Vz:=χ (Vz.out.trans (hb.mono Vz.out.size));replace HG:=χ (HG.out.below hb HG.out.lt);replace HR:=χ (HR.out.below hb HR.out.lt);replace HD:=χ (HD.out.below hb);replace I5:=χ (I5.out.below hb I5.out.lt);replace H7:=χ (H7.out.below hb H7.out.lt);clear g0 g1 g2 g3;clear hb;obtain⟨g0,g1,g2,g3⟩:=Z6 H7.out)
 have HZ9:=χ Vz.out.size
 have hal:=ZZ w3 (.cells #[.int .i64 1,.int .i64 (1+(j:Int)),.int .i64 (1+(j:Int)+1),.int .i64 (1+(j:Int)+1+1),.int .i64 (1+(j:Int)+1+1+1),.int .i64 (1+(j:Int)+1+1+1+(i:Int)/2),.int .i64 (1+(j:Int)+1+1+1+(i:Int)/2+(g:Int)*(pp:Int))] 112)
 replace Vz:=χ (Vz.out.trans (hal.mono Vz.out.size))
 replace HG:=χ (HG.out.below hal HG.out.lt)
 replace HR:=χ (HR.out.below hal HR.out.lt)
 replace HD:=χ (HD.out.below hal)
 replace I5:=χ (I5.out.below hal I5.out.lt)
 replace H7:=χ (H7.out.below hal H7.out.lt)
 have H9:=χ (Bk.new w3 112 [.int .i64 1,.int .i64 (1+(j:Int)),.int .i64 (1+(j:Int)+1),.int .i64 (1+(j:Int)+1+1),.int .i64 (1+(j:Int)+1+1+1),.int .i64 (1+(j:Int)+1+1+1+(i:Int)/2),.int .i64 (1+(j:Int)+1+1+1+(i:Int)/2+(g:Int)*(pp:Int))])
 clear g0 g1 g2 g3
 clear hal
 generalize dZ:w3.heap.size=zU9 at*
 clear dZ
 generalize w3.alloc (.cells #[.int .i64 1,.int .i64 (1+(j:Int)),.int .i64 (1+(j:Int)+1),.int .i64 (1+(j:Int)+1+1),.int .i64 (1+(j:Int)+1+1+1),.int .i64 (1+(j:Int)+1+1+1+(i:Int)/2),.int .i64 (1+(j:Int)+1+1+1+(i:Int)/2+(g:Int)*(pp:Int))] 112)=U9 at*
 obtain⟨g0,g1,g2,g3⟩:=Z6 H7.out
 obtain⟨l0,l1,l2,l3,l4,l5,l6⟩:=ZU H9.out
 obtain⟨a0,a1,a2,a3⟩:=Z6 HG.out
 obtain⟨r0,r1,r2,r3,r4,r5,r6⟩:=ZU HR.out
 have fz:=fun q=>HG.out.frozen q
 have fz2:=fun q=>HR.out.frozen q
 have lt1:=HG.out.lt
 have lt2:=HR.out.lt
 have lt3:=H7.out.lt
 have lt4:=H9.out.lt
 have n1:zU9≠w.heap.size:=by have:=HZ9.out;have:=FB.out;omega
 have n2:zU9≠w.heap.size+1:=by have:=HZ9.out;have:=FB.out;omega
 have n3:zU7≠w.heap.size:=by have:=HZ7.out;have:=FB.out;omega
 have n4:zU7≠w.heap.size+1:=by have:=HZ7.out;have:=FB.out;omega
 have n5:w.heap.size+1≠w.heap.size:=by omega
 have n6:w.heap.size≠w.heap.size+1:=by omega
 go_upto_region 12 with fail
 go_region
 obtain⟨u4,hu4,hb4,hw4,hg4⟩:=pF HG.out (.int .i64 j) (.int .i64 i) (.int .i64 g) (.int .i64 pp)
 rw[hu4]
 have hr4:=HR.out.grown hg4 (by simp)
 obtain⟨u7,dY,YE,hw7,wL⟩:=zT hr4 (.int .i64 1) (.int .i64 (1+(j:Int))) (.int .i64 (1+(j:Int)+1)) (.int .i64 (1+(j:Int)+1+1)) (.int .i64 (1+(j:Int)+1+1+1)) (.int .i64 (1+(j:Int)+1+1+1+(i:Int)/2)) (.int .i64 (1+(j:Int)+1+1+1+(i:Int)/2+(g:Int)*(pp:Int)))
 rw[dY]
 have hg8:=Fg (hb4.grown wL (by simp))
 obtain⟨c0,c1,c2,c3,c4,c5,c6⟩:=ZU (Fg YE)
 obtain⟨d0,d1,d2,d3⟩:=Z6 hg8
 clear g0 g1 g2 g3 l0 l1 l2 l3 l4 l5 l6 a0 a1 a2 a3 r0 r1 r2 r3 r4 r5 r6 fz fz2 n1 n2 n3 n4 n5 n6
 go_wp2
 refine bodyPost_ret (v:=.tuple #[.agg #[j,i,g,pp],.agg #[.int .i64 1,.int .i64 (1+(j:Int)),.int .i64 (1+(j:Int)+1),.int .i64 (1+(j:Int)+1+1),.int .i64 (1+(j:Int)+1+1+1),.int .i64 (1+(j:Int)+1+1+1+(i:Int)/2),.int .i64 (1+(j:Int)+1+1+1+(i:Int)/2+(g:Int)*(pp:Int))],()]) (by simp[results,Tryz.results79,go_sem,c0,c1,c2,c3,c4,c5,c6,d0,d1,d2,d3]) rfl ⟨rfl,?_⟩
 exact HB.out.trans ((Vz.out.mono (by have:=FB.out;omega)).trans ((hw4 _ (qag _)).trans ((hw7 _ (by omega)).drew)))
end
end Go.Proofs.YtmehhgfbnfbnaaaGreat.Y7
