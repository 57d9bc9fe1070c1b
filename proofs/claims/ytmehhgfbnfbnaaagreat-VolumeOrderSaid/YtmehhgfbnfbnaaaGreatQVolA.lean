import Derived.Test.YtmehhgfbnfbnaaaGreatQTopA
import Derived.Test.YtmehhgfbnfbnaaaGreatQSuper
import Derived.Test.YtmehhgfbnfbnaaaGreatQMetaR
import Derived.Test.YtmehhgfbnfbnaaaGreatQTk
import Derived.Test.YtmehhgfbnfbnaaaGreatQMetaX8
set_option maxRecDepth 100000
set_option maxHeartbeats 25600000
open List renaming replicate->qaa,set_cons_zero->qah,getElem?_eq_some_iff->qaj,take_of_length_le->qak,length_singleton->qal
open Nat renaming le_trans->qab,le_refl->qac
open Go renaming World->qad,Calls->qag
open Go.RowKit renaming Below->qae
open Go.RowKit.Below renaming refl->qaf
open Go.IntKind renaming wrap_i64->qai
namespace Go.Proofs.YtmehhgfbnfbnaaaGreat
theorem zF0{P:Prop}(h:P:=by
 (intro u hu;obtain⟨g0,g1,g2,g3⟩:=Meta.Z7 (HG.out.below hu HG.out.lt);obtain⟨l0,l1,l2,l3,l4,l5,l6⟩:=ZU (HL.out.below hu HL.out.lt);clear hu;go_simp<;>with_reducible rfl)):P:=h
end Go.Proofs.YtmehhgfbnfbnaaaGreat
namespace Go.Proofs.YtmehhgfbnfbnaaaGreat.Zl
open Go.RowKit Zq Meta
section
variable {g j i pp b q:Nat}{w u:qad}{e:TypeId}{a0 a1 a2 a3 a4 a5 a6:Value}{S:Nat->Prop}{k:Dk Sx}
structure VG(j i g pp:Nat):Prop where
 v:ZG.Valid (j:Int) (i:Int) (g:Int) (pp:Int)
 room:(i:Int)/2+84+((i:Int)/2+82)/15<=(j:Int)-1
def Ut(j i:Nat):Nat:=1+j+1+1+1+i/2
def Yq(j i g pp:Nat):Nat:=Ut j i+g*pp
theorem Q8(j i g pp:Nat):((Yq j i g pp:Nat):Int)=1+(j:Int)+1+1+1+(i:Int)/2+(g:Int)*(pp:Int):=by
 unfold Yq Ut
 push_cast
 omega
theorem VG.all (h:VG j i g pp):Yq j i g pp<=2000:=by
 have h1:=h.v.j2
 have h2:=h.v.i2
 have h3:=h.v.gp
 have:=Q8 j i g pp
 omega
theorem Ij(h:Zv sx w S b k):qag Tryz.prog 49 #[.pointer b] w fun e w'=>e=.returned (.int .i64 k.safe.length)/\w=w':=Q5 w S b k h
theorem uS(n:Int)(h:1<=n)(hm:n<=1000)(w:qad):qag Tryz.prog 184 #[n] w fun e w'=>e=.returned (.int .i64 (n+1+(n-1)/15))/\w=w':=by
 have:=uR n (by unfold Fe;omega) (by omega) w
 unfold uQ at this
 rw[if_neg (by omega)]at this
 exact this
theorem uV(h:Bk u q e [a0,a1,a2,a3,a4,a5,a6])(v0 v1 v2 v3 v4 v5 v6:Value):
  ∃u',(((((((u.setCell ⟨q,0,none⟩ v0).setCell ⟨q,1,none⟩ v1).setCell ⟨q,2,none⟩ v2).setCell ⟨q,3,none⟩ v3).setCell ⟨q,4,none⟩ v4).setCell ⟨q,5,none⟩ v5).setCell ⟨q,6,none⟩ v6)=u'/\Bk u' q e [v0,v1,v2,v3,v4,v5,v6]/\(∀B,B<=q->qae B u u')/\u.grownBy u' (some q):=by
 refine⟨_,rfl,?_,fun B hB=>?_,?_⟩
 ·have:=(((((((h.set 0 v0).set 1 v1).set 2 v2).set 3 v3).set 4 v4).set 5 v5).set 6 v6)
  simpa only[qah,List.set_cons_succ]using this
 ·repeat(refine qae.setCell ?_ hB _)
  exact qaf _ _
 ·exact ZT (ZT (ZT (ZT (ZT (ZT (ZT (qad.grownBy.refl _ _) 0 v0) 1 v1) 2 v2) 3 v3) 4 v4) 5 v5) 6 v6
theorem uW(h:Bk u q e [a0,a1,a2,a3])(v0 v1 v2 v3:Value):
  ∃u',((((u.setCell ⟨q,0,none⟩ v0).setCell ⟨q,1,none⟩ v1).setCell ⟨q,2,none⟩ v2).setCell ⟨q,3,none⟩ v3)=u'/\Bk u' q e [v0,v1,v2,v3]/\(∀B,B<=q->qae B u u')/\u.grownBy u' (some q):=by
 refine⟨_,rfl,?_,fun B hB=>?_,?_⟩
 ·have:=((((h.set 0 v0).set 1 v1).set 2 v2).set 3 v3)
  simpa only[qah,List.set_cons_succ]using this
 ·repeat(refine qae.setCell ?_ hB _)
  exact qaf _ _
 ·exact ZT (ZT (ZT (ZT (qad.grownBy.refl _ _) 0 v0) 1 v1) 2 v2) 3 v3
theorem ZU(h:Bk w g e [a0,a1,a2,a3,a4,a5,a6]):w.cell? ⟨g,0,none⟩=some a0/\w.cell? ⟨g,1,none⟩=some a1/\w.cell? ⟨g,2,none⟩=some a2/\w.cell? ⟨g,3,none⟩=some a3/\w.cell? ⟨g,4,none⟩=some a4/\w.cell? ⟨g,5,none⟩=some a5/\w.cell? ⟨g,6,none⟩=some a6:=
 ⟨h.cell 0,h.cell 1,h.cell 2,h.cell 3,h.cell 4,h.cell 5,h.cell 6⟩
theorem BS(h:VG j i g pp)(hD:Zv sx w S b k)(hlen:Yq j i g pp<=k.safe.length):
  qag Tryz.prog 112 #[.pointer b,.agg #[j,i,g,pp]] w fun e w'=>e=.returned (.tuple #[.agg #[.int .i64 1,.int .i64 (1+(j:Int)),.int .i64 (1+(j:Int)+1),.int .i64 (1+(j:Int)+1+1),.int .i64 (1+(j:Int)+1+1+1),.int .i64 (1+(j:Int)+1+1+1+(i:Int)/2),.int .i64 (1+(j:Int)+1+1+1+(i:Int)/2+(g:Int)*(pp:Int))],()])/\qae w.heap.size w w':=by
 have hall:=Q8 j i g pp
 have hroom:=h.room
 have hj2:=h.v.j2
 have hi1:=h.v.i1
 have hi2:=h.v.i2
 have hlt:decide ((k.safe.length:Int)<1+(j:Int)+1+1+1+(i:Int)/2+(g:Int)*(pp:Int))=false:=decide_eq_false (by omega)
 obtain⟨nn,hnn⟩:∃nn:Int,3+(i:Int)/2=nn:=⟨_,rfl⟩
 have abV:nn<=100/\3<=nn:=by omega
 have hw1:IntKind.i64.wrap (nn+80)=nn+80:=by rw[qai];omega
 have hw2:IntKind.i64.wrap ((j:Int)-1)=(j:Int)-1:=by rw[qai];omega
 have hgt:decide ((j:Int)-1<nn+80+1+(nn+80-1)/15)=false:=decide_eq_false (by omega)
 have Kn:Hid (∀u:qad,qag Tryz.prog 65 #[.agg #[j,i,g,pp]] u fun e w'=>e=.returned (.tuple #[.agg #[.int .i64 1,.int .i64 (1+(j:Int)),.int .i64 (1+(j:Int)+1),.int .i64 (1+(j:Int)+1+1),.int .i64 (1+(j:Int)+1+1+1),.int .i64 (1+(j:Int)+1+1+1+(i:Int)/2),.int .i64 (1+(j:Int)+1+1+1+(i:Int)/2+(g:Int)*(pp:Int))],()])/\qae u.heap.size u w'):=χ (fun u=>ZG.Ob h.v u)
 have HME:Hid (∀u:qad,qag Tryz.prog 72 #[.agg #[j,i,g,pp]] u fun e w'=>e=.returned (.int .i64 nn)/\qae u.heap.size u w'):=χ (fun u=>by rw[<-hnn];exact ZG.Q7 h.v u)
 have jD:Hid (∀u:qad,qag Tryz.prog 184 #[.int .i64 (nn+80)] u fun e w'=>e=.returned (.int .i64 (nn+80+1+(nn+80-1)/15))/\u=w'):=χ (fun u=>uS (nn+80) (by omega) (by omega) u)
 obtain⟨W,hW⟩:∃W,W=(w.alloc (.cells #[j,i,g,pp] 29)).alloc (.cells #[(),(),(),(),(),(),()] 112):=⟨_,rfl⟩
 have hbW:qae w.heap.size w W:=by rw[hW];exact(qaf _ _).alloc (qac _) _|>.alloc (by simp) _
 have hG:Bk W w.heap.size 29 [j,i,g,pp]:=by rw[hW];exact(Bk.new w 29 [j,i,g,pp]).below (Z0 _ _) (by simp)
 have hR:Bk W (w.heap.size+1) 112 [(),(),(),(),(),(),()]:=by
  rw[hW]
  have:=Bk.new (w.alloc (.cells #[j,i,g,pp] 29)) 112 [(),(),(),(),(),(),()]
  simpa using this
 have HG:=χ hG
 have HR:=χ hR
 have HB:=χ hbW
 have HD:=χ (hD.below hbW)
 have VJ:=χ (qaf W.heap.size W)
 have zT:Hid (W.heap.size=w.heap.size+2):=χ (by rw[hW];simp)
 obtain⟨g0,g1,g2,g3⟩:=Meta.Z7 hG
 clear hbW hG hR hD hall hroom hnn h hlen
 go_enter Tryz.func112,Tryz.ntmps112
 go_upto_region 1 with fail
 rw[<-hW]
 clear hW
 go_upto_region 2 with(go_at_call 65;(with_reducible refine(Kn.out _).mono ?_);rintro e w1 ⟨he,hb⟩;obtain rfl:=he;replace VJ:=χ (VJ.out.trans (hb.mono VJ.out.size));replace HG:=χ (HG.out.below hb HG.out.lt);replace HR:=χ (HR.out.below hb HR.out.lt);replace HD:=χ (HD.out.below hb);have HZ1:=χ hb.size;clear g0 g1 g2 g3;clear hb;obtain⟨g0,g1,g2,g3⟩:=Meta.Z7 HG.out)
 have hal:=Z0 w1 (.cells #[.int .i64 1,.int .i64 (1+(j:Int)),.int .i64 (1+(j:Int)+1),.int .i64 (1+(j:Int)+1+1),.int .i64 (1+(j:Int)+1+1+1),.int .i64 (1+(j:Int)+1+1+1+(i:Int)/2),.int .i64 (1+(j:Int)+1+1+1+(i:Int)/2+(g:Int)*(pp:Int))] 112)
 replace VJ:=χ (VJ.out.trans (hal.mono VJ.out.size))
 replace HG:=χ (HG.out.below hal HG.out.lt)
 replace HR:=χ (HR.out.below hal HR.out.lt)
 replace HD:=χ (HD.out.below hal)
 have HL:=χ (Bk.new w1 112 [.int .i64 1,.int .i64 (1+(j:Int)),.int .i64 (1+(j:Int)+1),.int .i64 (1+(j:Int)+1+1),.int .i64 (1+(j:Int)+1+1+1),.int .i64 (1+(j:Int)+1+1+1+(i:Int)/2),.int .i64 (1+(j:Int)+1+1+1+(i:Int)/2+(g:Int)*(pp:Int))])
 clear g0 g1 g2 g3
 clear hal
 generalize gQ:w1.heap.size=zU1 at*
 clear gQ
 generalize w1.alloc (.cells #[.int .i64 1,.int .i64 (1+(j:Int)),.int .i64 (1+(j:Int)+1),.int .i64 (1+(j:Int)+1+1),.int .i64 (1+(j:Int)+1+1+1),.int .i64 (1+(j:Int)+1+1+1+(i:Int)/2),.int .i64 (1+(j:Int)+1+1+1+(i:Int)/2+(g:Int)*(pp:Int))] 112)=U1 at*
 have HZ2:=χ VJ.out.size
 have hS0:qae U1.heap.size U1 U1.drew:=(qaf _ _).drew
 refine wp_region_held_drew (S:=fun u=>qae U1.heap.size U1 u) (by kernel_rfl) hS0 (fun hHeld=>?_)
 clear hS0
 generalize hu0:U1.drew=IX at*
 clear hu0
 refine tk 0 ?_ (y:=.inl ⟨by rfl,?hya0⟩) (s:=by exact hHeld) (h:=?V6)
 case hya0=>exact zF0
 refine tk 1 ?_ (y:=.inl ⟨by rfl,?hya1⟩) (s:=by exact hHeld) (h:=?V5)
 case hya1=>exact zF0
 refine tk 2 ?_ (y:=.inl ⟨by rfl,?hya2⟩) (s:=by exact hHeld) (h:=?V4)
 case hya2=>exact zF0
 refine tk 3 ?_ (y:=.inl ⟨by rfl,?hya3⟩) (s:=by exact hHeld) (h:=?TD)
 case hya3=>exact zF0
 refine tk 5 ?_ (y:=.inl ⟨by rfl,?hya5⟩) (s:=by exact hHeld) (h:=?Vi)
 case hya5=>exact zF0
 refine tk 6 ?_ (y:=.inl ⟨by rfl,?hya6⟩) (s:=by exact hHeld) (h:=?UR)
 case hya6=>exact zF0
 refine rd 4 (h:=fun K hK=>?_)
 go_simp
 (with_reducible refine(Ij (HD.out.below hHeld)).mono ?_)
 rintro e x1 ⟨he,hb⟩;obtain rfl:=he;subst hb
 have hS:=hHeld
 go_simp
 refine hK.out _ _ hS (fun Z5=>?_)
 clear hK K hHeld hS
 have hHeld:=Z5
 clear Z5
 refine tk 7 ?_ (y:=.inl ⟨by rfl,?hya7⟩) (s:=by exact hHeld) (h:=?RU)
 case hya7=>exact zF0
 refine tk 8 ?_ (y:=.inl ⟨by rfl,?hya8⟩) (s:=by exact hHeld) (h:=?RS)
 case hya8=>exact zF0
 refine tk 9 ?_ (y:=.inl ⟨by rfl,?hya9⟩) (s:=by exact hHeld) (h:=?OW)
 case hya9=>exact zF0
 refine tk 10 ?_ (y:=.inl ⟨by rfl,?hya10⟩) (s:=by exact hHeld) (h:=?Vb)
 case hya10=>exact zF0
 refine tk 14 ?_ (y:=.inl ⟨by rfl,?hya14⟩) (s:=by exact hHeld) (h:=?Cf)
 case hya14=>exact zF0
 refine tk 15 ?_ (y:=.inl ⟨by rfl,?hya15⟩) (s:=by exact hHeld) (h:=?jC)
 case hya15=>exact zF0
 refine tk 16 ?_ (y:=.inl ⟨by rfl,?hya16⟩) (s:=by exact hHeld) (h:=?uP)
 case hya16=>exact zF0
 refine rd 11 (h:=fun K hK=>?_)
 go_simp
 (with_reducible refine(HME.out _).mono ?_)
 rintro e x2 ⟨he,hb⟩;obtain rfl:=he
 have hS:qae U1.heap.size U1 x2:=hHeld.trans (hb.mono hHeld.size)
 clear hb
 go_simp
 refine hK.out _ _ hS (fun Z5=>?_)
 clear hK K hHeld hS
 have hHeld:=Z5
 clear Z5
 refine tk 12 ?_ (y:=.inl ⟨by rfl,?hya12⟩) (s:=by exact hHeld) (h:=?Ra)
 case hya12=>exact zF0
 refine rd 13 (h:=fun K hK=>?_)
 go_simp
 (with_reducible refine(jD.out _).mono ?_)
 rintro e x3 ⟨he,hb⟩;obtain rfl:=he;subst hb
 have hS:=hHeld
 go_simp
 refine hK.out _ _ hS (fun Z5=>?_)
 clear hK K hHeld hS
 have hHeld:=Z5
 clear Z5
 refine tk 17 ?_ (y:=.inl ⟨by rfl,?hya17⟩) (s:=by exact hHeld) (h:=?uO)
 case hya17=>exact zF0
 refine tk 18 ?_ (y:=.inl ⟨by rfl,?hya18⟩) (s:=by exact hHeld) (h:=?uN)
 case hya18=>exact zF0
 refine wpAnyH_done (by kernel_rfl) ?_ _
 clear Kn HME jD hw1 hw2 hlt hgt abV
 have HBE:Hid (qae w.heap.size U1 x2):=χ (hHeld.mono (by have:=zT.out;have:=HZ2.out;omega))
 obtain⟨l0,l1,l2,l3,l4,l5,l6⟩:=ZU (HL.out.below hHeld HL.out.lt)
 have hrx:=HR.out.below hHeld HR.out.lt
 obtain⟨r0,r1,r2,r3,r4,r5,r6⟩:=ZU hrx
 have fz:=fun q=>hrx.frozen q
 go_wp2_with fail
 obtain⟨u7,hu7,Yr,hw7,-⟩:=uV hrx (.int .i64 1) (.int .i64 (1+(j:Int))) (.int .i64 (1+(j:Int)+1)) (.int .i64 (1+(j:Int)+1+1)) (.int .i64 (1+(j:Int)+1+1+1)) (.int .i64 (1+(j:Int)+1+1+1+(i:Int)/2)) (.int .i64 (1+(j:Int)+1+1+1+(i:Int)/2+(g:Int)*(pp:Int)))
 rw[hu7]
 obtain⟨c0,c1,c2,c3,c4,c5,c6⟩:=ZU Yr
 refine bodyPost_ret (v:=.tuple #[.agg #[.int .i64 1,.int .i64 (1+(j:Int)),.int .i64 (1+(j:Int)+1),.int .i64 (1+(j:Int)+1+1),.int .i64 (1+(j:Int)+1+1+1),.int .i64 (1+(j:Int)+1+1+1+(i:Int)/2),.int .i64 (1+(j:Int)+1+1+1+(i:Int)/2+(g:Int)*(pp:Int))],()]) (by simp[results,Tryz.results112,go_sem,c0,c1,c2,c3,c4,c5,c6]) rfl ⟨rfl,?_⟩
 exact HB.out.trans ((VJ.out.mono (by have:=zT.out;omega)).trans (HBE.out.trans (hw7 _ (by omega))))
end
end Go.Proofs.YtmehhgfbnfbnaaaGreat.Zl

namespace Go.Proofs.YtmehhgfbnfbnaaaGreat.Zl
open Go.RowKit Zq Meta
section
variable {k:Dk Sx}{j i g pp:Nat}
def gV(j i g pp:Nat):Sx:=⟨ZG.Yg j i g pp,0,ZG.Xn j i g pp,by decide⟩
def fmtS(j i g pp:Nat):List Sx:=gV j i g pp::qaa (Yq j i g pp-1) zx
def Q9(j i g pp:Nat):List (Nat × Sx):=placed 0 (fmtS j i g pp)
theorem N8(j i g pp:Nat):1<=Yq j i g pp:=by unfold Yq Ut;omega
theorem TB(j i g pp:Nat):(fmtS j i g pp).length=Yq j i g pp:=by
 have:=N8 j i g pp
 simp[fmtS];omega
theorem Ii(j i g pp:Nat):(Q9 j i g pp).length=Yq j i g pp:=by rw[Q9,Wm,TB]
def EF(j i g pp a:Nat):List UInt8:=if a=0 then ZG.Yg j i g pp else qaa 64 0
theorem gJ{a:Nat}(h:a<Yq j i g pp):∃c:Sx,(Q9 j i g pp)[a]? =some (a,c)/\c.b=EF j i g pp a/\c.t=0:=by
 unfold Q9 EF
 rw[RN,Nat.zero_add]
 cases a with
 |zero=>exact⟨gV j i g pp,rfl,rfl,rfl⟩
 |succ a=>
  refine⟨zx,?_,by rw[if_neg (by omega)];rfl,rfl⟩
  have:(fmtS j i g pp)[a+1]? =some zx:=by
   unfold fmtS
   rw[List.getElem?_cons_succ,List.getElem?_replicate,if_pos (by omega)]
  rw[this];rfl
theorem Ke(hd:k.dead=false)(hc:k.cut=false):k.off=false:=by unfold Dk.off;rw[hd,hc];rfl
theorem uU(hd:k.dead=false)(hc:k.cut=false)(s:Nat)(c:Sx):(k.wrote s c).dead=false/\(k.wrote s c).cut=false:=by
 unfold Dk.wrote Dk.op
 rw[Ke hd hc]
 exact⟨hd,hc⟩
theorem zQ(h:VG j i g pp){B:Nat}{w:qad}{S:Nat->Prop}{b:Nat}(hD:DO B w S b k)(hB:B<=w.heap.size)(hlen:Yq j i g pp<=k.safe.length)(hd:k.dead=false)(hc:k.cut=false)(hu:k.un.length<=100000):
  qag Tryz.prog 47 #[.pointer b,.agg #[j,i,g,pp]] w fun e w'=>e=.returned (.int .i64 0)/\(∃S',DO B w' S' b (k.writes (Q9 j i g pp)).2)/\Zq.Good w w'/\qae B w w':=by
 have hall:=Q8 j i g pp
 have hpos:=N8 j i g pp
 have hmax:=h.all
 have jF:=χ h
 have nD:Hid (∀u:qad,(∃S,DO B u S b k)->qag Tryz.prog 112 #[.pointer b,.agg #[j,i,g,pp]] u fun e w'=>e=.returned (.tuple #[.agg #[.int .i64 1,.int .i64 (1+(j:Int)),.int .i64 (1+(j:Int)+1),.int .i64 (1+(j:Int)+1+1),.int .i64 (1+(j:Int)+1+1+1),.int .i64 (1+(j:Int)+1+1+1+(i:Int)/2),.int .i64 (1+(j:Int)+1+1+1+(i:Int)/2+(g:Int)*(pp:Int))],()])/\qae u.heap.size u w'):=χ (fun u hu=>by
  obtain⟨S,hS⟩:=hu
  exact BS h hS.disk hlen)
 have vM:Hid (∀u:qad,qag Tryz.prog 113 #[.agg #[j,i,g,pp]] u fun e w'=>∃v,e=.returned (.tuple #[v,()])/\Made u (ZG.Yg j i g pp) v w'):=χ (fun u=>ZG.Ih h.v u)
 obtain⟨N,hN⟩:∃N,Yq j i g pp=N:=⟨_,rfl⟩
 have HL:Hid (∀a,a<N->∃c:Sx,(Q9 j i g pp)[a]? =some (a,c)/\c.b=EF j i g pp a/\c.t=0):=χ (fun a ha=>gJ (by rw[hN];exact ha))
 have nE:Hid ((Q9 j i g pp).length=N):=χ (by rw[Ii,hN])
 rw[hN]at hall hpos hmax hlen
 have HN:=χ hall
 have HLEN:=χ hlen
 have HD:=χ hD
 have HB0:=χ hB
 have gP:=χ hc
 have HDD:=χ hd
 have OX:=χ hu
 have Yt:=χ (qaf B w)
 have Tz:=χ (Good.refl w)
 clear h hD hB hlen hd hc hu hN hall
 generalize Q9 j i g pp=L at*
 go_enter Tryz.func47,Tryz.ntmps47
 go_upto_region 1 with fail
 have hal:=Z0 w (.cells #[j,i,g,pp] 29)
 replace HD:=χ (HD.out.below hal)
 replace Yt:=χ (Yt.out.trans (hal.mono (qab HB0.out Yt.out.size)))
 replace Tz:=χ (Tz.out.trans (Good.of_below hal))
 have HG:=χ (Bk.new w 29 [j,i,g,pp])
 clear hal
 generalize w.alloc (.cells #[j,i,g,pp] 29)=U1 at*
 obtain⟨g0,g1,g2,g3⟩:=Z7 HG.out
 go_upto_region 3 with fail
 go_upto_region 4 with(go_at_call 112;(with_reducible refine(nD.out _ ⟨_,HD.out⟩).mono ?_);rintro e w1 ⟨he,hb⟩;obtain rfl:=he;replace HD:=χ (HD.out.below hb);replace HG:=χ (HG.out.below hb HG.out.lt);replace Yt:=χ (Yt.out.trans (hb.mono (qab HB0.out Yt.out.size)));replace Tz:=χ (Tz.out.trans (Good.of_below hb));clear g0 g1 g2 g3;clear hb;obtain⟨g0,g1,g2,g3⟩:=Z7 HG.out)
 have hal:=Z0 w1 (.cells #[.int .i64 1,.int .i64 (1+(j:Int)),.int .i64 (1+(j:Int)+1),.int .i64 (1+(j:Int)+1+1),.int .i64 (1+(j:Int)+1+1+1),.int .i64 (1+(j:Int)+1+1+1+(i:Int)/2),.int .i64 (1+(j:Int)+1+1+1+(i:Int)/2+(g:Int)*(pp:Int))] 112)
 replace HD:=χ (HD.out.below hal)
 replace HG:=χ (HG.out.below hal HG.out.lt)
 replace Yt:=χ (Yt.out.trans (hal.mono (qab HB0.out Yt.out.size)))
 replace Tz:=χ (Tz.out.trans (Good.of_below hal))
 have HP:=χ (Bk.new w1 112 [.int .i64 1,.int .i64 (1+(j:Int)),.int .i64 (1+(j:Int)+1),.int .i64 (1+(j:Int)+1+1),.int .i64 (1+(j:Int)+1+1+1),.int .i64 (1+(j:Int)+1+1+1+(i:Int)/2),.int .i64 (1+(j:Int)+1+1+1+(i:Int)/2+(g:Int)*(pp:Int))])
 clear g0 g1 g2 g3
 clear hal
 generalize gU:w1.heap.size=zU2 at*
 clear gU
 generalize w1.alloc (.cells #[.int .i64 1,.int .i64 (1+(j:Int)),.int .i64 (1+(j:Int)+1),.int .i64 (1+(j:Int)+1+1),.int .i64 (1+(j:Int)+1+1+1),.int .i64 (1+(j:Int)+1+1+1+(i:Int)/2),.int .i64 (1+(j:Int)+1+1+1+(i:Int)/2+(g:Int)*(pp:Int))] 112)=U2 at*
 obtain⟨g0,g1,g2,g3⟩:=Z7 HG.out
 obtain⟨l0,l1,l2,l3,l4,l5,l6⟩:=ZU HP.out
 go_upto_region 6 with fail
 go_upto_region 7 with(go_at_call 113;have aar:=Yt;(with_reducible refine(vM.out _).mono ?_);rintro e w2 ⟨v,he,hmd,hb⟩;obtain rfl:=he;replace HD:=χ (HD.out.below hb);replace HG:=χ (HG.out.below hb HG.out.lt);replace HP:=χ (HP.out.below hb HP.out.lt);replace Yt:=χ (Yt.out.trans (hb.mono (qab HB0.out Yt.out.size)));replace Tz:=χ (Tz.out.trans (Good.of_below hb));have aR:=χ hmd;have HZB:=χ aar.out.size;clear hmd aar;clear g0 g1 g2 g3 l0 l1 l2 l3 l4 l5 l6;clear hb;obtain⟨g0,g1,g2,g3⟩:=Z7 HG.out;obtain⟨l0,l1,l2,l3,l4,l5,l6⟩:=ZU HP.out)
 have hmk:∀u:qad,(Instr.makeSlice 37 (.int .i64 64) (.int .i64 64)).run Tryz.prog u=.ok (.slice u.heap.size 64 64) (u.alloc (.cells (Z6 (qaa 64 0)).toArray 5)):=fun u=>YD 64 (by decide) u
 have HMK:=χ hmk
 clear hmk
 rw[<-HN.out]at l6
 have aas:Hid (w2.ownsRow B 5 1 v 64 (Z6 (EF j i g pp 0))):=χ (by
  have hm:=ZL aR.out (qab HB0.out HZB.out)
  rw[ZG.Xn]at hm
  exact hm)
 clear aR nD vM
 go_wp2_with fail
 clear g0 g1 g2 g3 l0 l1 l2 l3 l4 l5 l6
 go_loopw [7,9,10,29] (fun bv _ _ kc wr=>∃(a:Nat)(kj:Dk Sx)(S':Nat->Prop),kc=.int .i64 a/\a<=N/\Hid (DO B wr S' b kj)/\Hid (k.writes L=kj.writes (L.drop a))/\Hid (kj.dead=false/\kj.cut=false)/\Hid (kj.un.length=k.un.length+a/\kj.safe.length=k.safe.length)/\Hid (wr.ownsRow B 5 1 bv 64 (Z6 (EF j i g pp a)))/\Hid (Zq.Good w wr)/\Hid (qae B w wr)) (fun _ _ _ kc _=>N-(intOf kc).toNat)
 case atStart=>exact⟨0,k,S,rfl,Nat.zero_le _,HD,χ rfl,χ ⟨HDD.out,gP.out⟩,χ ⟨rfl,rfl⟩,aas,Tz,Yt⟩
 case round=>
  clear HD Tz Yt aas
  obtain⟨a,kj,S',rfl,ha,HD,jE,vY,Oo,aR,Tz,Yt⟩:=hrel
  by_cases hlt:a<N
  ·obtain⟨c,hc1,hc2,hc3⟩:=HL.out a hlt
   obtain⟨gb,cb,hv,hcb⟩:=Zp aR.out (by omega)
   subst hv
   have hrow:=aR.out
   have hra:wr.rangeAt gb 0 (Z6 c.b):=fun q u hu=>by
    rw[Nat.zero_add,hrow.cellAt q (by have:=(qaj.1 hu).1;rw[Z4,c.hb]at this;omega),<-hc2]
    exact hu
   have hgt:∃cur,wr.heap[gb]? =some (.cells cur 5 (0,0)):=by
    rcases hrow.2 with⟨hv,_⟩|⟨g',cap,cur,hv,_,hg,_⟩
    ·cases hv
    ·injection hv with hv _ _
     injection hv with hv
     injection hv with hv
     subst hv
     exact⟨cur,hg⟩
   obtain⟨cur,RL⟩:=hgt
   have hnS:¬ S' gb:=fun hs=>by
    obtain⟨c',e',h1,h2⟩:=typed HD.out.disk hs
    rw[RL]at h1
    cases h1
    exact absurd h2 (by decide)
   have hwc:=LC Qi wr S' b kj HD.out.disk a (by rw[Oo.out.2];have:=HLEN.out;omega) gb 0 cb (Z6 c.b) 0 c (by show Z6 c.b++[.int .u16 c.t]=_;rw[hc3];rfl) (by rw[Z4,c.hb]) hra hnS (XZ RL) (by rw[Oo.out.1];have:=OX.out;omega) (Ke vY.out.1 vY.out.2)
   have HWC:=χ hwc
   have hdrop:L.drop a=(a,c)::L.drop (a+1):=by
    obtain⟨h1,h2⟩:=qaj.1 hc1
    rw[<-h2,List.getElem_cons_drop]
   have abP:Hid (k.writes L=(kj.wrote a c).writes (L.drop (a+1))):=χ (by
    rw[jE.out,hdrop]
    show(if kj.off then _ else _)=_
    rw[Ke vY.out.1 vY.out.2]
    rfl)
   have abQ:=χ (uU vY.out.1 vY.out.2 a c)
   have abR:Hid ((kj.wrote a c).un.length=k.un.length+(a+1)/\(kj.wrote a c).safe.length=k.safe.length):=χ (by
    rw[Dk.Tx,Dk.VE,List.length_append,Oo.out.1]
    exact⟨by simp only[qal];omega,Oo.out.2⟩)
   have jS:Hid (EF j i g pp (a+1)=qaa 64 0):=χ (if_neg (by omega))
   have hmk:=HMK.out
   have V7:(a:Int)<(N:Int):=by omega
   have hi0:(0:Int)<=(a:Int):=by omega
   have wh:IntKind.i64.wrap ((a:Int)+1)=((a+1:Nat):Int):=by rw[qai];omega
   clear hwc hdrop hra RL hnS hrow hc1 hc2 hc3 hcb jE aR
   go_wp2_with (go_at_call 114;(with_reducible refine HWC.out.mono ?_);rintro e w' ⟨he,ht⟩;obtain rfl:=he;obtain⟨⟨S2,hD2⟩,hg2,hb2⟩:=HD.out.turn ht (qab HB0.out Yt.out.size);have HD2:=χ hD2;have gI:=χ (Tz.out.trans hg2);have uT:=χ (Yt.out.trans hb2);clear ht hD2 hg2 hb2)
   have hal:=Z0 w' (.cells (Z6 (qaa 64 0)).toArray 5)
   have HD3:=χ (HD2.out.below hal)
   have abS:=χ (gI.out.trans (Good.of_below hal))
   have abT:=χ (uT.out.trans (hal.mono (qab HB0.out uT.out.size)))
   have abU:Hid ((w'.alloc (.cells (Z6 (qaa 64 0)).toArray 5)).ownsRow B 5 1 (.slice w'.heap.size 64 64) 64 (Z6 (EF j i g pp (a+1)))):=χ (by
    rw[jS.out]
    exact(Bk.new w' 5 (Z6 (qaa 64 0))).own 64 (by rw[Z4];simp) (qab HB0.out uT.out.size) (by decide))
   clear hal
   go_roundw
   case rel=>exact⟨a+1,_,_,by first|rfl|(congr 1),hlt,HD3,abP,abQ,abR,abU,abS,abT⟩
   case measure=>simp[intOf];omega
  ·obtain rfl:N=a:=by omega
   have hdr:L.drop N=[]:=List.drop_of_length_le (by rw[nE.out];exact qac _)
   have hwf:(k.writes L).2=kj.flush:=by rw[jE.out,hdr];rfl
   have hfl:=LB Qi wr S' b kj HD.out.disk (by rw[Oo.out.1];have:=OX.out;omega)
   rw[Ke vY.out.1 vY.out.2]at hfl
   have bz:=χ hfl
   have HWF:=χ hwf
   clear hdr hwf hfl
   go_wp2_with (go_at_call 115;(with_reducible refine bz.out.mono ?_);rintro e w' ⟨he,ht⟩;obtain rfl:=he;obtain⟨hD2,hg2,hb2⟩:=HD.out.turn ht (qab HB0.out Yt.out.size);have HD2:=χ hD2;have gI:=χ (Tz.out.trans hg2);have uT:=χ (Yt.out.trans hb2);clear ht hD2 hg2 hb2)
   go_ret
   exact⟨rfl,by rw[HWF.out];exact HD2.out,gI.out,uT.out⟩
end
end Go.Proofs.YtmehhgfbnfbnaaaGreat.Zl

namespace Go.Proofs.YtmehhgfbnfbnaaaGreat.Zl
open Go.RowKit Zq Meta
structure TE(u:qad)(base:Nat)(v:Value)(L:List Sc)(l:List (List UInt8)):Prop where
 len:L.length=l.length
 row:u.ownsRow base 37 1 v l.length (X3 L l)
 each:∀(i:Nat)(s:Sc)(b:List UInt8),L[i]? =some s->l[i]? =some b->∃g,s.A=some ⟨g,0,none⟩/\b.length<=s.c/\s.c<=maxLen/\Bk u g 161 (Z6 b)/\base<=g
section
variable {u u':qad}{base:Nat}{v:Value}{L:List Sc}{l:List (List UInt8)}
theorem TE.below (h:TE u base v L l)(hb:qae u.heap.size u u'):TE u' base v L l:=
 ⟨h.len,own_below h.row hb,fun i s b h1 h2=>by
  obtain⟨g,e1,e2,e3,e4,e5⟩:=h.each i s b h1 h2
  exact⟨g,e1,e2,e3,e4.below hb e4.lt,e5⟩⟩
theorem TE.at_ {A:Option Addr}{n c:Nat}(h:TE u base (.slice A n c) L l):n=l.length/\Zd u u.heap.size A L l:=by
 obtain⟨_,A',c',hv,hc,hm,hr⟩:=Yx h.row
 injection hv with h1 h2 h3
 subst h1 h2 h3
 refine⟨rfl,h.len,hr,fun i s b h1 h2=>?_⟩
 obtain⟨g,e1,e2,e3,e4,-⟩:=h.each i s b h1 h2
 rw[e1]
 have:=e4.rd b.length 0
 rw[List.drop_zero,qak (by rw[Z4];exact qac _)]at this
 exact⟨this,e2,e3⟩
end
section
variable {u u':qad}{base:Nat}{v:Value}{L:List Sc}{l:List (List UInt8)}
theorem TE.lower {base':Nat}(h:TE u base v L l)(hb:base'<=base):TE u base' v L l:=⟨h.len,ZL h.row hb,fun i s b h1 h2=>by
 obtain⟨g,e1,e2,e3,e4,e5⟩:=h.each i s b h1 h2
 exact⟨g,e1,e2,e3,e4,qab hb e5⟩⟩
end
def Q6(n:Nat)(L:List Sc)(l:List (List UInt8)):List Value:=X3 L l++qaa (n-l.length) (.slice none 0 0)
theorem zK{n:Nat}{L:List Sc}{l:List (List UInt8)}(hL:L.length=l.length)(hn:l.length<n)(S:Sc)(b:List UInt8):(Q6 n L l).set l.length (.slice S.A b.length S.c)=Q6 n (L++[S]) (l++[b]):=by
 unfold Q6
 rw[N7 hL,List.length_append,qal,show n-l.length=(n-(l.length+1))+1 by omega,List.replicate_succ,List.set_append_right _ _ (by rw[VR hL];exact qac _),VR hL,Nat.sub_self,qah,List.append_assoc]
 rfl
end Go.Proofs.YtmehhgfbnfbnaaaGreat.Zl

namespace Go.Proofs.YtmehhgfbnfbnaaaGreat.Zl
open Go.RowKit Zq Meta
section
variable {j i g pp:Nat}
theorem Ik(J I G P:Nat):∃R,ZG.Yg J I G P=ZG.Pp++(YE J 2++(YE I 2++(YE G 2++(YE P 2++R)))):=by
 refine⟨qaa (60-(ZG.Ty J I G P).length) 0++YE (sumOf (Ya (ZG.Ty J I G P) 60)) 4,?_⟩
 simp[ZG.Yg,UQ,Ya,ZG.Ty,Y0]
theorem EH{J I G P:Nat}(hJ:J<65536)(hI:I<65536)(hG:G<65536)(hP:P<65536):
  ZG.ZI (ZG.Yg J I G P) 4=J/\ZG.ZI (ZG.Yg J I G P) 6=I/\ZG.ZI (ZG.Yg J I G P) 8=G/\ZG.ZI (ZG.Yg J I G P) 10=P:=by
 obtain⟨R,hR⟩:=Ik J I G P
 have e:∀n:Nat,n<65536->le (YE n 2)=n:=fun n hn=>Xd n 2 (by simpa using hn)
 have hJ':=e J hJ
 have hI':=e I hI
 have hG':=e G hG
 have hP':=e P hP
 unfold ZG.ZI
 rw[hR]
 simp only[ZG.Pp,YE]at*
 exact⟨hJ',hI',hG',hP'⟩
theorem EG(h:ZG.Valid (j:Int) i g pp)(A:Option Addr)(c:Nat)(w:qad)(hr:Rd w w.heap.size A (Z6 (ZG.Yg j i g pp)))(hc:64<=c):
  qag Tryz.prog 148 #[.slice A 64 c] w fun e w'=>e=.returned (.tuple #[.agg #[j,i,g,pp],()])/\qae w.heap.size w w':=by
 have p2:=h.p2
 obtain⟨j1,j2,i1,i2,i3,g1,g2,p1,gp⟩:=id h
 obtain⟨e0,e1,e2,e3⟩:=EH (J:=j) (I:=i) (G:=g) (P:=pp) (by omega) (by omega) (by omega) (by omega)
 have:=ZG.zJ (ZG.Yg j i g pp) A c w (ZG.Xn j i g pp) hr hc (by rw[e0,e1,e2,e3];exact h) (by rw[e0,e1,e2,e3])
 rw[e0,e1,e2,e3]at this
 exact this
theorem find_ok(h:VG j i g pp){B:Nat}{w:qad}{S:Nat->Prop}{b:Nat}{k:Dk Sx}(hD:DO B w S b k)(hlen:Yq j i g pp<=k.safe.length){c:Sx}(hc:k.now[0]? =some c)(hcb:c.b=ZG.Yg j i g pp)(hd:k.dead=false):
  qag Tryz.prog 79 #[.pointer b] w fun e w'=>e=.returned (.tuple #[.agg #[j,i,g,pp],.agg #[.int .i64 1,.int .i64 (1+(j:Int)),.int .i64 (1+(j:Int)+1),.int .i64 (1+(j:Int)+1+1),.int .i64 (1+(j:Int)+1+1+1),.int .i64 (1+(j:Int)+1+1+1+(i:Int)/2),.int .i64 (1+(j:Int)+1+1+1+(i:Int)/2+(g:Int)*(pp:Int))],()])/\qae w.heap.size w w':=by
 have hpos:=N8 j i g pp
 have hne:((k.safe.length:Int)==0)=false:=by rw[beq_eq_false_iff_ne];omega
 have Im:Hid (∀u:qad,DO B u S b k->qag Tryz.prog 50 #[.pointer b,()] u fun e w'=>e=.returned (.tuple #[.slice u.heap.size 64 64,()])/\Bk w' u.heap.size 161 (Z6 (ZG.Yg j i g pp))/\qae u.heap.size u w'):=χ (fun u hu=>by
  have:=LD hu (s:=0) hc hd
  rw[hcb]at this
  exact this)
 have Ci:Hid (∀(u:qad)(q:Nat),Bk u q 161 (Z6 (ZG.Yg j i g pp))->qag Tryz.prog 148 #[.slice q 64 64] u fun e w'=>e=.returned (.tuple #[.agg #[j,i,g,pp],()])/\qae u.heap.size u w'):=χ (fun u q hq=>by
  have hrd:=hq.rd 64 0
  rw[List.drop_zero,qak (by rw[Z4,ZG.Xn];exact qac _)]at hrd
  exact EG h.v _ _ u hrd (qac _))
 have nD:Hid (∀u:qad,DO B u S b k->qag Tryz.prog 112 #[.pointer b,.agg #[j,i,g,pp]] u fun e w'=>e=.returned (.tuple #[.agg #[.int .i64 1,.int .i64 (1+(j:Int)),.int .i64 (1+(j:Int)+1),.int .i64 (1+(j:Int)+1+1),.int .i64 (1+(j:Int)+1+1+1),.int .i64 (1+(j:Int)+1+1+1+(i:Int)/2),.int .i64 (1+(j:Int)+1+1+1+(i:Int)/2+(g:Int)*(pp:Int))],()])/\qae u.heap.size u w'):=χ (fun u hu=>BS h hu.disk hlen)
 obtain⟨W,hW⟩:∃W,W=(w.alloc (.cells #[(),(),(),()] 29)).alloc (.cells #[(),(),(),(),(),(),()] 112):=⟨_,rfl⟩
 have hbW:qae w.heap.size w W:=by rw[hW];exact(qaf _ _).alloc (qac _) _|>.alloc (by simp) _
 have hG:Bk W w.heap.size 29 [(),(),(),()]:=by rw[hW];exact(Bk.new w 29 [(),(),(),()]).below (Z0 _ _) (by simp)
 have hR:Bk W (w.heap.size+1) 112 [(),(),(),(),(),(),()]:=by
  rw[hW]
  have:=Bk.new (w.alloc (.cells #[(),(),(),()] 29)) 112 [(),(),(),(),(),(),()]
  simpa using this
 have HG:=χ hG
 have HR:=χ hR
 have HB:=χ hbW
 have HD:=χ (hD.below hbW)
 have VJ:=χ (qaf W.heap.size W)
 have zT:Hid (W.heap.size=w.heap.size+2):=χ (by rw[hW];simp)
 have Oo:=χ (fun(u:qad) (hu:DO B u S b k)=>Ij hu.disk)
 clear hpos h hD hlen hc hcb hd hbW hG hR
 go_enter Tryz.func79,Tryz.ntmps79
 go_upto_region 1 with fail
 rw[<-hW]
 clear hW
 go_upto_region 5 with(go_at_call 49;(with_reducible refine(Oo.out _ HD.out).mono ?_);rintro e w1 ⟨he,hb⟩;obtain rfl:=he;subst hb)
 go_upto_region 8 with(go_at_call 50;(with_reducible refine(Im.out _ HD.out).mono ?_);rintro e w1 ⟨he,hbk,hb⟩;obtain rfl:=he;replace VJ:=χ (VJ.out.trans (hb.mono VJ.out.size));replace HG:=χ (HG.out.below hb HG.out.lt);replace HR:=χ (HR.out.below hb HR.out.lt);replace HD:=χ (HD.out.below hb);have OH:=χ hbk;clear hbk;clear hb)
 go_upto_region 9 with(go_at_call 148;(with_reducible refine(Ci.out _ _ OH.out).mono ?_);rintro e w2 ⟨he,hb⟩;obtain rfl:=he;replace VJ:=χ (VJ.out.trans (hb.mono VJ.out.size));replace HG:=χ (HG.out.below hb HG.out.lt);replace HR:=χ (HR.out.below hb HR.out.lt);replace HD:=χ (HD.out.below hb);replace OH:=χ (OH.out.below hb OH.out.lt);clear hb)
 have HZ7:=χ VJ.out.size
 have hal:=Z0 w2 (.cells #[j,i,g,pp] 29)
 replace VJ:=χ (VJ.out.trans (hal.mono VJ.out.size))
 replace HG:=χ (HG.out.below hal HG.out.lt)
 replace HR:=χ (HR.out.below hal HR.out.lt)
 replace HD:=χ (HD.out.below hal)
 replace OH:=χ (OH.out.below hal OH.out.lt)
 have H7:=χ (Bk.new w2 29 [j,i,g,pp])
 clear hal
 generalize abN:w2.heap.size=zU7 at*
 clear abN
 generalize w2.alloc (.cells #[j,i,g,pp] 29)=U7 at*
 obtain⟨g0,g1,g2,g3⟩:=Z7 H7.out
 go_upto_region 10 with(go_at_call 112;(with_reducible refine(nD.out _ HD.out).mono ?_);rintro e w3 ⟨he,hb⟩;obtain rfl:=he;replace VJ:=χ (VJ.out.trans (hb.mono VJ.out.size));replace HG:=χ (HG.out.below hb HG.out.lt);replace HR:=χ (HR.out.below hb HR.out.lt);replace HD:=χ (HD.out.below hb);replace OH:=χ (OH.out.below hb OH.out.lt);replace H7:=χ (H7.out.below hb H7.out.lt);clear g0 g1 g2 g3;clear hb;obtain⟨g0,g1,g2,g3⟩:=Z7 H7.out)
 have HZ9:=χ VJ.out.size
 have hal:=Z0 w3 (.cells #[.int .i64 1,.int .i64 (1+(j:Int)),.int .i64 (1+(j:Int)+1),.int .i64 (1+(j:Int)+1+1),.int .i64 (1+(j:Int)+1+1+1),.int .i64 (1+(j:Int)+1+1+1+(i:Int)/2),.int .i64 (1+(j:Int)+1+1+1+(i:Int)/2+(g:Int)*(pp:Int))] 112)
 replace VJ:=χ (VJ.out.trans (hal.mono VJ.out.size))
 replace HG:=χ (HG.out.below hal HG.out.lt)
 replace HR:=χ (HR.out.below hal HR.out.lt)
 replace HD:=χ (HD.out.below hal)
 replace OH:=χ (OH.out.below hal OH.out.lt)
 replace H7:=χ (H7.out.below hal H7.out.lt)
 have H9:=χ (Bk.new w3 112 [.int .i64 1,.int .i64 (1+(j:Int)),.int .i64 (1+(j:Int)+1),.int .i64 (1+(j:Int)+1+1),.int .i64 (1+(j:Int)+1+1+1),.int .i64 (1+(j:Int)+1+1+1+(i:Int)/2),.int .i64 (1+(j:Int)+1+1+1+(i:Int)/2+(g:Int)*(pp:Int))])
 clear g0 g1 g2 g3
 clear hal
 generalize abO:w3.heap.size=zU9 at*
 clear abO
 generalize w3.alloc (.cells #[.int .i64 1,.int .i64 (1+(j:Int)),.int .i64 (1+(j:Int)+1),.int .i64 (1+(j:Int)+1+1),.int .i64 (1+(j:Int)+1+1+1),.int .i64 (1+(j:Int)+1+1+1+(i:Int)/2),.int .i64 (1+(j:Int)+1+1+1+(i:Int)/2+(g:Int)*(pp:Int))] 112)=U9 at*
 obtain⟨g0,g1,g2,g3⟩:=Z7 H7.out
 obtain⟨l0,l1,l2,l3,l4,l5,l6⟩:=ZU H9.out
 obtain⟨a0,a1,a2,a3⟩:=Z7 HG.out
 obtain⟨r0,r1,r2,r3,r4,r5,r6⟩:=ZU HR.out
 have fz:=fun q=>HG.out.frozen q
 have fz2:=fun q=>HR.out.frozen q
 have lt1:=HG.out.lt
 have lt2:=HR.out.lt
 have lt3:=H7.out.lt
 have lt4:=H9.out.lt
 have n1:zU9≠w.heap.size:=by have:=HZ9.out;have:=zT.out;omega
 have n2:zU9≠w.heap.size+1:=by have:=HZ9.out;have:=zT.out;omega
 have n3:zU7≠w.heap.size:=by have:=HZ7.out;have:=zT.out;omega
 have n4:zU7≠w.heap.size+1:=by have:=HZ7.out;have:=zT.out;omega
 have n5:w.heap.size+1≠w.heap.size:=by omega
 have n6:w.heap.size≠w.heap.size+1:=by omega
 go_upto_region 12 with fail
 go_region
 obtain⟨u4,hu4,hb4,hw4,hg4⟩:=uW HG.out (.int .i64 j) (.int .i64 i) (.int .i64 g) (.int .i64 pp)
 rw[hu4]
 have hr4:=HR.out.grown hg4 (by simp)
 obtain⟨u7,hu7,Yr,hw7,oK⟩:=uV hr4 (.int .i64 1) (.int .i64 (1+(j:Int))) (.int .i64 (1+(j:Int)+1)) (.int .i64 (1+(j:Int)+1+1)) (.int .i64 (1+(j:Int)+1+1+1)) (.int .i64 (1+(j:Int)+1+1+1+(i:Int)/2)) (.int .i64 (1+(j:Int)+1+1+1+(i:Int)/2+(g:Int)*(pp:Int)))
 rw[hu7]
 have hg8:=BR (hb4.grown oK (by simp))
 obtain⟨c0,c1,c2,c3,c4,c5,c6⟩:=ZU (BR Yr)
 obtain⟨d0,d1,d2,d3⟩:=Z7 hg8
 clear g0 g1 g2 g3 l0 l1 l2 l3 l4 l5 l6 a0 a1 a2 a3 r0 r1 r2 r3 r4 r5 r6 fz fz2 n1 n2 n3 n4 n5 n6
 go_wp2
 refine bodyPost_ret (v:=.tuple #[.agg #[j,i,g,pp],.agg #[.int .i64 1,.int .i64 (1+(j:Int)),.int .i64 (1+(j:Int)+1),.int .i64 (1+(j:Int)+1+1),.int .i64 (1+(j:Int)+1+1+1),.int .i64 (1+(j:Int)+1+1+1+(i:Int)/2),.int .i64 (1+(j:Int)+1+1+1+(i:Int)/2+(g:Int)*(pp:Int))],()]) (by simp[results,Tryz.results79,go_sem,c0,c1,c2,c3,c4,c5,c6,d0,d1,d2,d3]) rfl ⟨rfl,?_⟩
 exact HB.out.trans ((VJ.out.mono (by have:=zT.out;omega)).trans ((hw4 _ (qac _)).trans ((hw7 _ (by omega)).drew)))
end
end Go.Proofs.YtmehhgfbnfbnaaaGreat.Zl
