import Derived.Test.YtmehhgfbnfbnaaaGreatQMetaX8
import Derived.Test.YtmehhgfbnfbnaaaGreatQMetaX10
import Derived.Test.YtmehhgfbnfbnaaaGreatQMetaX11
import Derived.Test.YtmehhgfbnfbnaaaGreatQInternB
import Derived.Test.YtmehhgfbnfbnaaaGreatQMetaT
import Derived.Test.YtmehhgfbnfbnaaaGreatQTk
set_option maxRecDepth 100000
set_option maxHeartbeats 25600000
open List renaming getElem?_cons_zero->qaa,getElem?_cons_succ->qab,getElem?_toArray->qac,getD_eq_getElem?_getD->qai,getElem?_eq_getElem->qaj,mem_of_getElem?->qal,getElem?_drop->qan,length_drop->qao
open Go.AllReadyH renaming cons->qad,nil->qag
open Go.RowKit renaming Below->qae,Hid->qau
open Go.RowKit.Below renaming refl->qaf
open Go renaming wpAnyH_ready->qah,World->qak,Calls->qam,wpAnyH_done->qar
open Nat renaming mul_one->qap,le_refl->qaq
open Classical renaming byContradiction->qas
open Int renaming eq_ofNat_of_zero_le->qat
namespace Go.Proofs.YtmehhgfbnfbnaaaGreat
theorem zZ0{P:Prop}(h:P:=by
 obtain⟨g0,g1,g2,g3⟩:=Z7 Yd.out.YV
 obtain⟨m0,m1,m2,m3⟩:=Z7 Yd.out.cur
 simp only[Sa.out,Xr.out,WX.out,Xj.out]at m0 m1 m2 m3
 have qA:=Yd.out.own.lies
 have MV:qau (∀u:qak,qae V.heap.size V u->qam Tryz.prog 74 #[.agg #[j,Y6,gn,p],.agg #[.slice A6 ec.length c6,(.slice ao gn gn),(.slice au 64 64),.slice AI Y6 cI]] u fun e w'=>Tf u (Ml ⟨j,(Y6:Int),(gn:Int),p⟩ C) e w'):=χ (fun u hu=>
  MX j Y6 gn p C gT.out _ _ _ _ ec.length c6 gn gn 64 64 Y6 cI u (by rw[Sa.out]) Xr.out WX.out Xj.out ((qA.below hu).more hu.size) (by have:=HI.out;omega))
 clear qA
 by_cases TI:Right ⟨j,(Y6:Int),(gn:Int),p⟩ C
 rotate_left
 ·have HBAD:=χ (HR.out.symm.trans (Oz (G:=⟨j,(Y6:Int),(gn:Int),p⟩) (l:=l) (by rw[RQ.out];exact TI)))
  rw[Un TI]at MV
  clear TI
  go_wp2_with (go_at_call 74;(with_reducible refine(MV.out _ (qaf _ _)).mono ?_);rintro e wP ⟨v12,Jd,he,-,hb⟩;obtain rfl:=he;have Zy:=χ (Yd.out.later hb);clear hb m0 m1 m2 m3 g0 g1 g2 g3;obtain⟨m0,m1,m2,m3⟩:=Z7 Zy.out.res;obtain⟨f0,f1,f2,f3⟩:=Zr Zy.out.res;have hlt:=Zy.out.res.lt)
  exact WZ HBAD.out Zy.out.res rfl rfl Zy.out.below
 rw[Wn TI]at MV
 have Sw:=χ TI
 obtain⟨sn,hsn⟩:∃sn,(secs C).length=sn:=⟨_,rfl⟩
 have Ma:=χ hsn
 clear TI hsn
 by_cases heq:l=secs C
 rotate_left
 ·have HBAD:=χ (HR.out.symm.trans (Oy (G:=⟨j,(Y6:Int),(gn:Int),p⟩) (l:=l) (by rw[RQ.out];exact Ne.symm heq)))
  have hb0:(l==secs C)=false:=by simpa using heq
  have HB0:=χ hb0
  clear heq hb0
  go_wp2_with (first
   |(go_at_call 74;(with_reducible refine(MV.out _ (qaf _ _)).mono ?_);rintro e wP hh;obtain⟨dI,c12,Jd,he,-,-,-,hsa,hb⟩:=hh.got;rw[Ma.out]at he;obtain rfl:=he;have Zy:=χ (Yd.out.later hb);have Rs:=χ hsa;clear hb hsa m0 m1 m2 m3 g0 g1 g2 g3)
   |(go_at_call 156;(with_reducible refine(WV l (secs C) _ _ n sn _ _ L Jd _ HL.out Ma.out ((HS.out.below Zy.out.below).more Zy.out.below.size) Rs.out hn).mono ?_);rintro e jQ ⟨he,hw⟩;rw[HB0.out]at he;obtain rfl:=he;subst hw;obtain⟨m0,m1,m2,m3⟩:=Z7 Zy.out.res;obtain⟨f0,f1,f2,f3⟩:=Zr Zy.out.res;have hlt:=Zy.out.res.lt))
  exact WZ HBAD.out Zy.out.res rfl rfl Zy.out.below
 have SY:=χ (HR.out.symm.trans (QK (G:=⟨j,(Y6:Int),(gn:Int),p⟩) (l:=l) (QC (by rw[RQ.out];exact Sw.out)) (by rw[RQ.out];exact Sw.out) (by rw[RQ.out];exact heq.symm)))
 rw[RQ.out]at SY
 have hb0:(l==secs C)=true:=by simpa using heq
 have HB0:=χ hb0
 clear heq hb0
 go_wp2_with (first
  |(go_at_call 74;(with_reducible refine(MV.out _ (qaf _ _)).mono ?_);rintro e wP hh;obtain⟨dI,c12,Jd,he,-,-,-,hsa,hb⟩:=hh.got;rw[Ma.out]at he;obtain rfl:=he;have Zy:=χ (Yd.out.later hb);have Rs:=χ hsa;clear hb hsa m0 m1 m2 m3 g0 g1 g2 g3)
  |(go_at_call 156;(with_reducible refine(WV l (secs C) _ _ n sn _ _ L Jd _ HL.out Ma.out ((HS.out.below Zy.out.below).more Zy.out.below.size) Rs.out hn).mono ?_);rintro e jQ ⟨he,hw⟩;rw[HB0.out]at he;obtain rfl:=he;subst hw;obtain⟨m0,m1,m2,m3⟩:=Z7 Zy.out.cur;simp only[Sa.out,Xr.out,WX.out,Xj.out]at m0 m1 m2 m3;obtain⟨r0,r1,r2,r3⟩:=Z7 Zy.out.res;obtain⟨f0,f1,f2,f3⟩:=Zr Zy.out.res;have hlt:=Zy.out.res.lt))
 exact Su (x:=⟨A6,c6,some ⟨ao,0,none⟩,gn,some ⟨au,0,none⟩,64,AI,cI⟩) SY.out (by rw[Sa.out]) Xr.out WX.out Xj.out Zy.out.res rfl rfl Zy.out.own Zy.out.below):P:=h
theorem zZ1{P:Prop}(h:P:=by
 go_enter Tryz.func82,Tryz.ntmps82
 go_upto_region 1 with fail
 rw[<-HW.out]
 go_wp2_with (go_at_call 152;(with_reducible refine(HAS.out _ HB.out).mono ?_);rintro e w1 ⟨he,hb⟩;obtain rfl:=he;have O5:=χ (HM.out.below hb HM.out.lt);have HB2:=χ (HB.out.trans (hb.mono HB.out.size));clear hb;obtain⟨m0,m1,m2,m3⟩:=Z7 O5.out;obtain⟨f0,f1,f2,f3⟩:=Zr O5.out;have hlt:=O5.out.lt)
 exact WZ rfl O5.out rfl rfl HB2.out):P:=h
theorem zZ2{P:Prop}(h:P:=by
 (intro u hu;obtain⟨q0,q1,q2⟩:=IQ.out _ hu.1;obtain⟨g0,g1,g2,g3⟩:=Z7 hu.2.1;clear hu;go_simp<;>with_reducible rfl)):P:=h
theorem zZ3{P:Prop}(h:P:=by
 (intro u hu;clear hu;go_simp<;>with_reducible rfl)):P:=h
end Go.Proofs.YtmehhgfbnfbnaaaGreat
namespace Go.Proofs.YtmehhgfbnfbnaaaGreat.Meta
open Go.Proofs.YtmehhgfbnfbnaaaGreat
open Go.RowKit
section
variable {w V:qak}{c0 c1 c2 c3:Value}{l:List (List UInt8)}{tm:Array Value}{m:Met}{x:Mem}{r:Met × Nat}{k:Nat}
theorem KV(hr:r=(m,k))(hM:Bk V (w.heap.size+1) 60 [c0,c1,c2,c3])(h4:tm[4]?.getD undef=.pointer (some ⟨w.heap.size+1,0,none⟩))(h5:tm[5]?.getD undef=.int .i64 k)(ho:Y1 (X7 V (w.heap.size+1) (.slice x.rA m.rows.length x.rc) (.slice x.oA m.own.length x.oc) (.slice x.uA m.used.length x.uc) (.slice x.iA m.ino.length x.ic)) w.heap.size x m)(hb:qae w.heap.size w V):
  bodyPost Tryz.prog Tryz.f82 (fun e w'=>V3 w r e w') .ret {tmps:=tm,defers:=[]} (X7 V (w.heap.size+1) (.slice x.rA m.rows.length x.rc) (.slice x.oA m.own.length x.oc) (.slice x.uA m.used.length x.uc) (.slice x.iA m.ino.length x.ic)):=by
 subst hr
 obtain⟨d0,d1,d2,d3⟩:=Z7 (Je (a0:=.slice x.rA m.rows.length x.rc) (a1:=.slice x.oA m.own.length x.oc) (a2:=.slice x.uA m.used.length x.uc) (a3:=.slice x.iA m.ino.length x.ic) hM)
 refine bodyPost_ret (v:=.tuple #[x.v m,k]) ?_ rfl ⟨x,rfl,ho,Ru hb (by omega) _ _ _ _⟩
 generalize X7 V (w.heap.size+1) (.slice x.rA m.rows.length x.rc) (.slice x.oA m.own.length x.oc) (.slice x.uA m.used.length x.uc) (.slice x.iA m.ino.length x.ic)=U at*
 simp[results,Tryz.results82,go_sem,Mem.v, *]
theorem Su{rn Xe un Xg:Nat}(hr:r=(m,0))(hrn:m.rows.length=rn)(hon:m.own.length=Xe)(hun:m.used.length=un)(hin:m.ino.length=Xg)(hM:Bk V (w.heap.size+1) 60 [c0,c1,c2,c3])(h4:tm[4]?.getD undef=.pointer (some ⟨w.heap.size+1,0,none⟩))(h5:tm[5]?.getD undef=.int .i64 0)(ho:Y1 V w.heap.size x m)(hb:qae w.heap.size w V):
  bodyPost Tryz.prog Tryz.f82 (fun e w'=>V3 w r e w') .ret {tmps:=tm,defers:=[]} (X7 V (w.heap.size+1) (.slice x.rA rn x.rc) (.slice x.oA Xe x.oc) (.slice x.uA un x.uc) (.slice x.iA Xg x.ic)):=by
 subst hrn hon hun hin
 exact KV (k:=0) hr hM h4 h5 (We (((hM.set 0 _).set 1 _).set 2 _) (We ((hM.set 0 _).set 1 _) (We (hM.set 0 _) (We hM ho 0 _) 1 _) 2 _) 3 _) hb
theorem WZ(hr:r=(.z,140))(hM:Bk V (w.heap.size+1) 60 [c0,c1,c2,c3])(h4:tm[4]?.getD undef=.pointer (some ⟨w.heap.size+1,0,none⟩))(h5:tm[5]?.getD undef=.int .i64 140)(hb:qae w.heap.size w V):
  bodyPost Tryz.prog Tryz.f82 (fun e w'=>V3 w r e w') .ret {tmps:=tm,defers:=[]} (X7 V (w.heap.size+1) (.slice none 0 0) (.slice none 0 0) (.slice none 0 0) (.slice none 0 0)):=
 KV (x:=gG) (m:=.z) hr hM h4 h5 (uL _ _) hb
theorem C9{s:List UInt8}(h:l[3+k]? =some s):half l (2*k)=part s 0/\half l (2*k+1)=part s 1:=by
 have e1:l.getD (3+k) []=s:=by rw[qai,h];rfl
 have e2:2*k/2=k:=by omega
 have e3:(2*k+1)/2=k:=by omega
 have e4:2*k%2=0:=by omega
 have e5:(2*k+1)%2=1:=by omega
 unfold half part
 rw[e2,e3,e1,e4,e5]
 exact⟨rfl,rfl⟩
theorem KT:∀{k:Nat},3+k<=l.length->YM (l.drop 3) k=Sd l (2*k)
 |0,_=>by simp[YM,Sd]
 |k+1,h=>by
  obtain⟨s,hs⟩:∃s,l[3+k]? =some s:=⟨_,qaj (by omega)⟩
  obtain⟨h1,h2⟩:=C9 hs
  rw[PK (s:=s) (by rw[qan];exact hs),KT (by omega),show 2*(k+1)=2*k+1+1 by omega,K9,K9,h1,h2,List.append_assoc]
  rfl
theorem FJ{b:List UInt8}(h:(Z8.WA b).err≠0):(Z8.WA b).rows=[]:=by
 by_cases hl:b.length=64
 ·by_cases hr:Z8.Right (Z8.rowsOf (Ze 2 b))
  ·rw[Z8.QZ hl hr]at h
   exact absurd rfl h
  ·rw[Z8.JU hl hr]
   rfl
 ·rw[Z8.NK hl]
  rfl
theorem kU(G:Geo)(l:List (List UInt8)):Rc (Nl G l):=by
 by_cases h:(Z8.WA (l.getD 0 [])).err=0
 ·exact Gl h
 ·refine⟨?_,Bp _ _,Gm _ _⟩
  show Z8.zy (Z8.WA (l.getD 0 [])).rows
  rw[FJ h]
  exact fun r hr=>by cases hr
theorem QC{G:Geo}(h:Right G (Nl G l)):(Z8.WA (l.getD 0 [])).err=0:=by
 by_cases h0:(Z8.WA (l.getD 0 [])).err=0
 ·exact h0
 ·have:=h.rows.len
  change (Z8.WA (l.getD 0 [])).rows.length=16 at this
  rw[FJ h0]at this
  cases this
theorem nC.put {u:qak}{M:Nat}{G:List Value}(hG:Bk u w.heap.size 29 G)(hR:Bk u (w.heap.size+1) 60 [.slice none 0 0,.slice none 0 0,.slice none 0 0,.slice none 0 0])(hM:Bk u M 60 [c0,c1,c2,c3])(ho:Y1 u w.heap.size x m)(hb:qae w.heap.size w u)(hlt:w.heap.size+1<M):
  nC w M G x m (X7 u M (.slice x.rA m.rows.length x.rc) (.slice x.oA m.own.length x.oc) (.slice x.uA m.used.length x.uc) (.slice x.iA m.ino.length x.ic)):=
 ⟨Vo hG (by omega) _ _ _ _,Vo hR (by omega) _ _ _ _,Je hM,We (((hM.set 0 _).set 1 _).set 2 _) (We ((hM.set 0 _).set 1 _) (We (hM.set 0 _) (We hM ho 0 _) 1 _) 2 _) 3 _,Ru hb (by omega) _ _ _ _,hlt⟩
theorem Zd.abb {B b o:Nat}{L:List Sc}(h:Zd w B (some ⟨b,o,none⟩) L l):Zd w B (some ⟨b,o+3,none⟩) (L.drop 3) (l.drop 3):=by
 have hz:X3 (L.drop 3) (l.drop 3)=(X3 L l).drop 3:=by
  unfold X3
  rw[List.zip_eq_zipWith,List.zip_eq_zipWith,<-List.drop_zipWith,List.map_drop]
 refine⟨by rw[qao,qao,h.len],?_,fun i s b h1 h2=>?_⟩
 ·rw[hz]
  rcases h.rd with h0|⟨b',o',e,h2,h3⟩
  ·exact .inl (by rw[h0];rfl)
  ·injection e with e
   injection e with e1 e2 _
   subst e1 e2
   refine .inr ⟨b,o+3,rfl,h2,fun j u hu=>?_⟩
   rw[qan]at hu
   have:=h3 _ u hu
   rw[show o+3+j=o+(3+j)by omega]
   exact this
 ·rw[qan]at h1 h2
  exact h.each _ s b h1 h2
theorem qB(j p:Int)(Y6 gn:Nat)(l:List (List UInt8))(A:Option Addr)(n c:Nat)(L:List Sc)(w:qak)(hl:l.length=n)(hs:Zd w w.heap.size A L l)(hn:n<=1000000)(hcap:n<=c):
  qam Tryz.prog 82 #[.agg #[j,Y6,gn,p],.slice A n c] w fun e w'=>V3 w (Si ⟨j,(Y6:Int),(gn:Int),p⟩ l) e w':=by
 have HS:=χ hs
 have HL:=χ hl
 obtain⟨W,hW⟩:∃W,W=(w.alloc (.cells #[j,Y6,gn,p] 29)).alloc (.cells #[.slice none 0 0,.slice none 0 0,.slice none 0 0,.slice none 0 0] 60):=⟨_,rfl⟩
 have hbW:qae w.heap.size w W:=by rw[hW];exact(qaf _ _).alloc (qaq _) _|>.alloc (by simp) _
 have hG:Bk W w.heap.size 29 [j,Y6,gn,p]:=by rw[hW];exact(Bk.new w 29 [j,Y6,gn,p]).below ((qaf _ _).alloc (qaq _) _) (by simp)
 have hM:Bk W (w.heap.size+1) 60 [.slice none 0 0,.slice none 0 0,.slice none 0 0,.slice none 0 0]:=by
  rw[hW]
  have:=Bk.new (w.alloc (.cells #[j,Y6,gn,p] 29)) 60 [.slice none 0 0,.slice none 0 0,.slice none 0 0,.slice none 0 0]
  simpa using this
 have HG:=χ hG
 have HM:=χ hM
 have HB:=χ hbW
 have HW:=χ hW
 obtain⟨g0,g1,g2,g3⟩:=Z7 hG
 clear hbW hG hM hW
 obtain⟨sb,hsb⟩:∃sb,xM ⟨j,(Y6:Int),(gn:Int),p⟩ l=sb:=⟨_,rfl⟩
 have HAS:qau (∀u:qak,qae w.heap.size w u->qam Tryz.prog 152 #[.agg #[j,Y6,gn,p],.slice A n c] u fun e w'=>e=.returned (.bool sb)/\qae u.heap.size u w'):=χ (fun u hu=>by
  have:=KS j Y6 gn p l A n c L u hl ((HS.out.below hu).more hu.size) hn
  rwa[hsb]at this)
 by_cases FO:Geo.Ok ⟨j,(Y6:Int),(gn:Int),p⟩/\(l.length:Int)=3+(Y6:Int)/2/\∀s∈l,s.length=64
 rotate_left
 ·have hbad:Si ⟨j,(Y6:Int),(gn:Int),p⟩ l=(.z,140):=by
   by_cases h1:Geo.Ok ⟨j,(Y6:Int),(gn:Int),p⟩
   ·by_cases h2:(l.length:Int)=3+(Y6:Int)/2
    ·obtain⟨s,h3,h4⟩:∃s∈l,s.length≠64:=by
      apply qas
      intro h
      refine FO ⟨h1,h2,fun s hs=>?_⟩
      apply qas
      intro h5
      exact h ⟨s,hs,h5⟩
     obtain⟨i,hi⟩:=List.mem_iff_getElem?.1 h3
     exact eZ hi h4
    ·exact lX h2
   ·exact Bo h1
  have hsf:sb=false:=by rw[<-hsb];exact Z9.WO FO
  subst hsf
  rw[hbad]
  clear FO hbad hsb hs hl
  exact zZ1
 have hst:sb=true:=by rw[<-hsb];exact Z9.VD FO
 subst hst
 obtain⟨hok,hlen,h64⟩:=FO
 rw[hl]at hlen
 have hi1:=hok.i1
 have hi2:=hok.i2
 have hi3:=hok.i3
 have hg1:=hok.g1
 have hg2:=hok.g2
 simp only at hi1 hi2 hi3 hg1 hg2
 have hn4:4<=n:=by omega
 have acx:n<=35:=by omega
 obtain⟨b,o,hA,hbb⟩:=hs.first (by rw[hl];omega)
 subst hA
 obtain⟨s0,h0⟩:∃s,l[0]? =some s:=⟨_,qaj (by rw[hl];omega)⟩
 obtain⟨s1,h1⟩:∃s,l[1]? =some s:=⟨_,qaj (by rw[hl];omega)⟩
 obtain⟨s2,h2⟩:∃s,l[2]? =some s:=⟨_,qaj (by rw[hl];omega)⟩
 have l0:=h64 _ (qal h0)
 have l1:=h64 _ (qal h1)
 have l2:=h64 _ (qal h2)
 obtain⟨S0,e0,-,r0,k0,-⟩:=hs.get h0
 obtain⟨S1,e1,-,r1,k1,-⟩:=hs.get h1
 obtain⟨S2,e2,-,r2,k2,-⟩:=hs.get h2
 obtain⟨A0,c0⟩:=S0
 obtain⟨A1,c1⟩:=S1
 obtain⟨A2,c2⟩:=S2
 obtain⟨b1,o1,hA1,-⟩:=YU r1 (by rw[Z4];omega)
 have hA1:A1=some ⟨b1,o1,none⟩:=hA1
 subst hA1
 have k0:64<=c0:=by rw[<-l0];exact k0
 have k1:64<=c1:=by rw[<-l1];exact k1
 have IQ:qau (∀u:qak,qae w.heap.size w u->u.cell? ⟨b,o,none⟩=some (.slice A0 64 c0)/\u.cell? ⟨b,o+1,none⟩=some (.slice (some ⟨b1,o1,none⟩) 64 c1)/\u.cell? ⟨b,o+2,none⟩=some (.slice A2 64 c2)):=χ (fun u hu=>by
  obtain⟨T0,f0,q0,-⟩:=(hs.below hu).get h0
  obtain⟨T1,f1,q1,-⟩:=(hs.below hu).get h1
  obtain⟨T2,f2,q2,-⟩:=(hs.below hu).get h2
  rw[e0]at f0;injection f0 with f0
  rw[e1]at f1;injection f1 with f1
  rw[e2]at f2;injection f2 with f2
  rw[<-f0,l0]at q0
  rw[<-f1,l1]at q1
  rw[<-f2,l2]at q2
  exact⟨q0,q1,q2⟩)
 obtain⟨ec,er,hrows,abd⟩:∃ec er,(Z8.WA s0).rows=ec/\(Z8.WA s0).err=er:=⟨_,_,rfl,rfl⟩
 have HIT:qau (∀u:qak,qae w.heap.size w u->qam Tryz.prog 153 #[.slice A0 64 c0] u fun e w'=>∃v,e=.returned (.tuple #[v,.int .i64 er])/\w'.ownsRow u.heap.size 68 2 v ec.length (Z8.ZV ec)/\qae u.heap.size u w'):=χ (fun u hu=>by
  have:=Z8.NJ s0 A0 64 c0 u l0 ((r0.below hu).more hu.size) k0
  refine this.mono ?_
  rintro e w' ⟨v,he,hv,hb⟩
  rw[abd]at he
  rw[hrows]at hv
  exact⟨v,he,hv,hb⟩)
 have HTO:qau (∀u:qak,qae w.heap.size w u->qam Tryz.prog 154 #[.slice (some ⟨b1,o1,none⟩) gn c1] u fun e w'=>e=.returned (.slice (some ⟨u.heap.size,0,none⟩) gn gn)/\Bk w' u.heap.size 3 (Z9.ZM (Mf s1 gn))/\qae u.heap.size u w'):=χ (fun u hu=>Gs (s1.take gn) (some ⟨b1,o1,none⟩) gn c1 u (by rw[List.length_take];omega) (by
  have:=(uM r1 0 gn).below hu
  rw[List.drop_zero,Nat.add_zero]at this
  exact this.more hu.size) (by omega))
 have vZ:qau (∀u:qak,qae w.heap.size w u->qam Tryz.prog 137 #[.slice A2 64 c2] u fun e w'=>e=.returned (.slice (some ⟨u.heap.size,0,none⟩) 64 64)/\w'=u.alloc (.cells (Z6 s2).toArray 5)):=χ (fun u hu=>PU (Z6 s2) A2 64 c2 u (by rw[Z4,l2]) (YC _) ((r2.below hu).more hu.size) (by omega))
 have hdrop:Zd w w.heap.size (some ⟨b,o+3,none⟩) (L.drop 3) (l.drop 3):=Zd.abb hs
 have hTI:YM (l.drop 3) (n-3)=Sd l Y6:=by
  rw[KT (by omega)]
  congr 1
  omega
 have h2n:2*(n-3)=Y6:=by omega
 have dJ:qau (∀u:qak,qae w.heap.size w u->qam Tryz.prog 155 #[.slice (some ⟨b,o+3,none⟩) (n-3) (c-3)] u fun e w'=>∃v,e=.returned v/\w'.ownsRow u.heap.size 40 14 v Y6 (Y3 (Sd l Y6))/\qae u.heap.size u w'):=χ (fun u hu=>by
  have:=C8 (l.drop 3) (fun s h=>h64 s (List.mem_of_mem_drop h)) b (o+3) (n-3) (c-3) (L.drop 3) u (by rw[qao,hl]) ((hdrop.below hu).more hu.size) (by omega)
  rw[hTI,h2n]at this
  exact this)
 obtain⟨C,hC⟩:∃C,Nl ⟨j,(Y6:Int),(gn:Int),p⟩ l=C:=⟨_,rfl⟩
 have hg0:l.getD 0 []=s0:=by rw[qai,h0];rfl
 have hg1':l.getD 1 []=s1:=by rw[qai,h1];rfl
 have rE:l.getD 2 []=s2:=by rw[qai,h2];rfl
 have iZ:C=⟨(Z8.WA s0).rows,Mf s1 gn,s2,Sd l Y6⟩:=by
  rw[<-hC]
  unfold Nl
  rw[hg0,hg1',rE]
  simp
 have gT:qau (Rc C):=χ (by rw[<-hC];exact kU _ _)
 have Sa:=χ (show C.rows=ec by rw[iZ,<-hrows])
 have VF:=χ (show C.own=Mf s1 gn by rw[iZ])
 have dY:=χ (show C.used=s2 by rw[iZ])
 have lI:=χ (show C.ino=Sd l Y6 by rw[iZ])
 have Xr:qau (C.own.length=gn):=χ (by rw[iZ];exact Gp (by omega))
 have WX:qau (C.used.length=64):=χ (by rw[iZ];exact l2)
 have Xj:qau (C.ino.length=Y6):=χ (by rw[iZ];exact O8 _ _)
 have HL2:=χ l2
 obtain⟨R,hR⟩:∃R,Si ⟨j,(Y6:Int),(gn:Int),p⟩ l=R:=⟨_,rfl⟩
 rw[hR]
 have HR:=χ hR
 have RQ:=χ hC
 have HGZ:=χ hg0
 have HI:qau (Y6<=64/\gn<=64):=χ (by omega)
 have adC:(gn:Int)<=(c1:Int):=by omega
 have aef:(0:Int)<=(gn:Int):=by omega
 have hc3:c≠3:=by omega
 have Ce:3<=n:=by omega
 have aeg:(1:Int)<(n:Int):=by omega
 have aeh:(2:Int)<(n:Int):=by omega
 have aei:(3:Int)<=(n:Int):=by omega
 have aej:(3:Int)<=(c:Int):=by omega
 have aek:(n:Int)<=(c:Int):=by omega
 clear hrows abd hR hC iZ hg0 hg1' rE hTI h2n hdrop hok hlen h64 hi1 hi2 hi3 hg1 hg2 hn4 acx h0 h1 h2 l0 l1 l2 e0 e1 e2 r0 r1 r2 k0 k1 k2 hbb hsb hs hl
 obtain⟨q0,q1,q2⟩:=IQ.out _ HB.out
 go_enter Tryz.func82,Tryz.ntmps82
 go_upto_region 1 with fail
 rw[<-HW.out]
 go_upto_region 4 with(first
  |(go_at_call 152;(with_reducible refine(HAS.out _ HB.out).mono ?_);rintro e w1 ⟨he,hb⟩;obtain rfl:=he;have HG2:=χ (HG.out.below hb HG.out.lt);have O5:=χ (HM.out.below hb HM.out.lt);have HB2:=χ (HB.out.trans (hb.mono HB.out.size));clear hb q0 q1 q2 g0 g1 g2 g3;obtain⟨q0,q1,q2⟩:=IQ.out _ HB2.out)
  |(go_at_call 153;(with_reducible refine(HIT.out _ HB2.out).mono ?_);rintro e w2 ⟨v6,he,hv6,hb⟩;obtain rfl:=he;have HG3:=χ (HG2.out.below hb HG2.out.lt);have jr:=χ (O5.out.below hb O5.out.lt);have HB3:=χ (HB2.out.trans (hb.mono HB2.out.size));have nU:=χ (ZL hv6 HB2.out.size);obtain⟨A6,c6,hv⟩:=XN hv6;subst hv;clear hb hv6 q0 q1 q2))
 have hS0:qae w.heap.size w w2.drew/\Bk w2.drew w.heap.size 29 [j,Y6,gn,p]/\Bk w2.drew (w.heap.size+1) 60 [.slice none 0 0,.slice none 0 0,.slice none 0 0,.slice none 0 0]/\(w2.drew).ownsRow w.heap.size 68 2 (.slice A6 ec.length c6) ec.length (Z8.ZV ec):=⟨HB3.out.drew,HG3.out,jr.out,nU.out⟩
 refine wp_region_held_drew (S:=fun u=>qae w.heap.size w u/\Bk u w.heap.size 29 [j,Y6,gn,p]/\Bk u (w.heap.size+1) 60 [.slice none 0 0,.slice none 0 0,.slice none 0 0,.slice none 0 0]/\(u).ownsRow w.heap.size 68 2 (.slice A6 ec.length c6) ec.length (Z8.ZV ec)) (by kernel_rfl) hS0 (fun hHeld=>?_)
 refine tk 0 ?_ (y:=.inl ⟨by rfl,?hya0⟩) (s:=by exact hHeld) (h:=?V6)
 case hya0=>exact zZ2
 refine tk 1 ?_ (y:=.inl ⟨by rfl,?hya1⟩) (s:=by exact hHeld) (h:=?V5)
 case hya1=>exact zZ2
 refine tk 2 ?_ (y:=.inl ⟨by rfl,?hya2⟩) (s:=by exact hHeld) (h:=?V4)
 case hya2=>exact zZ2
 refine tk 3 ?_ (y:=.inl ⟨by rfl,?hya3⟩) (s:=by exact hHeld) (h:=?TD)
 case hya3=>exact zZ2
 refine tk 4 ?_ (y:=.inl ⟨by rfl,?hya4⟩) (s:=by exact hHeld) (h:=?TN)
 case hya4=>exact zZ2
 refine tk 5 ?_ (y:=.inl ⟨by rfl,?hya5⟩) (s:=by exact hHeld) (h:=?Vi)
 case hya5=>exact zZ2
 refine tk 6 ?_ (y:=.inl ⟨by rfl,?hya6⟩) (s:=by exact hHeld) (h:=?UR)
 case hya6=>exact zZ2
 refine tk 8 ?_ (y:=.inl ⟨by rfl,?hya8⟩) (s:=by exact hHeld) (h:=?RS)
 case hya8=>exact zZ2
 refine tk 9 ?_ (y:=.inl ⟨by rfl,?hya9⟩) (s:=by exact hHeld) (h:=?OW)
 case hya9=>exact zZ2
 refine tk 10 ?_ (y:=.inl ⟨by rfl,?hya10⟩) (s:=by exact hHeld) (h:=?Vb)
 case hya10=>exact zZ2
 refine tk 12 ?_ (y:=.inl ⟨by rfl,?hya12⟩) (s:=by exact hHeld) (h:=?Ra)
 case hya12=>exact zZ2
 refine tk 13 ?_ (y:=.inl ⟨by rfl,?hya13⟩) (s:=by exact hHeld) (h:=?LQ)
 case hya13=>exact zZ2
 clear hS0
 generalize w2.drew=u0 at*
 refine qah (rs:=[7,16]) (by kernel_rfl) (by simp) ?_
 refine qad (o:=_) (by simp only[qac,qab,qaa];rfl) (fun K hK=>?_) (qad (o:=_) (by simp only[qac,qab,qaa];rfl) (fun K hK=>?_) (qag))
 ·go_simp
  (with_reducible refine(HTO.out _ hHeld.1).mono ?_)
  rintro e u1 ⟨he,hk,hb⟩;obtain rfl:=he
  have KO:=χ hk
  have LO:qau (w.heap.size<=u0.heap.size):=χ hHeld.1.size
  have hS:qae w.heap.size w u1/\Bk u1 w.heap.size 29 [j,Y6,gn,p]/\Bk u1 (w.heap.size+1) 60 [.slice none 0 0,.slice none 0 0,.slice none 0 0,.slice none 0 0]/\(u1).ownsRow w.heap.size 68 2 (.slice A6 ec.length c6) ec.length (Z8.ZV ec):=⟨hHeld.1.trans (hb.mono hHeld.1.size),hHeld.2.1.below hb hHeld.2.1.lt,hHeld.2.2.1.below hb hHeld.2.2.1.lt,own_below hHeld.2.2.2 hb⟩
  clear hk
  clear hb
  go_simp
  refine hK.out _ _ hS (fun Z5=>?_)
  clear hK K hHeld hS
  have hHeld:=Z5
  clear Z5
  refine qah (rs:=[11,16]) (by kernel_rfl) (by simp) ?_
  refine qad (o:=_) (by simp only[qac,qab,qaa];rfl) (fun K hK=>?_) (qad (o:=_) (by simp only[qac,qab,qaa];rfl) (fun K hK=>?_) (qag))
  ·go_simp
   (with_reducible refine(vZ.out _ hHeld.1).mono ?_)
   rintro e u2 ⟨he,hw⟩;obtain rfl:=he
   have hb:qae u1.heap.size u1 u2:=by rw[hw];exact Z0 _ _
   replace KO:=χ (KO.out.below hb KO.out.lt)
   have KU:qau (Bk u2 u1.heap.size 5 (Z6 s2)):=χ (by rw[hw];exact Bk.new _ _ _)
   have LU:qau (w.heap.size<=u1.heap.size):=χ hHeld.1.size
   have hS:qae w.heap.size w u2/\Bk u2 w.heap.size 29 [j,Y6,gn,p]/\Bk u2 (w.heap.size+1) 60 [.slice none 0 0,.slice none 0 0,.slice none 0 0,.slice none 0 0]/\(u2).ownsRow w.heap.size 68 2 (.slice A6 ec.length c6) ec.length (Z8.ZV ec):=⟨hHeld.1.trans (hb.mono hHeld.1.size),hHeld.2.1.below hb hHeld.2.1.lt,hHeld.2.2.1.below hb hHeld.2.2.1.lt,own_below hHeld.2.2.2 hb⟩
   clear hw
   clear hb
   go_simp
   refine hK.out _ _ hS (fun Z5=>?_)
   clear hK K hHeld hS
   have hHeld:=Z5
   clear Z5
   refine qah (rs:=[14,16]) (by kernel_rfl) (by simp) ?_
   refine qad (o:=_) (by simp only[qac,qab,qaa];rfl) (fun K hK=>?_) (qad (o:=_) (by simp only[qac,qab,qaa];rfl) (fun K hK=>?_) (qag))
   ·go_simp
    (with_reducible refine(dJ.out _ hHeld.1).mono ?_)
    rintro e u3 ⟨v7,he,hv7,hb⟩;obtain rfl:=he
    obtain⟨AI,cI,hv⟩:=XN hv7;subst hv
    replace KO:=χ (KO.out.below hb KO.out.lt)
    replace KU:=χ (KU.out.below hb KU.out.lt)
    have KI:=χ (ZL hv7 hHeld.1.size)
    have hS:qae w.heap.size w u3/\Bk u3 w.heap.size 29 [j,Y6,gn,p]/\Bk u3 (w.heap.size+1) 60 [.slice none 0 0,.slice none 0 0,.slice none 0 0,.slice none 0 0]/\(u3).ownsRow w.heap.size 68 2 (.slice A6 ec.length c6) ec.length (Z8.ZV ec):=⟨hHeld.1.trans (hb.mono hHeld.1.size),hHeld.2.1.below hb hHeld.2.1.lt,hHeld.2.2.1.below hb hHeld.2.2.1.lt,own_below hHeld.2.2.2 hb⟩
    clear hv7
    clear hb
    go_simp
    refine hK.out _ _ hS (fun Z5=>?_)
    clear hK K hHeld hS
    have hHeld:=Z5
    clear Z5
    refine tk 15 ?_ (y:=.inl ⟨by rfl,?hyx315⟩) (s:=by exact hHeld) (h:=?acy)
    case hyx315=>exact zZ3
    refine qah (rs:=[16]) (by kernel_rfl) (by simp) ?_
    refine qad (o:=_) (by simp only[qac,qab,qaa];rfl) (fun K hK=>?_) (qag)
    go_simp
    obtain⟨u4,hw⟩:∃u,u=u3.alloc (.cells #[.slice none 0 0,.slice none 0 0,.slice none 0 0,.slice none 0 0] 60):=⟨_,rfl⟩
    rw[<-hw]
    have hb:qae u3.heap.size u3 u4:=by rw[hw];exact Z0 _ _
    replace KO:=χ (KO.out.below hb KO.out.lt)
    replace KU:=χ (KU.out.below hb KU.out.lt)
    replace KI:=χ (own_below KI.out hb)
    have KM:qau (Bk u4 u3.heap.size 60 [.slice none 0 0,.slice none 0 0,.slice none 0 0,.slice none 0 0]):=χ (by rw[hw];exact Bk.new _ _ _)
    have LM:qau (w.heap.size+1<u3.heap.size):=χ hHeld.2.2.1.lt
    have hS:qae w.heap.size w u4/\Bk u4 w.heap.size 29 [j,Y6,gn,p]/\Bk u4 (w.heap.size+1) 60 [.slice none 0 0,.slice none 0 0,.slice none 0 0,.slice none 0 0]/\(u4).ownsRow w.heap.size 68 2 (.slice A6 ec.length c6) ec.length (Z8.ZV ec):=⟨hHeld.1.trans (hb.mono hHeld.1.size),hHeld.2.1.below hb hHeld.2.1.lt,hHeld.2.2.1.below hb hHeld.2.2.1.lt,own_below hHeld.2.2.2 hb⟩
    clear hw
    clear hb
    refine hK.out _ _ hS (fun Z5=>?_)
    clear hK K hHeld hS
    have hHeld:=Z5
    clear Z5
    obtain⟨r0,r1,r2,r3⟩:=Z7 KM.out
    obtain⟨f0,f1,f2,f3⟩:=Zr KM.out
    have hlz:=KM.out.lt
    have hown:Y1 u4 w.heap.size (⟨A6,c6,some ⟨u0.heap.size,0,none⟩,gn,some ⟨u1.heap.size,0,none⟩,64,AI,cI⟩:Mem) C:=⟨by rw[Sa.out];exact hHeld.2.2.2,by rw[Xr.out,VF.out];exact Xx KO.out LO.out (by rw[Z9.Zt,<-VF.out,Xr.out,qap]) rfl (by show gn<=maxLen;unfold maxLen;have:=HI.out;omega),by rw[WX.out,dY.out];exact Xx KU.out LU.out (by rw[Z4,HL2.out]) rfl (by show 64<=maxLen;decide),by rw[Xj.out,lI.out];exact KI.out⟩
    have Rt:=nC.put hHeld.2.1 hHeld.2.2.1 KM.out hown hHeld.1 LM.out
    simp only[Sa.out,Xr.out,WX.out,Xj.out]at Rt
    refine rd 17 (h:=fun K hK=>?_)
    go_simp
    change K _ (X7 u4 u3.heap.size (.slice A6 ec.length c6) (.slice u0.heap.size gn gn) (.slice u1.heap.size 64 64) (.slice AI Y6 cI))
    have Yd:=χ Rt
    have hS:qae w.heap.size w (X7 u4 u3.heap.size (.slice A6 ec.length c6) (.slice u0.heap.size gn gn) (.slice u1.heap.size 64 64) (.slice AI Y6 cI))/\Bk (X7 u4 u3.heap.size (.slice A6 ec.length c6) (.slice u0.heap.size gn gn) (.slice u1.heap.size 64 64) (.slice AI Y6 cI)) w.heap.size 29 [j,Y6,gn,p]/\Bk (X7 u4 u3.heap.size (.slice A6 ec.length c6) (.slice u0.heap.size gn gn) (.slice u1.heap.size 64 64) (.slice AI Y6 cI)) (w.heap.size+1) 60 [.slice none 0 0,.slice none 0 0,.slice none 0 0,.slice none 0 0]/\((X7 u4 u3.heap.size (.slice A6 ec.length c6) (.slice u0.heap.size gn gn) (.slice u1.heap.size 64 64) (.slice AI Y6 cI))).ownsRow w.heap.size 68 2 (.slice A6 ec.length c6) ec.length (Z8.ZV ec):=⟨Yd.out.below,Yd.out.YV,Yd.out.res,by have:=Yd.out.own.rows;rw[Sa.out]at this;exact this⟩
    refine hK.out _ _ hS (fun _=>?_)
    clear hK K hS Rt hown hHeld r0 r1 r2 r3 f0 f1 f2 f3 hlz
    refine qar (by kernel_rfl) ?_ _
    change Exit.then _ _ _ _ (X7 u4 u3.heap.size (.slice A6 ec.length c6) (.slice u0.heap.size gn gn) (.slice u1.heap.size 64 64) (.slice AI Y6 cI))
    generalize X7 u4 u3.heap.size (.slice A6 ec.length c6) (.slice u0.heap.size gn gn) (.slice u1.heap.size 64 64) (.slice AI Y6 cI)=V at*
    generalize u0.heap.size=ao at*
    generalize u1.heap.size=au at*
    generalize u3.heap.size=am at*
    exact zZ0
   ·go_simp
    obtain⟨u5,hw⟩:∃u,u=u2.alloc (.cells #[.slice none 0 0,.slice none 0 0,.slice none 0 0,.slice none 0 0] 60):=⟨_,rfl⟩
    rw[<-hw]
    have hb:qae u2.heap.size u2 u5:=by rw[hw];exact Z0 _ _
    replace KO:=χ (KO.out.below hb KO.out.lt)
    replace KU:=χ (KU.out.below hb KU.out.lt)
    have KM:qau (Bk u5 u2.heap.size 60 [.slice none 0 0,.slice none 0 0,.slice none 0 0,.slice none 0 0]):=χ (by rw[hw];exact Bk.new _ _ _)
    have LM:qau (w.heap.size+1<u2.heap.size):=χ hHeld.2.2.1.lt
    have hS:qae w.heap.size w u5/\Bk u5 w.heap.size 29 [j,Y6,gn,p]/\Bk u5 (w.heap.size+1) 60 [.slice none 0 0,.slice none 0 0,.slice none 0 0,.slice none 0 0]/\(u5).ownsRow w.heap.size 68 2 (.slice A6 ec.length c6) ec.length (Z8.ZV ec):=⟨hHeld.1.trans (hb.mono hHeld.1.size),hHeld.2.1.below hb hHeld.2.1.lt,hHeld.2.2.1.below hb hHeld.2.2.1.lt,own_below hHeld.2.2.2 hb⟩
    clear hw
    clear hb
    refine hK.out _ _ hS (fun Z5=>?_)
    clear hK K hHeld hS
    have hHeld:=Z5
    clear Z5
    refine qah (rs:=[14]) (by kernel_rfl) (by simp) ?_
    refine qad (o:=_) (by simp only[qac,qab,qaa];rfl) (fun K hK=>?_) (qag)
    go_simp
    (with_reducible refine(dJ.out _ hHeld.1).mono ?_)
    rintro e u6 ⟨v7,he,hv7,hb⟩;obtain rfl:=he
    obtain⟨AI,cI,hv⟩:=XN hv7;subst hv
    replace KO:=χ (KO.out.below hb KO.out.lt)
    replace KU:=χ (KU.out.below hb KU.out.lt)
    replace KM:=χ (KM.out.below hb KM.out.lt)
    have KI:=χ (ZL hv7 hHeld.1.size)
    have hS:qae w.heap.size w u6/\Bk u6 w.heap.size 29 [j,Y6,gn,p]/\Bk u6 (w.heap.size+1) 60 [.slice none 0 0,.slice none 0 0,.slice none 0 0,.slice none 0 0]/\(u6).ownsRow w.heap.size 68 2 (.slice A6 ec.length c6) ec.length (Z8.ZV ec):=⟨hHeld.1.trans (hb.mono hHeld.1.size),hHeld.2.1.below hb hHeld.2.1.lt,hHeld.2.2.1.below hb hHeld.2.2.1.lt,own_below hHeld.2.2.2 hb⟩
    clear hv7
    clear hb
    go_simp
    refine hK.out _ _ hS (fun Z5=>?_)
    clear hK K hHeld hS
    have hHeld:=Z5
    clear Z5
    refine tk 15 ?_ (y:=.inl ⟨by rfl,?hyx615⟩) (s:=by exact hHeld) (h:=?acz)
    case hyx615=>exact zZ3
    obtain⟨r0,r1,r2,r3⟩:=Z7 KM.out
    obtain⟨f0,f1,f2,f3⟩:=Zr KM.out
    have hlz:=KM.out.lt
    have hown:Y1 u6 w.heap.size (⟨A6,c6,some ⟨u0.heap.size,0,none⟩,gn,some ⟨u1.heap.size,0,none⟩,64,AI,cI⟩:Mem) C:=⟨by rw[Sa.out];exact hHeld.2.2.2,by rw[Xr.out,VF.out];exact Xx KO.out LO.out (by rw[Z9.Zt,<-VF.out,Xr.out,qap]) rfl (by show gn<=maxLen;unfold maxLen;have:=HI.out;omega),by rw[WX.out,dY.out];exact Xx KU.out LU.out (by rw[Z4,HL2.out]) rfl (by show 64<=maxLen;decide),by rw[Xj.out,lI.out];exact KI.out⟩
    have Rt:=nC.put hHeld.2.1 hHeld.2.2.1 KM.out hown hHeld.1 LM.out
    simp only[Sa.out,Xr.out,WX.out,Xj.out]at Rt
    refine rd 17 (h:=fun K hK=>?_)
    go_simp
    change K _ (X7 u6 u2.heap.size (.slice A6 ec.length c6) (.slice u0.heap.size gn gn) (.slice u1.heap.size 64 64) (.slice AI Y6 cI))
    have Yd:=χ Rt
    have hS:qae w.heap.size w (X7 u6 u2.heap.size (.slice A6 ec.length c6) (.slice u0.heap.size gn gn) (.slice u1.heap.size 64 64) (.slice AI Y6 cI))/\Bk (X7 u6 u2.heap.size (.slice A6 ec.length c6) (.slice u0.heap.size gn gn) (.slice u1.heap.size 64 64) (.slice AI Y6 cI)) w.heap.size 29 [j,Y6,gn,p]/\Bk (X7 u6 u2.heap.size (.slice A6 ec.length c6) (.slice u0.heap.size gn gn) (.slice u1.heap.size 64 64) (.slice AI Y6 cI)) (w.heap.size+1) 60 [.slice none 0 0,.slice none 0 0,.slice none 0 0,.slice none 0 0]/\((X7 u6 u2.heap.size (.slice A6 ec.length c6) (.slice u0.heap.size gn gn) (.slice u1.heap.size 64 64) (.slice AI Y6 cI))).ownsRow w.heap.size 68 2 (.slice A6 ec.length c6) ec.length (Z8.ZV ec):=⟨Yd.out.below,Yd.out.YV,Yd.out.res,by have:=Yd.out.own.rows;rw[Sa.out]at this;exact this⟩
    refine hK.out _ _ hS (fun _=>?_)
    clear hK K hS Rt hown hHeld r0 r1 r2 r3 f0 f1 f2 f3 hlz
    refine qar (by kernel_rfl) ?_ _
    change Exit.then _ _ _ _ (X7 u6 u2.heap.size (.slice A6 ec.length c6) (.slice u0.heap.size gn gn) (.slice u1.heap.size 64 64) (.slice AI Y6 cI))
    generalize X7 u6 u2.heap.size (.slice A6 ec.length c6) (.slice u0.heap.size gn gn) (.slice u1.heap.size 64 64) (.slice AI Y6 cI)=V at*
    generalize u0.heap.size=ao at*
    generalize u1.heap.size=au at*
    generalize u2.heap.size=am at*
    exact zZ0
  ·go_simp
   obtain⟨u7,hw⟩:∃u,u=u1.alloc (.cells #[.slice none 0 0,.slice none 0 0,.slice none 0 0,.slice none 0 0] 60):=⟨_,rfl⟩
   rw[<-hw]
   have hb:qae u1.heap.size u1 u7:=by rw[hw];exact Z0 _ _
   replace KO:=χ (KO.out.below hb KO.out.lt)
   have KM:qau (Bk u7 u1.heap.size 60 [.slice none 0 0,.slice none 0 0,.slice none 0 0,.slice none 0 0]):=χ (by rw[hw];exact Bk.new _ _ _)
   have LM:qau (w.heap.size+1<u1.heap.size):=χ hHeld.2.2.1.lt
   have hS:qae w.heap.size w u7/\Bk u7 w.heap.size 29 [j,Y6,gn,p]/\Bk u7 (w.heap.size+1) 60 [.slice none 0 0,.slice none 0 0,.slice none 0 0,.slice none 0 0]/\(u7).ownsRow w.heap.size 68 2 (.slice A6 ec.length c6) ec.length (Z8.ZV ec):=⟨hHeld.1.trans (hb.mono hHeld.1.size),hHeld.2.1.below hb hHeld.2.1.lt,hHeld.2.2.1.below hb hHeld.2.2.1.lt,own_below hHeld.2.2.2 hb⟩
   clear hw
   clear hb
   refine hK.out _ _ hS (fun Z5=>?_)
   clear hK K hHeld hS
   have hHeld:=Z5
   clear Z5
   refine qah (rs:=[11]) (by kernel_rfl) (by simp) ?_
   refine qad (o:=_) (by simp only[qac,qab,qaa];rfl) (fun K hK=>?_) (qag)
   go_simp
   (with_reducible refine(vZ.out _ hHeld.1).mono ?_)
   rintro e u8 ⟨he,hw⟩;obtain rfl:=he
   have hb:qae u7.heap.size u7 u8:=by rw[hw];exact Z0 _ _
   replace KO:=χ (KO.out.below hb KO.out.lt)
   replace KM:=χ (KM.out.below hb KM.out.lt)
   have KU:qau (Bk u8 u7.heap.size 5 (Z6 s2)):=χ (by rw[hw];exact Bk.new _ _ _)
   have LU:qau (w.heap.size<=u7.heap.size):=χ hHeld.1.size
   have hS:qae w.heap.size w u8/\Bk u8 w.heap.size 29 [j,Y6,gn,p]/\Bk u8 (w.heap.size+1) 60 [.slice none 0 0,.slice none 0 0,.slice none 0 0,.slice none 0 0]/\(u8).ownsRow w.heap.size 68 2 (.slice A6 ec.length c6) ec.length (Z8.ZV ec):=⟨hHeld.1.trans (hb.mono hHeld.1.size),hHeld.2.1.below hb hHeld.2.1.lt,hHeld.2.2.1.below hb hHeld.2.2.1.lt,own_below hHeld.2.2.2 hb⟩
   clear hw
   clear hb
   go_simp
   refine hK.out _ _ hS (fun Z5=>?_)
   clear hK K hHeld hS
   have hHeld:=Z5
   clear Z5
   refine qah (rs:=[14]) (by kernel_rfl) (by simp) ?_
   refine qad (o:=_) (by simp only[qac,qab,qaa];rfl) (fun K hK=>?_) (qag)
   go_simp
   (with_reducible refine(dJ.out _ hHeld.1).mono ?_)
   rintro e u9 ⟨v7,he,hv7,hb⟩;obtain rfl:=he
   obtain⟨AI,cI,hv⟩:=XN hv7;subst hv
   replace KO:=χ (KO.out.below hb KO.out.lt)
   replace KU:=χ (KU.out.below hb KU.out.lt)
   replace KM:=χ (KM.out.below hb KM.out.lt)
   have KI:=χ (ZL hv7 hHeld.1.size)
   have hS:qae w.heap.size w u9/\Bk u9 w.heap.size 29 [j,Y6,gn,p]/\Bk u9 (w.heap.size+1) 60 [.slice none 0 0,.slice none 0 0,.slice none 0 0,.slice none 0 0]/\(u9).ownsRow w.heap.size 68 2 (.slice A6 ec.length c6) ec.length (Z8.ZV ec):=⟨hHeld.1.trans (hb.mono hHeld.1.size),hHeld.2.1.below hb hHeld.2.1.lt,hHeld.2.2.1.below hb hHeld.2.2.1.lt,own_below hHeld.2.2.2 hb⟩
   clear hv7
   clear hb
   go_simp
   refine hK.out _ _ hS (fun Z5=>?_)
   clear hK K hHeld hS
   have hHeld:=Z5
   clear Z5
   refine tk 15 ?_ (y:=.inl ⟨by rfl,?hyx915⟩) (s:=by exact hHeld) (h:=?acA)
   case hyx915=>exact zZ3
   obtain⟨r0,r1,r2,r3⟩:=Z7 KM.out
   obtain⟨f0,f1,f2,f3⟩:=Zr KM.out
   have hlz:=KM.out.lt
   have hown:Y1 u9 w.heap.size (⟨A6,c6,some ⟨u0.heap.size,0,none⟩,gn,some ⟨u7.heap.size,0,none⟩,64,AI,cI⟩:Mem) C:=⟨by rw[Sa.out];exact hHeld.2.2.2,by rw[Xr.out,VF.out];exact Xx KO.out LO.out (by rw[Z9.Zt,<-VF.out,Xr.out,qap]) rfl (by show gn<=maxLen;unfold maxLen;have:=HI.out;omega),by rw[WX.out,dY.out];exact Xx KU.out LU.out (by rw[Z4,HL2.out]) rfl (by show 64<=maxLen;decide),by rw[Xj.out,lI.out];exact KI.out⟩
   have Rt:=nC.put hHeld.2.1 hHeld.2.2.1 KM.out hown hHeld.1 LM.out
   simp only[Sa.out,Xr.out,WX.out,Xj.out]at Rt
   refine rd 17 (h:=fun K hK=>?_)
   go_simp
   change K _ (X7 u9 u1.heap.size (.slice A6 ec.length c6) (.slice u0.heap.size gn gn) (.slice u7.heap.size 64 64) (.slice AI Y6 cI))
   have Yd:=χ Rt
   have hS:qae w.heap.size w (X7 u9 u1.heap.size (.slice A6 ec.length c6) (.slice u0.heap.size gn gn) (.slice u7.heap.size 64 64) (.slice AI Y6 cI))/\Bk (X7 u9 u1.heap.size (.slice A6 ec.length c6) (.slice u0.heap.size gn gn) (.slice u7.heap.size 64 64) (.slice AI Y6 cI)) w.heap.size 29 [j,Y6,gn,p]/\Bk (X7 u9 u1.heap.size (.slice A6 ec.length c6) (.slice u0.heap.size gn gn) (.slice u7.heap.size 64 64) (.slice AI Y6 cI)) (w.heap.size+1) 60 [.slice none 0 0,.slice none 0 0,.slice none 0 0,.slice none 0 0]/\((X7 u9 u1.heap.size (.slice A6 ec.length c6) (.slice u0.heap.size gn gn) (.slice u7.heap.size 64 64) (.slice AI Y6 cI))).ownsRow w.heap.size 68 2 (.slice A6 ec.length c6) ec.length (Z8.ZV ec):=⟨Yd.out.below,Yd.out.YV,Yd.out.res,by have:=Yd.out.own.rows;rw[Sa.out]at this;exact this⟩
   refine hK.out _ _ hS (fun _=>?_)
   clear hK K hS Rt hown hHeld r0 r1 r2 r3 f0 f1 f2 f3 hlz
   refine qar (by kernel_rfl) ?_ _
   change Exit.then _ _ _ _ (X7 u9 u1.heap.size (.slice A6 ec.length c6) (.slice u0.heap.size gn gn) (.slice u7.heap.size 64 64) (.slice AI Y6 cI))
   generalize X7 u9 u1.heap.size (.slice A6 ec.length c6) (.slice u0.heap.size gn gn) (.slice u7.heap.size 64 64) (.slice AI Y6 cI)=V at*
   generalize u0.heap.size=ao at*
   generalize u7.heap.size=au at*
   generalize u1.heap.size=am at*
   exact zZ0
 ·go_simp
  obtain⟨Pn,hw⟩:∃u,u=u0.alloc (.cells #[.slice none 0 0,.slice none 0 0,.slice none 0 0,.slice none 0 0] 60):=⟨_,rfl⟩
  rw[<-hw]
  have hb:qae u0.heap.size u0 Pn:=by rw[hw];exact Z0 _ _
  have KM:qau (Bk Pn u0.heap.size 60 [.slice none 0 0,.slice none 0 0,.slice none 0 0,.slice none 0 0]):=χ (by rw[hw];exact Bk.new _ _ _)
  have LM:qau (w.heap.size+1<u0.heap.size):=χ hHeld.2.2.1.lt
  have hS:qae w.heap.size w Pn/\Bk Pn w.heap.size 29 [j,Y6,gn,p]/\Bk Pn (w.heap.size+1) 60 [.slice none 0 0,.slice none 0 0,.slice none 0 0,.slice none 0 0]/\(Pn).ownsRow w.heap.size 68 2 (.slice A6 ec.length c6) ec.length (Z8.ZV ec):=⟨hHeld.1.trans (hb.mono hHeld.1.size),hHeld.2.1.below hb hHeld.2.1.lt,hHeld.2.2.1.below hb hHeld.2.2.1.lt,own_below hHeld.2.2.2 hb⟩
  clear hw
  clear hb
  refine hK.out _ _ hS (fun Z5=>?_)
  clear hK K hHeld hS
  have hHeld:=Z5
  clear Z5
  refine qah (rs:=[7]) (by kernel_rfl) (by simp) ?_
  refine qad (o:=_) (by simp only[qac,qab,qaa];rfl) (fun K hK=>?_) (qag)
  go_simp
  (with_reducible refine(HTO.out _ hHeld.1).mono ?_)
  rintro e Qe ⟨he,hk,hb⟩;obtain rfl:=he
  replace KM:=χ (KM.out.below hb KM.out.lt)
  have KO:=χ hk
  have LO:qau (w.heap.size<=Pn.heap.size):=χ hHeld.1.size
  have hS:qae w.heap.size w Qe/\Bk Qe w.heap.size 29 [j,Y6,gn,p]/\Bk Qe (w.heap.size+1) 60 [.slice none 0 0,.slice none 0 0,.slice none 0 0,.slice none 0 0]/\(Qe).ownsRow w.heap.size 68 2 (.slice A6 ec.length c6) ec.length (Z8.ZV ec):=⟨hHeld.1.trans (hb.mono hHeld.1.size),hHeld.2.1.below hb hHeld.2.1.lt,hHeld.2.2.1.below hb hHeld.2.2.1.lt,own_below hHeld.2.2.2 hb⟩
  clear hk
  clear hb
  go_simp
  refine hK.out _ _ hS (fun Z5=>?_)
  clear hK K hHeld hS
  have hHeld:=Z5
  clear Z5
  refine qah (rs:=[11]) (by kernel_rfl) (by simp) ?_
  refine qad (o:=_) (by simp only[qac,qab,qaa];rfl) (fun K hK=>?_) (qag)
  go_simp
  (with_reducible refine(vZ.out _ hHeld.1).mono ?_)
  rintro e zq ⟨he,hw⟩;obtain rfl:=he
  have hb:qae Qe.heap.size Qe zq:=by rw[hw];exact Z0 _ _
  replace KO:=χ (KO.out.below hb KO.out.lt)
  replace KM:=χ (KM.out.below hb KM.out.lt)
  have KU:qau (Bk zq Qe.heap.size 5 (Z6 s2)):=χ (by rw[hw];exact Bk.new _ _ _)
  have LU:qau (w.heap.size<=Qe.heap.size):=χ hHeld.1.size
  have hS:qae w.heap.size w zq/\Bk zq w.heap.size 29 [j,Y6,gn,p]/\Bk zq (w.heap.size+1) 60 [.slice none 0 0,.slice none 0 0,.slice none 0 0,.slice none 0 0]/\(zq).ownsRow w.heap.size 68 2 (.slice A6 ec.length c6) ec.length (Z8.ZV ec):=⟨hHeld.1.trans (hb.mono hHeld.1.size),hHeld.2.1.below hb hHeld.2.1.lt,hHeld.2.2.1.below hb hHeld.2.2.1.lt,own_below hHeld.2.2.2 hb⟩
  clear hw
  clear hb
  go_simp
  refine hK.out _ _ hS (fun Z5=>?_)
  clear hK K hHeld hS
  have hHeld:=Z5
  clear Z5
  refine qah (rs:=[14]) (by kernel_rfl) (by simp) ?_
  refine qad (o:=_) (by simp only[qac,qab,qaa];rfl) (fun K hK=>?_) (qag)
  go_simp
  (with_reducible refine(dJ.out _ hHeld.1).mono ?_)
  rintro e Mv ⟨v7,he,hv7,hb⟩;obtain rfl:=he
  obtain⟨AI,cI,hv⟩:=XN hv7;subst hv
  replace KO:=χ (KO.out.below hb KO.out.lt)
  replace KU:=χ (KU.out.below hb KU.out.lt)
  replace KM:=χ (KM.out.below hb KM.out.lt)
  have KI:=χ (ZL hv7 hHeld.1.size)
  have hS:qae w.heap.size w Mv/\Bk Mv w.heap.size 29 [j,Y6,gn,p]/\Bk Mv (w.heap.size+1) 60 [.slice none 0 0,.slice none 0 0,.slice none 0 0,.slice none 0 0]/\(Mv).ownsRow w.heap.size 68 2 (.slice A6 ec.length c6) ec.length (Z8.ZV ec):=⟨hHeld.1.trans (hb.mono hHeld.1.size),hHeld.2.1.below hb hHeld.2.1.lt,hHeld.2.2.1.below hb hHeld.2.2.1.lt,own_below hHeld.2.2.2 hb⟩
  clear hv7
  clear hb
  go_simp
  refine hK.out _ _ hS (fun Z5=>?_)
  clear hK K hHeld hS
  have hHeld:=Z5
  clear Z5
  refine tk 15 ?_ (y:=.inl ⟨by rfl,?hyx1315⟩) (s:=by exact hHeld) (h:=?abu)
  case hyx1315=>exact zZ3
  obtain⟨r0,r1,r2,r3⟩:=Z7 KM.out
  obtain⟨f0,f1,f2,f3⟩:=Zr KM.out
  have hlz:=KM.out.lt
  have hown:Y1 Mv w.heap.size (⟨A6,c6,some ⟨Pn.heap.size,0,none⟩,gn,some ⟨Qe.heap.size,0,none⟩,64,AI,cI⟩:Mem) C:=⟨by rw[Sa.out];exact hHeld.2.2.2,by rw[Xr.out,VF.out];exact Xx KO.out LO.out (by rw[Z9.Zt,<-VF.out,Xr.out,qap]) rfl (by show gn<=maxLen;unfold maxLen;have:=HI.out;omega),by rw[WX.out,dY.out];exact Xx KU.out LU.out (by rw[Z4,HL2.out]) rfl (by show 64<=maxLen;decide),by rw[Xj.out,lI.out];exact KI.out⟩
  have Rt:=nC.put hHeld.2.1 hHeld.2.2.1 KM.out hown hHeld.1 LM.out
  simp only[Sa.out,Xr.out,WX.out,Xj.out]at Rt
  refine rd 17 (h:=fun K hK=>?_)
  go_simp
  change K _ (X7 Mv u0.heap.size (.slice A6 ec.length c6) (.slice Pn.heap.size gn gn) (.slice Qe.heap.size 64 64) (.slice AI Y6 cI))
  have Yd:=χ Rt
  have hS:qae w.heap.size w (X7 Mv u0.heap.size (.slice A6 ec.length c6) (.slice Pn.heap.size gn gn) (.slice Qe.heap.size 64 64) (.slice AI Y6 cI))/\Bk (X7 Mv u0.heap.size (.slice A6 ec.length c6) (.slice Pn.heap.size gn gn) (.slice Qe.heap.size 64 64) (.slice AI Y6 cI)) w.heap.size 29 [j,Y6,gn,p]/\Bk (X7 Mv u0.heap.size (.slice A6 ec.length c6) (.slice Pn.heap.size gn gn) (.slice Qe.heap.size 64 64) (.slice AI Y6 cI)) (w.heap.size+1) 60 [.slice none 0 0,.slice none 0 0,.slice none 0 0,.slice none 0 0]/\((X7 Mv u0.heap.size (.slice A6 ec.length c6) (.slice Pn.heap.size gn gn) (.slice Qe.heap.size 64 64) (.slice AI Y6 cI))).ownsRow w.heap.size 68 2 (.slice A6 ec.length c6) ec.length (Z8.ZV ec):=⟨Yd.out.below,Yd.out.YV,Yd.out.res,by have:=Yd.out.own.rows;rw[Sa.out]at this;exact this⟩
  refine hK.out _ _ hS (fun _=>?_)
  clear hK K hS Rt hown hHeld r0 r1 r2 r3 f0 f1 f2 f3 hlz
  refine qar (by kernel_rfl) ?_ _
  change Exit.then _ _ _ _ (X7 Mv u0.heap.size (.slice A6 ec.length c6) (.slice Pn.heap.size gn gn) (.slice Qe.heap.size 64 64) (.slice AI Y6 cI))
  generalize X7 Mv u0.heap.size (.slice A6 ec.length c6) (.slice Pn.heap.size gn gn) (.slice Qe.heap.size 64 64) (.slice AI Y6 cI)=V at*
  generalize Pn.heap.size=ao at*
  generalize Qe.heap.size=au at*
  generalize u0.heap.size=am at*
  exact zZ0
theorem qz(j i g p:Int)(hv:¬ ZG.Valid j i g p)(l:List (List UInt8))(A:Option Addr)(n c:Nat)(L:List Sc)(w:qak)(hl:l.length=n)(hs:Zd w w.heap.size A L l)(hn:n<=1000000):
  qam Tryz.prog 82 #[.agg #[j,i,g,p],.slice A n c] w fun e w'=>V3 w (Si ⟨j,i,g,p⟩ l) e w':=by
 obtain⟨W,hW⟩:∃W,W=(w.alloc (.cells #[j,i,g,p] 29)).alloc (.cells #[.slice none 0 0,.slice none 0 0,.slice none 0 0,.slice none 0 0] 60):=⟨_,rfl⟩
 have hbW:qae w.heap.size w W:=by rw[hW];exact(qaf _ _).alloc (qaq _) _|>.alloc (by simp) _
 have hG:Bk W w.heap.size 29 [j,i,g,p]:=by rw[hW];exact(Bk.new w 29 [j,i,g,p]).below ((qaf _ _).alloc (qaq _) _) (by simp)
 have hM:Bk W (w.heap.size+1) 60 [.slice none 0 0,.slice none 0 0,.slice none 0 0,.slice none 0 0]:=by
  rw[hW]
  have:=Bk.new (w.alloc (.cells #[j,i,g,p] 29)) 60 [.slice none 0 0,.slice none 0 0,.slice none 0 0,.slice none 0 0]
  simpa using this
 have HM:=χ hM
 have HB:=χ hbW
 have HW:=χ hW
 obtain⟨g0,g1,g2,g3⟩:=Z7 hG
 clear hbW hG hM hW
 have HAS:qau (∀u:qak,qae w.heap.size w u->qam Tryz.prog 152 #[.agg #[j,i,g,p],.slice A n c] u fun e w'=>e=.returned (.bool false)/\qae u.heap.size u w'):=χ (fun u hu=>by
  have:=KS j i g p l A n c L u hl ((hs.below hu).more hu.size) hn
  rwa[show xM ⟨j,i,g,p⟩ l=false from Z9.WO (fun h=>hv h.1)]at this)
 rw[Bo (G:=⟨j,i,g,p⟩) hv]
 clear hv hs hl
 exact zZ1
theorem zO(G:Geo)(l:List (List UInt8))(A:Option Addr)(n c:Nat)(L:List Sc)(w:qak)(hl:l.length=n)(hs:Zd w w.heap.size A L l)(hn:n<=1000000)(hcap:n<=c):
  qam Tryz.prog 82 #[.agg #[G.j,G.i,G.g,G.p],.slice A n c] w fun e w'=>V3 w (Si G l) e w':=by
 by_cases hv:G.Ok
 ·have h1:=hv.i1
  have h2:=hv.g1
  obtain⟨j,i,g,p⟩:=G
  obtain⟨Y6,hi⟩:=qat (show 0<=i by simp only at h1;omega)
  obtain⟨gn,hg⟩:=qat (show 0<=g by simp only at h2;omega)
  subst hi hg
  exact qB j p Y6 gn l A n c L w hl hs hn hcap
 ·exact qz G.j G.i G.g G.p hv l A n c L w hl hs hn
end
end Go.Proofs.YtmehhgfbnfbnaaaGreat.Meta
