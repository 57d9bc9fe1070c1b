import Derived.Test.YtmehhgfbnfbnaaaGreatQMetaX8
import Derived.Test.YtmehhgfbnfbnaaaGreatQMetaX10
import Derived.Test.YtmehhgfbnfbnaaaGreatQMetaX11
import Derived.Test.YtmehhgfbnfbnaaaGreatQInternB
import Derived.Test.YtmehhgfbnfbnaaaGreatQMetaT
import Derived.Test.YtmehhgfbnfbnaaaGreatQTk
set_option maxRecDepth 100000
set_option maxHeartbeats 25600000
open List renaming setIfInBounds_toArray->qaa,set_cons_zero->qab,set_cons_succ->qac,getElem?_cons_zero->qad,getElem?_cons_succ->qae,getElem?_toArray->qaf,getD_eq_getElem?_getD->qam,getElem?_eq_getElem->qan,mem_of_getElem?->qap,getElem?_drop->qar,length_drop->qas
open Go.AllReadyH renaming cons->qag,nil->qak
open Go.Act renaming put->qah
open Go.RowKit renaming Below->qai,Hid->qay
open Go.RowKit.Below renaming refl->qaj
open Go renaming wpAnyH_ready->qal,World->qao,Calls->qaq,wpAnyH_done->qav
open Nat renaming mul_one->qat,le_refl->qau
open Classical renaming byContradiction->qaw
open Int renaming eq_ofNat_of_zero_le->qax
namespace Go.Proofs.YtmehhgfbnfbnaaaGreat.Meta
open Go.Proofs.YtmehhgfbnfbnaaaGreat
open Go.RowKit
section
variable {w V:qao}{c0 c1 c2 c3:Value}{l:List (List UInt8)}{tm:Array Value}{m:Met}{x:Mem}{r:Met × Nat}{k:Nat}
theorem M9(hr:r=(m,k))(hM:Bk V (w.heap.size+1) 60 [c0,c1,c2,c3])(h4:tm[4]?.getD undef=.pointer (some ⟨w.heap.size+1,0,none⟩))(h5:tm[5]?.getD undef=.int .i64 k)(ho:YD (X6 V (w.heap.size+1) (.slice x.rA m.rows.length x.rc) (.slice x.oA m.own.length x.oc) (.slice x.uA m.used.length x.uc) (.slice x.iA m.ino.length x.ic)) w.heap.size x m)(hb:qai w.heap.size w V):
  bodyPost Tryz.prog Tryz.f82 (fun e w'=>WH w r e w') .ret {tmps:=tm,defers:=[]} (X6 V (w.heap.size+1) (.slice x.rA m.rows.length x.rc) (.slice x.oA m.own.length x.oc) (.slice x.uA m.used.length x.uc) (.slice x.iA m.ino.length x.ic)):=by
 subst hr
 obtain⟨d0,d1,d2,d3⟩:=Z6 (Ez (a0:=.slice x.rA m.rows.length x.rc) (a1:=.slice x.oA m.own.length x.oc) (a2:=.slice x.uA m.used.length x.uc) (a3:=.slice x.iA m.ino.length x.ic) hM)
 refine bodyPost_ret (v:=.tuple #[x.v m,k]) ?_ rfl ⟨x,rfl,ho,OP hb (by omega) _ _ _ _⟩
 generalize X6 V (w.heap.size+1) (.slice x.rA m.rows.length x.rc) (.slice x.oA m.own.length x.oc) (.slice x.uA m.used.length x.uc) (.slice x.iA m.ino.length x.ic)=U at*
 simp[results,Tryz.results82,go_sem,Mem.v, *]
theorem TN{rn R5 un SV:Nat}(hr:r=(m,0))(hrn:m.rows.length=rn)(hon:m.own.length=R5)(hun:m.used.length=un)(hin:m.ino.length=SV)(hM:Bk V (w.heap.size+1) 60 [c0,c1,c2,c3])(h4:tm[4]?.getD undef=.pointer (some ⟨w.heap.size+1,0,none⟩))(h5:tm[5]?.getD undef=.int .i64 0)(ho:YD V w.heap.size x m)(hb:qai w.heap.size w V):
  bodyPost Tryz.prog Tryz.f82 (fun e w'=>WH w r e w') .ret {tmps:=tm,defers:=[]} (X6 V (w.heap.size+1) (.slice x.rA rn x.rc) (.slice x.oA R5 x.oc) (.slice x.uA un x.uc) (.slice x.iA SV x.ic)):=by
 subst hrn hon hun hin
 exact M9 (k:=0) hr hM h4 h5 (WM (((hM.set 0 _).set 1 _).set 2 _) (WM ((hM.set 0 _).set 1 _) (WM (hM.set 0 _) (WM hM ho 0 _) 1 _) 2 _) 3 _) hb
theorem Xy(hr:r=(.z,140))(hM:Bk V (w.heap.size+1) 60 [c0,c1,c2,c3])(h4:tm[4]?.getD undef=.pointer (some ⟨w.heap.size+1,0,none⟩))(h5:tm[5]?.getD undef=.int .i64 140)(hb:qai w.heap.size w V):
  bodyPost Tryz.prog Tryz.f82 (fun e w'=>WH w r e w') .ret {tmps:=tm,defers:=[]} (X6 V (w.heap.size+1) (.slice none 0 0) (.slice none 0 0) (.slice none 0 0) (.slice none 0 0)):=
 M9 (x:=pq) (m:=.z) hr hM h4 h5 (zL _ _) hb
theorem F5{s:List UInt8}(h:l[3+k]? =some s):half l (2*k)=part s 0/\half l (2*k+1)=part s 1:=by
 have e1:l.getD (3+k) []=s:=by rw[qam,h];rfl
 have e2:2*k/2=k:=by omega
 have e3:(2*k+1)/2=k:=by omega
 have e4:2*k%2=0:=by omega
 have e5:(2*k+1)%2=1:=by omega
 unfold half part
 rw[e2,e3,e1,e4,e5]
 exact⟨rfl,rfl⟩
theorem M8:∀{k:Nat},3+k<=l.length->YV (l.drop 3) k=TC l (2*k)
 |0,_=>by simp[YV,TC]
 |k+1,h=>by
  obtain⟨s,hs⟩:∃s,l[3+k]? =some s:=⟨_,qan (by omega)⟩
  obtain⟨h1,h2⟩:=F5 hs
  rw[Rj (s:=s) (by rw[qar];exact hs),M8 (by omega),show 2*(k+1)=2*k+1+1 by omega,Ng,Ng,h1,h2,List.append_assoc]
  rfl
theorem Jg{b:List UInt8}(h:(Z8.Xf b).err≠0):(Z8.Xf b).rows=[]:=by
 by_cases hl:b.length=64
 ·by_cases hr:Z8.Right (Z8.rowsOf (Zm 2 b))
  ·rw[Z8.Sz hl hr]at h
   exact absurd rfl h
  ·rw[Z8.Me hl hr]
   rfl
 ·rw[Z8.Py hl]
  rfl
theorem tL(G:Geo)(l:List (List UInt8)):Ox (O8 G l):=by
 by_cases h:(Z8.Xf (l.getD 0 [])).err=0
 ·exact JD h
 ·refine⟨?_,EF _ _,JE _ _⟩
  show Z8.Dh (Z8.Xf (l.getD 0 [])).rows
  rw[Jg h]
  exact fun r hr=>by cases hr
theorem R4{G:Geo}(h:Right G (O8 G l)):(Z8.Xf (l.getD 0 [])).err=0:=by
 by_cases h0:(Z8.Xf (l.getD 0 [])).err=0
 ·exact h0
 ·have:=h.rows.len
  change (Z8.Xf (l.getD 0 [])).rows.length=16 at this
  rw[Jg h0]at this
  cases this
theorem vz.put {u:qao}{M:Nat}{G:List Value}(hG:Bk u w.heap.size 29 G)(hR:Bk u (w.heap.size+1) 60 [.slice none 0 0,.slice none 0 0,.slice none 0 0,.slice none 0 0])(hM:Bk u M 60 [c0,c1,c2,c3])(ho:YD u w.heap.size x m)(hb:qai w.heap.size w u)(hlt:w.heap.size+1<M):
  vz w M G x m (X6 u M (.slice x.rA m.rows.length x.rc) (.slice x.oA m.own.length x.oc) (.slice x.uA m.used.length x.uc) (.slice x.iA m.ino.length x.ic)):=
 ⟨Jj hG (by omega) _ _ _ _,Jj hR (by omega) _ _ _ _,Ez hM,WM (((hM.set 0 _).set 1 _).set 2 _) (WM ((hM.set 0 _).set 1 _) (WM (hM.set 0 _) (WM hM ho 0 _) 1 _) 2 _) 3 _,OP hb (by omega) _ _ _ _,hlt⟩
theorem Y6.iP {B b o:Nat}{L:List Sc}(h:Y6 w B (some ⟨b,o,none⟩) L l):Y6 w B (some ⟨b,o+3,none⟩) (L.drop 3) (l.drop 3):=by
 have hz:Yj (L.drop 3) (l.drop 3)=(Yj L l).drop 3:=by
  unfold Yj
  rw[List.zip_eq_zipWith,List.zip_eq_zipWith,<-List.drop_zipWith,List.map_drop]
 refine⟨by rw[qas,qas,h.len],?_,fun i s b h1 h2=>?_⟩
 ·rw[hz]
  rcases h.rd with h0|⟨b',o',e,h2,h3⟩
  ·exact .inl (by rw[h0];rfl)
  ·injection e with e
   injection e with e1 e2 _
   subst e1 e2
   refine .inr ⟨b,o+3,rfl,h2,fun j u hu=>?_⟩
   rw[qar]at hu
   have:=h3 _ u hu
   rw[show o+3+j=o+(3+j)by omega]
   exact this
 ·rw[qar]at h1 h2
  exact h.each _ s b h1 h2
theorem xw(j p:Int)(Ze gn:Nat)(l:List (List UInt8))(A:Option Addr)(n c:Nat)(L:List Sc)(w:qao)(hl:l.length=n)(hs:Y6 w w.heap.size A L l)(hn:n<=1000000)(hcap:n<=c):
  qaq Tryz.prog 82 #[.agg #[j,Ze,gn,p],.slice A n c] w fun e w'=>WH w (TE ⟨j,(Ze:Int),(gn:Int),p⟩ l) e w':=by
 have HS:=χ hs
 have HL:=χ hl
 obtain⟨W,hW⟩:∃W,W=(w.alloc (.cells #[j,Ze,gn,p] 29)).alloc (.cells #[.slice none 0 0,.slice none 0 0,.slice none 0 0,.slice none 0 0] 60):=⟨_,rfl⟩
 have hbW:qai w.heap.size w W:=by rw[hW];exact(qaj _ _).alloc (qau _) _|>.alloc (by simp) _
 have hG:Bk W w.heap.size 29 [j,Ze,gn,p]:=by rw[hW];exact(Bk.new w 29 [j,Ze,gn,p]).below ((qaj _ _).alloc (qau _) _) (by simp)
 have hM:Bk W (w.heap.size+1) 60 [.slice none 0 0,.slice none 0 0,.slice none 0 0,.slice none 0 0]:=by
  rw[hW]
  have:=Bk.new (w.alloc (.cells #[j,Ze,gn,p] 29)) 60 [.slice none 0 0,.slice none 0 0,.slice none 0 0,.slice none 0 0]
  simpa using this
 have HG:=χ hG
 have HM:=χ hM
 have HB:=χ hbW
 have HW:=χ hW
 obtain⟨g0,g1,g2,g3⟩:=Z6 hG
 clear hbW hG hM hW
 obtain⟨sb,hsb⟩:∃sb,BJ ⟨j,(Ze:Int),(gn:Int),p⟩ l=sb:=⟨_,rfl⟩
 have HAS:qay (∀u:qao,qai w.heap.size w u->qaq Tryz.prog 152 #[.agg #[j,Ze,gn,p],.slice A n c] u fun e w'=>e=.returned (.bool sb)/\qai u.heap.size u w'):=χ (fun u hu=>by
  have:=M7 j Ze gn p l A n c L u hl ((HS.out.below hu).more hu.size) hn
  rwa[hsb]at this)
 by_cases OT:Geo.Ok ⟨j,(Ze:Int),(gn:Int),p⟩/\(l.length:Int)=3+(Ze:Int)/2/\∀s∈l,s.length=64
 rotate_left
 ·have hbad:TE ⟨j,(Ze:Int),(gn:Int),p⟩ l=(.z,140):=by
   by_cases h1:Geo.Ok ⟨j,(Ze:Int),(gn:Int),p⟩
   ·by_cases h2:(l.length:Int)=3+(Ze:Int)/2
    ·obtain⟨s,h3,h4⟩:∃s∈l,s.length≠64:=by
      apply qaw
      intro h
      refine OT ⟨h1,h2,fun s hs=>?_⟩
      apply qaw
      intro h5
      exact h ⟨s,hs,h5⟩
     obtain⟨i,hi⟩:=List.mem_iff_getElem?.1 h3
     exact oq hi h4
    ·exact uo h2
   ·exact EE h1
  have hsf:sb=false:=by rw[<-hsb];exact Z9.Xm OT
  subst hsf
  rw[hbad]
  clear OT hbad hsb hs hl
  go_enter Tryz.func82,Tryz.ntmps82
  go_upto_region 1 with fail
  rw[<-HW.out]
  go_wp2_with (go_at_call 152;(with_reducible refine(HAS.out _ HB.out).mono ?_);rintro e w1 ⟨he,hb⟩;obtain rfl:=he;have Oy:=χ (HM.out.below hb HM.out.lt);have HB2:=χ (HB.out.trans (hb.mono HB.out.size));clear hb;obtain⟨m0,m1,m2,m3⟩:=Z6 Oy.out;obtain⟨f0,f1,f2,f3⟩:=Zr Oy.out;have hlt:=Oy.out.lt)
  exact Xy rfl Oy.out rfl rfl HB2.out
 have hst:sb=true:=by rw[<-hsb];exact Z9.Wh OT
 subst hst
 obtain⟨hok,hlen,h64⟩:=OT
 rw[hl]at hlen
 have hi1:=hok.i1
 have hi2:=hok.i2
 have hi3:=hok.i3
 have hg1:=hok.g1
 have hg2:=hok.g2
 simp only at hi1 hi2 hi3 hg1 hg2
 have hn4:4<=n:=by omega
 have aD:n<=35:=by omega
 obtain⟨b,o,hA,hbb⟩:=hs.first (by rw[hl];omega)
 subst hA
 obtain⟨s0,h0⟩:∃s,l[0]? =some s:=⟨_,qan (by rw[hl];omega)⟩
 obtain⟨s1,h1⟩:∃s,l[1]? =some s:=⟨_,qan (by rw[hl];omega)⟩
 obtain⟨s2,h2⟩:∃s,l[2]? =some s:=⟨_,qan (by rw[hl];omega)⟩
 have l0:=h64 _ (qap h0)
 have l1:=h64 _ (qap h1)
 have l2:=h64 _ (qap h2)
 obtain⟨S0,e0,-,r0,k0,-⟩:=hs.get h0
 obtain⟨S1,e1,-,r1,k1,-⟩:=hs.get h1
 obtain⟨S2,e2,-,r2,k2,-⟩:=hs.get h2
 obtain⟨A0,c0⟩:=S0
 obtain⟨A1,c1⟩:=S1
 obtain⟨A2,c2⟩:=S2
 obtain⟨b1,o1,hA1,-⟩:=Y3 r1 (by rw[Z5];omega)
 have hA1:A1=some ⟨b1,o1,none⟩:=hA1
 subst hA1
 have k0:64<=c0:=by rw[<-l0];exact k0
 have k1:64<=c1:=by rw[<-l1];exact k1
 have K9:qay (∀u:qao,qai w.heap.size w u->u.cell? ⟨b,o,none⟩=some (.slice A0 64 c0)/\u.cell? ⟨b,o+1,none⟩=some (.slice (some ⟨b1,o1,none⟩) 64 c1)/\u.cell? ⟨b,o+2,none⟩=some (.slice A2 64 c2)):=χ (fun u hu=>by
  obtain⟨T0,f0,q0,-⟩:=(hs.below hu).get h0
  obtain⟨T1,f1,q1,-⟩:=(hs.below hu).get h1
  obtain⟨T2,f2,q2,-⟩:=(hs.below hu).get h2
  rw[e0]at f0;injection f0 with f0
  rw[e1]at f1;injection f1 with f1
  rw[e2]at f2;injection f2 with f2
  rw[<-f0,l0]at q0
  rw[<-f1,l1]at q1
  rw[<-f2,l2]at q2
  exact⟨q0,q1,q2⟩)
 obtain⟨ec,er,hrows,iO⟩:∃ec er,(Z8.Xf s0).rows=ec/\(Z8.Xf s0).err=er:=⟨_,_,rfl,rfl⟩
 have HIT:qay (∀u:qao,qai w.heap.size w u->qaq Tryz.prog 153 #[.slice A0 64 c0] u fun e w'=>∃v,e=.returned (.tuple #[v,.int .i64 er])/\w'.ownsRow u.heap.size 68 2 v ec.length (Z8.ZV ec)/\qai u.heap.size u w'):=χ (fun u hu=>by
  have:=Z8.Px s0 A0 64 c0 u l0 ((r0.below hu).more hu.size) k0
  refine this.mono ?_
  rintro e w' ⟨v,he,hv,hb⟩
  rw[iO]at he
  rw[hrows]at hv
  exact⟨v,he,hv,hb⟩)
 have HTO:qay (∀u:qao,qai w.heap.size w u->qaq Tryz.prog 154 #[.slice (some ⟨b1,o1,none⟩) gn c1] u fun e w'=>e=.returned (.slice (some ⟨u.heap.size,0,none⟩) gn gn)/\Bk w' u.heap.size 3 (Z9.ZM (Oh s1 gn))/\qai u.heap.size u w'):=χ (fun u hu=>JJ (s1.take gn) (some ⟨b1,o1,none⟩) gn c1 u (by rw[List.length_take];omega) (by
  have:=(zM r1 0 gn).below hu
  rw[List.drop_zero,Nat.add_zero]at this
  exact this.more hu.size) (by omega))
 have iY:qay (∀u:qao,qai w.heap.size w u->qaq Tryz.prog 137 #[.slice A2 64 c2] u fun e w'=>e=.returned (.slice (some ⟨u.heap.size,0,none⟩) 64 64)/\w'=u.alloc (.cells (Z7 s2).toArray 5)):=χ (fun u hu=>Nh (Z7 s2) A2 64 c2 u (by rw[Z5,l2]) (YH _) ((r2.below hu).more hu.size) (by omega))
 have hdrop:Y6 w w.heap.size (some ⟨b,o+3,none⟩) (L.drop 3) (l.drop 3):=Y6.iP hs
 have hTI:YV (l.drop 3) (n-3)=TC l Ze:=by
  rw[M8 (by omega)]
  congr 1
  omega
 have h2n:2*(n-3)=Ze:=by omega
 have nA:qay (∀u:qao,qai w.heap.size w u->qaq Tryz.prog 155 #[.slice (some ⟨b,o+3,none⟩) (n-3) (c-3)] u fun e w'=>∃v,e=.returned v/\w'.ownsRow u.heap.size 40 14 v Ze (YZ (TC l Ze))/\qai u.heap.size u w'):=χ (fun u hu=>by
  have:=FZ (l.drop 3) (fun s h=>h64 s (List.mem_of_mem_drop h)) b (o+3) (n-3) (c-3) (L.drop 3) u (by rw[qas,hl]) ((hdrop.below hu).more hu.size) (by omega)
  rw[hTI,h2n]at this
  exact this)
 obtain⟨C,hC⟩:∃C,O8 ⟨j,(Ze:Int),(gn:Int),p⟩ l=C:=⟨_,rfl⟩
 have hg0:l.getD 0 []=s0:=by rw[qam,h0];rfl
 have hg1':l.getD 1 []=s1:=by rw[qam,h1];rfl
 have xW:l.getD 2 []=s2:=by rw[qam,h2];rfl
 have qY:C=⟨(Z8.Xf s0).rows,Oh s1 gn,s2,TC l Ze⟩:=by
  rw[<-hC]
  unfold O8
  rw[hg0,hg1',xW]
  simp
 have pQ:qay (Ox C):=χ (by rw[<-hC];exact tL _ _)
 have RO:=χ (show C.rows=ec by rw[qY,<-hrows])
 have VL:=χ (show C.own=Oh s1 gn by rw[qY])
 have nN:=χ (show C.used=s2 by rw[qY])
 have tY:=χ (show C.ino=TC l Ze by rw[qY])
 have XG:qay (C.own.length=gn):=χ (by rw[qY];exact JG (by omega))
 have Xd:qay (C.used.length=64):=χ (by rw[qY];exact l2)
 have Wy:qay (C.ino.length=Ze):=χ (by rw[qY];exact QW _ _)
 have HL2:=χ l2
 obtain⟨R,hR⟩:∃R,TE ⟨j,(Ze:Int),(gn:Int),p⟩ l=R:=⟨_,rfl⟩
 rw[hR]
 have HR:=χ hR
 have RP:=χ hC
 have HGZ:=χ hg0
 have HI:qay (Ze<=64/\gn<=64):=χ (by omega)
 have aaX:(gn:Int)<=(c1:Int):=by omega
 have abG:(0:Int)<=(gn:Int):=by omega
 have hc3:c≠3:=by omega
 have rR:3<=n:=by omega
 have abH:(1:Int)<(n:Int):=by omega
 have abI:(2:Int)<(n:Int):=by omega
 have abJ:(3:Int)<=(n:Int):=by omega
 have abK:(3:Int)<=(c:Int):=by omega
 have abL:(n:Int)<=(c:Int):=by omega
 clear hrows iO hR hC qY hg0 hg1' xW hTI h2n hdrop hok hlen h64 hi1 hi2 hi3 hg1 hg2 hn4 aD h0 h1 h2 l0 l1 l2 e0 e1 e2 r0 r1 r2 k0 k1 k2 hbb hsb hs hl
 obtain⟨q0,q1,q2⟩:=K9.out _ HB.out
 go_enter Tryz.func82,Tryz.ntmps82
 go_upto_region 1 with fail
 rw[<-HW.out]
 go_upto_region 4 with(first
  |(go_at_call 152;(with_reducible refine(HAS.out _ HB.out).mono ?_);rintro e w1 ⟨he,hb⟩;obtain rfl:=he;have HG2:=χ (HG.out.below hb HG.out.lt);have Oy:=χ (HM.out.below hb HM.out.lt);have HB2:=χ (HB.out.trans (hb.mono HB.out.size));clear hb q0 q1 q2 g0 g1 g2 g3;obtain⟨q0,q1,q2⟩:=K9.out _ HB2.out)
  |(go_at_call 153;(with_reducible refine(HIT.out _ HB2.out).mono ?_);rintro e w2 ⟨v6,he,hv6,hb⟩;obtain rfl:=he;have dh:=χ (HG2.out.below hb HG2.out.lt);have aC:=χ (Oy.out.below hb Oy.out.lt);have HB3:=χ (HB2.out.trans (hb.mono HB2.out.size));have HV6:=χ (ZI hv6 HB2.out.size);obtain⟨A6,c6,hv⟩:=XD hv6;subst hv;clear hb hv6 q0 q1 q2))
 have hS0:qai w.heap.size w w2.drew/\Bk w2.drew w.heap.size 29 [j,Ze,gn,p]/\Bk w2.drew (w.heap.size+1) 60 [.slice none 0 0,.slice none 0 0,.slice none 0 0,.slice none 0 0]/\(w2.drew).ownsRow w.heap.size 68 2 (.slice A6 ec.length c6) ec.length (Z8.ZV ec):=⟨HB3.out.drew,dh.out,aC.out,HV6.out⟩
 refine wp_region_held_drew (S:=fun u=>qai w.heap.size w u/\Bk u w.heap.size 29 [j,Ze,gn,p]/\Bk u (w.heap.size+1) 60 [.slice none 0 0,.slice none 0 0,.slice none 0 0,.slice none 0 0]/\(u).ownsRow w.heap.size 68 2 (.slice A6 ec.length c6) ec.length (Z8.ZV ec)) (by kernel_rfl) hS0 (fun hHeld=>?_)
 refine tk 0 ?_ (y:=.inl ⟨by rfl,?hya0⟩) (s:=by exact hHeld) (h:=?V4)
 case hya0=>(intro u hu;obtain⟨q0,q1,q2⟩:=K9.out _ hu.1;obtain⟨g0,g1,g2,g3⟩:=Z6 hu.2.1;clear hu;go_simp<;>with_reducible rfl)
 try simp only[qah,qaa,qab,qac]
 refine tk 1 ?_ (y:=.inl ⟨by rfl,?hya1⟩) (s:=by exact hHeld) (h:=?Wn)
 case hya1=>(intro u hu;obtain⟨q0,q1,q2⟩:=K9.out _ hu.1;obtain⟨g0,g1,g2,g3⟩:=Z6 hu.2.1;clear hu;go_simp<;>with_reducible rfl)
 try simp only[qah,qaa,qab,qac]
 refine tk 2 ?_ (y:=.inl ⟨by rfl,?hya2⟩) (s:=by exact hHeld) (h:=?Wm)
 case hya2=>(intro u hu;obtain⟨q0,q1,q2⟩:=K9.out _ hu.1;obtain⟨g0,g1,g2,g3⟩:=Z6 hu.2.1;clear hu;go_simp<;>with_reducible rfl)
 try simp only[qah,qaa,qab,qac]
 refine tk 3 ?_ (y:=.inl ⟨by rfl,?hya3⟩) (s:=by exact hHeld) (h:=?Tp)
 case hya3=>(intro u hu;obtain⟨q0,q1,q2⟩:=K9.out _ hu.1;obtain⟨g0,g1,g2,g3⟩:=Z6 hu.2.1;clear hu;go_simp<;>with_reducible rfl)
 try simp only[qah,qaa,qab,qac]
 refine tk 4 ?_ (y:=.inl ⟨by rfl,?hya4⟩) (s:=by exact hHeld) (h:=?TJ)
 case hya4=>(intro u hu;obtain⟨q0,q1,q2⟩:=K9.out _ hu.1;obtain⟨g0,g1,g2,g3⟩:=Z6 hu.2.1;clear hu;go_simp<;>with_reducible rfl)
 try simp only[qah,qaa,qab,qac]
 refine tk 5 ?_ (y:=.inl ⟨by rfl,?hya5⟩) (s:=by exact hHeld) (h:=?Vw)
 case hya5=>(intro u hu;obtain⟨q0,q1,q2⟩:=K9.out _ hu.1;obtain⟨g0,g1,g2,g3⟩:=Z6 hu.2.1;clear hu;go_simp<;>with_reducible rfl)
 try simp only[qah,qaa,qab,qac]
 refine tk 6 ?_ (y:=.inl ⟨by rfl,?hya6⟩) (s:=by exact hHeld) (h:=?Vg)
 case hya6=>(intro u hu;obtain⟨q0,q1,q2⟩:=K9.out _ hu.1;obtain⟨g0,g1,g2,g3⟩:=Z6 hu.2.1;clear hu;go_simp<;>with_reducible rfl)
 try simp only[qah,qaa,qab,qac]
 refine tk 8 ?_ (y:=.inl ⟨by rfl,?hya8⟩) (s:=by exact hHeld) (h:=?RJ)
 case hya8=>(intro u hu;obtain⟨q0,q1,q2⟩:=K9.out _ hu.1;obtain⟨g0,g1,g2,g3⟩:=Z6 hu.2.1;clear hu;go_simp<;>with_reducible rfl)
 try simp only[qah,qaa,qab,qac]
 refine tk 9 ?_ (y:=.inl ⟨by rfl,?hya9⟩) (s:=by exact hHeld) (h:=?Qg)
 case hya9=>(intro u hu;obtain⟨q0,q1,q2⟩:=K9.out _ hu.1;obtain⟨g0,g1,g2,g3⟩:=Z6 hu.2.1;clear hu;go_simp<;>with_reducible rfl)
 try simp only[qah,qaa,qab,qac]
 refine tk 10 ?_ (y:=.inl ⟨by rfl,?hya10⟩) (s:=by exact hHeld) (h:=?UG)
 case hya10=>(intro u hu;obtain⟨q0,q1,q2⟩:=K9.out _ hu.1;obtain⟨g0,g1,g2,g3⟩:=Z6 hu.2.1;clear hu;go_simp<;>with_reducible rfl)
 try simp only[qah,qaa,qab,qac]
 refine tk 12 ?_ (y:=.inl ⟨by rfl,?hya12⟩) (s:=by exact hHeld) (h:=?Qf)
 case hya12=>(intro u hu;obtain⟨q0,q1,q2⟩:=K9.out _ hu.1;obtain⟨g0,g1,g2,g3⟩:=Z6 hu.2.1;clear hu;go_simp<;>with_reducible rfl)
 try simp only[qah,qaa,qab,qac]
 refine tk 13 ?_ (y:=.inl ⟨by rfl,?hya13⟩) (s:=by exact hHeld) (h:=?KP)
 case hya13=>(intro u hu;obtain⟨q0,q1,q2⟩:=K9.out _ hu.1;obtain⟨g0,g1,g2,g3⟩:=Z6 hu.2.1;clear hu;go_simp<;>with_reducible rfl)
 try simp only[qah,qaa,qab,qac]
 clear hS0
 generalize w2.drew=u0 at*
 refine qal (rs:=[7,16]) (by kernel_rfl) (by simp) ?_
 refine qag (o:=_) (by simp only[qaf,qae,qad];rfl) (fun K hK=>?_) (qag (o:=_) (by simp only[qaf,qae,qad];rfl) (fun K hK=>?_) (qak))
 ·go_simp
  (with_reducible refine(HTO.out _ hHeld.1).mono ?_)
  rintro e u1 ⟨he,hk,hb⟩;obtain rfl:=he
  have KO:=χ hk
  have LO:qay (w.heap.size<=u0.heap.size):=χ hHeld.1.size
  have hS:qai w.heap.size w u1/\Bk u1 w.heap.size 29 [j,Ze,gn,p]/\Bk u1 (w.heap.size+1) 60 [.slice none 0 0,.slice none 0 0,.slice none 0 0,.slice none 0 0]/\(u1).ownsRow w.heap.size 68 2 (.slice A6 ec.length c6) ec.length (Z8.ZV ec):=⟨hHeld.1.trans (hb.mono hHeld.1.size),hHeld.2.1.below hb hHeld.2.1.lt,hHeld.2.2.1.below hb hHeld.2.2.1.lt,own_below hHeld.2.2.2 hb⟩
  clear hk
  clear hb
  go_simp
  refine hK.out _ _ hS (fun Z4=>?_)
  clear hK K hHeld hS
  have hHeld:=Z4
  clear Z4
  try simp only[qah,qaa,qab,qac]
  refine qal (rs:=[11,16]) (by kernel_rfl) (by simp) ?_
  refine qag (o:=_) (by simp only[qaf,qae,qad];rfl) (fun K hK=>?_) (qag (o:=_) (by simp only[qaf,qae,qad];rfl) (fun K hK=>?_) (qak))
  ·go_simp
   (with_reducible refine(iY.out _ hHeld.1).mono ?_)
   rintro e u2 ⟨he,hw⟩;obtain rfl:=he
   have hb:qai u1.heap.size u1 u2:=by rw[hw];exact ZZ _ _
   replace KO:=χ (KO.out.below hb KO.out.lt)
   have KU:qay (Bk u2 u1.heap.size 5 (Z7 s2)):=χ (by rw[hw];exact Bk.new _ _ _)
   have LU:qay (w.heap.size<=u1.heap.size):=χ hHeld.1.size
   have hS:qai w.heap.size w u2/\Bk u2 w.heap.size 29 [j,Ze,gn,p]/\Bk u2 (w.heap.size+1) 60 [.slice none 0 0,.slice none 0 0,.slice none 0 0,.slice none 0 0]/\(u2).ownsRow w.heap.size 68 2 (.slice A6 ec.length c6) ec.length (Z8.ZV ec):=⟨hHeld.1.trans (hb.mono hHeld.1.size),hHeld.2.1.below hb hHeld.2.1.lt,hHeld.2.2.1.below hb hHeld.2.2.1.lt,own_below hHeld.2.2.2 hb⟩
   clear hw
   clear hb
   go_simp
   refine hK.out _ _ hS (fun Z4=>?_)
   clear hK K hHeld hS
   have hHeld:=Z4
   clear Z4
   try simp only[qah,qaa,qab,qac]
   refine qal (rs:=[14,16]) (by kernel_rfl) (by simp) ?_
   refine qag (o:=_) (by simp only[qaf,qae,qad];rfl) (fun K hK=>?_) (qag (o:=_) (by simp only[qaf,qae,qad];rfl) (fun K hK=>?_) (qak))
   ·go_simp
    (with_reducible refine(nA.out _ hHeld.1).mono ?_)
    rintro e u3 ⟨v7,he,hv7,hb⟩;obtain rfl:=he
    obtain⟨AI,cI,hv⟩:=XD hv7;subst hv
    replace KO:=χ (KO.out.below hb KO.out.lt)
    replace KU:=χ (KU.out.below hb KU.out.lt)
    have KI:=χ (ZI hv7 hHeld.1.size)
    have hS:qai w.heap.size w u3/\Bk u3 w.heap.size 29 [j,Ze,gn,p]/\Bk u3 (w.heap.size+1) 60 [.slice none 0 0,.slice none 0 0,.slice none 0 0,.slice none 0 0]/\(u3).ownsRow w.heap.size 68 2 (.slice A6 ec.length c6) ec.length (Z8.ZV ec):=⟨hHeld.1.trans (hb.mono hHeld.1.size),hHeld.2.1.below hb hHeld.2.1.lt,hHeld.2.2.1.below hb hHeld.2.2.1.lt,own_below hHeld.2.2.2 hb⟩
    clear hv7
    clear hb
    go_simp
    refine hK.out _ _ hS (fun Z4=>?_)
    clear hK K hHeld hS
    have hHeld:=Z4
    clear Z4
    try simp only[qah,qaa,qab,qac]
    refine tk 15 ?_ (y:=.inl ⟨by rfl,?hyx315⟩) (s:=by exact hHeld) (h:=?aB)
    case hyx315=>(intro u hu;clear hu;go_simp<;>with_reducible rfl)
    try simp only[qah,qaa,qab,qac]
    refine qal (rs:=[16]) (by kernel_rfl) (by simp) ?_
    refine qag (o:=_) (by simp only[qaf,qae,qad];rfl) (fun K hK=>?_) (qak)
    go_simp
    obtain⟨u4,hw⟩:∃u,u=u3.alloc (.cells #[.slice none 0 0,.slice none 0 0,.slice none 0 0,.slice none 0 0] 60):=⟨_,rfl⟩
    rw[<-hw]
    have hb:qai u3.heap.size u3 u4:=by rw[hw];exact ZZ _ _
    replace KO:=χ (KO.out.below hb KO.out.lt)
    replace KU:=χ (KU.out.below hb KU.out.lt)
    replace KI:=χ (own_below KI.out hb)
    have KM:qay (Bk u4 u3.heap.size 60 [.slice none 0 0,.slice none 0 0,.slice none 0 0,.slice none 0 0]):=χ (by rw[hw];exact Bk.new _ _ _)
    have LM:qay (w.heap.size+1<u3.heap.size):=χ hHeld.2.2.1.lt
    have hS:qai w.heap.size w u4/\Bk u4 w.heap.size 29 [j,Ze,gn,p]/\Bk u4 (w.heap.size+1) 60 [.slice none 0 0,.slice none 0 0,.slice none 0 0,.slice none 0 0]/\(u4).ownsRow w.heap.size 68 2 (.slice A6 ec.length c6) ec.length (Z8.ZV ec):=⟨hHeld.1.trans (hb.mono hHeld.1.size),hHeld.2.1.below hb hHeld.2.1.lt,hHeld.2.2.1.below hb hHeld.2.2.1.lt,own_below hHeld.2.2.2 hb⟩
    clear hw
    clear hb
    refine hK.out _ _ hS (fun Z4=>?_)
    clear hK K hHeld hS
    have hHeld:=Z4
    clear Z4
    try simp only[qah,qaa,qab,qac]
    obtain⟨r0,r1,r2,r3⟩:=Z6 KM.out
    obtain⟨f0,f1,f2,f3⟩:=Zr KM.out
    have hlz:=KM.out.lt
    have hown:YD u4 w.heap.size (⟨A6,c6,some ⟨u0.heap.size,0,none⟩,gn,some ⟨u1.heap.size,0,none⟩,64,AI,cI⟩:Mem) C:=⟨by rw[RO.out];exact hHeld.2.2.2,by rw[XG.out,VL.out];exact Xa KO.out LO.out (by rw[Z9.Zp,<-VL.out,XG.out,qat]) rfl (by show gn<=maxLen;unfold maxLen;have:=HI.out;omega),by rw[Xd.out,nN.out];exact Xa KU.out LU.out (by rw[Z5,HL2.out]) rfl (by show 64<=maxLen;decide),by rw[Wy.out,tY.out];exact KI.out⟩
    have SY:=vz.put hHeld.2.1 hHeld.2.2.1 KM.out hown hHeld.1 LM.out
    simp only[RO.out,XG.out,Xd.out,Wy.out]at SY
    refine rd 17 (h:=fun K hK=>?_)
    go_simp
    change K _ (X6 u4 u3.heap.size (.slice A6 ec.length c6) (.slice u0.heap.size gn gn) (.slice u1.heap.size 64 64) (.slice AI Ze cI))
    have Yu:=χ SY
    have hS:qai w.heap.size w (X6 u4 u3.heap.size (.slice A6 ec.length c6) (.slice u0.heap.size gn gn) (.slice u1.heap.size 64 64) (.slice AI Ze cI))/\Bk (X6 u4 u3.heap.size (.slice A6 ec.length c6) (.slice u0.heap.size gn gn) (.slice u1.heap.size 64 64) (.slice AI Ze cI)) w.heap.size 29 [j,Ze,gn,p]/\Bk (X6 u4 u3.heap.size (.slice A6 ec.length c6) (.slice u0.heap.size gn gn) (.slice u1.heap.size 64 64) (.slice AI Ze cI)) (w.heap.size+1) 60 [.slice none 0 0,.slice none 0 0,.slice none 0 0,.slice none 0 0]/\((X6 u4 u3.heap.size (.slice A6 ec.length c6) (.slice u0.heap.size gn gn) (.slice u1.heap.size 64 64) (.slice AI Ze cI))).ownsRow w.heap.size 68 2 (.slice A6 ec.length c6) ec.length (Z8.ZV ec):=⟨Yu.out.below,Yu.out.Yr,Yu.out.res,by have:=Yu.out.own.rows;rw[RO.out]at this;exact this⟩
    refine hK.out _ _ hS (fun _=>?_)
    clear hK K hS SY hown hHeld r0 r1 r2 r3 f0 f1 f2 f3 hlz
    refine qav (by kernel_rfl) ?_ _
    change Exit.then _ _ _ _ (X6 u4 u3.heap.size (.slice A6 ec.length c6) (.slice u0.heap.size gn gn) (.slice u1.heap.size 64 64) (.slice AI Ze cI))
    generalize X6 u4 u3.heap.size (.slice A6 ec.length c6) (.slice u0.heap.size gn gn) (.slice u1.heap.size 64 64) (.slice AI Ze cI)=V at*
    obtain⟨g0,g1,g2,g3⟩:=Z6 Yu.out.Yr
    obtain⟨m0,m1,m2,m3⟩:=Z6 Yu.out.cur
    simp only[RO.out,XG.out,Xd.out,Wy.out]at m0 m1 m2 m3
    have xu:=Yu.out.own.lies
    have OM:qay (∀u:qao,qai V.heap.size V u->qaq Tryz.prog 74 #[.agg #[j,Ze,gn,p],.agg #[.slice A6 ec.length c6,(.slice u0.heap.size gn gn),(.slice u1.heap.size 64 64),.slice AI Ze cI]] u fun e w'=>Tc u (Mw ⟨j,(Ze:Int),(gn:Int),p⟩ C) e w'):=χ (fun u hu=>
     Lj j Ze gn p C pQ.out _ _ _ _ ec.length c6 gn gn 64 64 Ze cI u (by rw[RO.out]) XG.out Xd.out Wy.out ((xu.below hu).more hu.size) (by have:=HI.out;omega))
    clear xu
    by_cases UI:Right ⟨j,(Ze:Int),(gn:Int),p⟩ C
    rotate_left
    ·have HBAD:=χ (HR.out.symm.trans (Qv (G:=⟨j,(Ze:Int),(gn:Int),p⟩) (l:=l) (by rw[RP.out];exact UI)))
     rw[Va UI]at OM
     clear UI
     go_wp2_with (go_at_call 74;(with_reducible refine(OM.out _ (qaj _ _)).mono ?_);rintro e xq ⟨v12,Lf,he,-,hb⟩;obtain rfl:=he;have Zy:=χ (Yu.out.later hb);clear hb m0 m1 m2 m3 g0 g1 g2 g3;obtain⟨m0,m1,m2,m3⟩:=Z6 Zy.out.res;obtain⟨f0,f1,f2,f3⟩:=Zr Zy.out.res;have hlt:=Zy.out.res.lt)
     exact Xy HBAD.out Zy.out.res rfl rfl Zy.out.below
    rw[Wv UI]at OM
    have Ua:=χ UI
    obtain⟨sn,hsn⟩:∃sn,(secs C).length=sn:=⟨_,rfl⟩
    have Qp:=χ hsn
    clear UI hsn
    by_cases heq:l=secs C
    rotate_left
    ·have HBAD:=χ (HR.out.symm.trans (Qu (G:=⟨j,(Ze:Int),(gn:Int),p⟩) (l:=l) (by rw[RP.out];exact Ne.symm heq)))
     have hb0:(l==secs C)=false:=by simpa using heq
     have HB0:=χ hb0
     clear heq hb0
     go_wp2_with (first
      |(go_at_call 74;(with_reducible refine(OM.out _ (qaj _ _)).mono ?_);rintro e xq hh;obtain⟨nz,c12,Lf,he,-,-,-,hsa,hb⟩:=hh.got;rw[Qp.out]at he;obtain rfl:=he;have Zy:=χ (Yu.out.later hb);have SX:=χ hsa;clear hb hsa m0 m1 m2 m3 g0 g1 g2 g3)
      |(go_at_call 156;(with_reducible refine(Xq l (secs C) _ _ n sn _ _ L Lf _ HL.out Qp.out ((HS.out.below Zy.out.below).more Zy.out.below.size) SX.out hn).mono ?_);rintro e ny ⟨he,hw⟩;rw[HB0.out]at he;obtain rfl:=he;subst hw;obtain⟨m0,m1,m2,m3⟩:=Z6 Zy.out.res;obtain⟨f0,f1,f2,f3⟩:=Zr Zy.out.res;have hlt:=Zy.out.res.lt))
     exact Xy HBAD.out Zy.out.res rfl rfl Zy.out.below
    have Uh:=χ (HR.out.symm.trans (Sb (G:=⟨j,(Ze:Int),(gn:Int),p⟩) (l:=l) (R4 (by rw[RP.out];exact Ua.out)) (by rw[RP.out];exact Ua.out) (by rw[RP.out];exact heq.symm)))
    rw[RP.out]at Uh
    have hb0:(l==secs C)=true:=by simpa using heq
    have HB0:=χ hb0
    clear heq hb0
    go_wp2_with (first
     |(go_at_call 74;(with_reducible refine(OM.out _ (qaj _ _)).mono ?_);rintro e xq hh;obtain⟨nz,c12,Lf,he,-,-,-,hsa,hb⟩:=hh.got;rw[Qp.out]at he;obtain rfl:=he;have Zy:=χ (Yu.out.later hb);have SX:=χ hsa;clear hb hsa m0 m1 m2 m3 g0 g1 g2 g3)
     |(go_at_call 156;(with_reducible refine(Xq l (secs C) _ _ n sn _ _ L Lf _ HL.out Qp.out ((HS.out.below Zy.out.below).more Zy.out.below.size) SX.out hn).mono ?_);rintro e ny ⟨he,hw⟩;rw[HB0.out]at he;obtain rfl:=he;subst hw;obtain⟨m0,m1,m2,m3⟩:=Z6 Zy.out.cur;simp only[RO.out,XG.out,Xd.out,Wy.out]at m0 m1 m2 m3;obtain⟨r0,r1,r2,r3⟩:=Z6 Zy.out.res;obtain⟨f0,f1,f2,f3⟩:=Zr Zy.out.res;have hlt:=Zy.out.res.lt))
    exact TN (x:=⟨A6,c6,some ⟨u0.heap.size,0,none⟩,gn,some ⟨u1.heap.size,0,none⟩,64,AI,cI⟩) Uh.out (by rw[RO.out]) XG.out Xd.out Wy.out Zy.out.res rfl rfl Zy.out.own Zy.out.below
   ·go_simp
    obtain⟨u5,hw⟩:∃u,u=u2.alloc (.cells #[.slice none 0 0,.slice none 0 0,.slice none 0 0,.slice none 0 0] 60):=⟨_,rfl⟩
    rw[<-hw]
    have hb:qai u2.heap.size u2 u5:=by rw[hw];exact ZZ _ _
    replace KO:=χ (KO.out.below hb KO.out.lt)
    replace KU:=χ (KU.out.below hb KU.out.lt)
    have KM:qay (Bk u5 u2.heap.size 60 [.slice none 0 0,.slice none 0 0,.slice none 0 0,.slice none 0 0]):=χ (by rw[hw];exact Bk.new _ _ _)
    have LM:qay (w.heap.size+1<u2.heap.size):=χ hHeld.2.2.1.lt
    have hS:qai w.heap.size w u5/\Bk u5 w.heap.size 29 [j,Ze,gn,p]/\Bk u5 (w.heap.size+1) 60 [.slice none 0 0,.slice none 0 0,.slice none 0 0,.slice none 0 0]/\(u5).ownsRow w.heap.size 68 2 (.slice A6 ec.length c6) ec.length (Z8.ZV ec):=⟨hHeld.1.trans (hb.mono hHeld.1.size),hHeld.2.1.below hb hHeld.2.1.lt,hHeld.2.2.1.below hb hHeld.2.2.1.lt,own_below hHeld.2.2.2 hb⟩
    clear hw
    clear hb
    refine hK.out _ _ hS (fun Z4=>?_)
    clear hK K hHeld hS
    have hHeld:=Z4
    clear Z4
    try simp only[qah,qaa,qab,qac]
    refine qal (rs:=[14]) (by kernel_rfl) (by simp) ?_
    refine qag (o:=_) (by simp only[qaf,qae,qad];rfl) (fun K hK=>?_) (qak)
    go_simp
    (with_reducible refine(nA.out _ hHeld.1).mono ?_)
    rintro e u6 ⟨v7,he,hv7,hb⟩;obtain rfl:=he
    obtain⟨AI,cI,hv⟩:=XD hv7;subst hv
    replace KO:=χ (KO.out.below hb KO.out.lt)
    replace KU:=χ (KU.out.below hb KU.out.lt)
    replace KM:=χ (KM.out.below hb KM.out.lt)
    have KI:=χ (ZI hv7 hHeld.1.size)
    have hS:qai w.heap.size w u6/\Bk u6 w.heap.size 29 [j,Ze,gn,p]/\Bk u6 (w.heap.size+1) 60 [.slice none 0 0,.slice none 0 0,.slice none 0 0,.slice none 0 0]/\(u6).ownsRow w.heap.size 68 2 (.slice A6 ec.length c6) ec.length (Z8.ZV ec):=⟨hHeld.1.trans (hb.mono hHeld.1.size),hHeld.2.1.below hb hHeld.2.1.lt,hHeld.2.2.1.below hb hHeld.2.2.1.lt,own_below hHeld.2.2.2 hb⟩
    clear hv7
    clear hb
    go_simp
    refine hK.out _ _ hS (fun Z4=>?_)
    clear hK K hHeld hS
    have hHeld:=Z4
    clear Z4
    try simp only[qah,qaa,qab,qac]
    refine tk 15 ?_ (y:=.inl ⟨by rfl,?hyx615⟩) (s:=by exact hHeld) (h:=?aA)
    case hyx615=>(intro u hu;clear hu;go_simp<;>with_reducible rfl)
    try simp only[qah,qaa,qab,qac]
    obtain⟨r0,r1,r2,r3⟩:=Z6 KM.out
    obtain⟨f0,f1,f2,f3⟩:=Zr KM.out
    have hlz:=KM.out.lt
    have hown:YD u6 w.heap.size (⟨A6,c6,some ⟨u0.heap.size,0,none⟩,gn,some ⟨u1.heap.size,0,none⟩,64,AI,cI⟩:Mem) C:=⟨by rw[RO.out];exact hHeld.2.2.2,by rw[XG.out,VL.out];exact Xa KO.out LO.out (by rw[Z9.Zp,<-VL.out,XG.out,qat]) rfl (by show gn<=maxLen;unfold maxLen;have:=HI.out;omega),by rw[Xd.out,nN.out];exact Xa KU.out LU.out (by rw[Z5,HL2.out]) rfl (by show 64<=maxLen;decide),by rw[Wy.out,tY.out];exact KI.out⟩
    have SY:=vz.put hHeld.2.1 hHeld.2.2.1 KM.out hown hHeld.1 LM.out
    simp only[RO.out,XG.out,Xd.out,Wy.out]at SY
    refine rd 17 (h:=fun K hK=>?_)
    go_simp
    change K _ (X6 u6 u2.heap.size (.slice A6 ec.length c6) (.slice u0.heap.size gn gn) (.slice u1.heap.size 64 64) (.slice AI Ze cI))
    have Yu:=χ SY
    have hS:qai w.heap.size w (X6 u6 u2.heap.size (.slice A6 ec.length c6) (.slice u0.heap.size gn gn) (.slice u1.heap.size 64 64) (.slice AI Ze cI))/\Bk (X6 u6 u2.heap.size (.slice A6 ec.length c6) (.slice u0.heap.size gn gn) (.slice u1.heap.size 64 64) (.slice AI Ze cI)) w.heap.size 29 [j,Ze,gn,p]/\Bk (X6 u6 u2.heap.size (.slice A6 ec.length c6) (.slice u0.heap.size gn gn) (.slice u1.heap.size 64 64) (.slice AI Ze cI)) (w.heap.size+1) 60 [.slice none 0 0,.slice none 0 0,.slice none 0 0,.slice none 0 0]/\((X6 u6 u2.heap.size (.slice A6 ec.length c6) (.slice u0.heap.size gn gn) (.slice u1.heap.size 64 64) (.slice AI Ze cI))).ownsRow w.heap.size 68 2 (.slice A6 ec.length c6) ec.length (Z8.ZV ec):=⟨Yu.out.below,Yu.out.Yr,Yu.out.res,by have:=Yu.out.own.rows;rw[RO.out]at this;exact this⟩
    refine hK.out _ _ hS (fun _=>?_)
    clear hK K hS SY hown hHeld r0 r1 r2 r3 f0 f1 f2 f3 hlz
    refine qav (by kernel_rfl) ?_ _
    change Exit.then _ _ _ _ (X6 u6 u2.heap.size (.slice A6 ec.length c6) (.slice u0.heap.size gn gn) (.slice u1.heap.size 64 64) (.slice AI Ze cI))
    generalize X6 u6 u2.heap.size (.slice A6 ec.length c6) (.slice u0.heap.size gn gn) (.slice u1.heap.size 64 64) (.slice AI Ze cI)=V at*
    obtain⟨g0,g1,g2,g3⟩:=Z6 Yu.out.Yr
    obtain⟨m0,m1,m2,m3⟩:=Z6 Yu.out.cur
    simp only[RO.out,XG.out,Xd.out,Wy.out]at m0 m1 m2 m3
    have xu:=Yu.out.own.lies
    have OM:qay (∀u:qao,qai V.heap.size V u->qaq Tryz.prog 74 #[.agg #[j,Ze,gn,p],.agg #[.slice A6 ec.length c6,(.slice u0.heap.size gn gn),(.slice u1.heap.size 64 64),.slice AI Ze cI]] u fun e w'=>Tc u (Mw ⟨j,(Ze:Int),(gn:Int),p⟩ C) e w'):=χ (fun u hu=>
     Lj j Ze gn p C pQ.out _ _ _ _ ec.length c6 gn gn 64 64 Ze cI u (by rw[RO.out]) XG.out Xd.out Wy.out ((xu.below hu).more hu.size) (by have:=HI.out;omega))
    clear xu
    by_cases UI:Right ⟨j,(Ze:Int),(gn:Int),p⟩ C
    rotate_left
    ·have HBAD:=χ (HR.out.symm.trans (Qv (G:=⟨j,(Ze:Int),(gn:Int),p⟩) (l:=l) (by rw[RP.out];exact UI)))
     rw[Va UI]at OM
     clear UI
     go_wp2_with (go_at_call 74;(with_reducible refine(OM.out _ (qaj _ _)).mono ?_);rintro e xq ⟨v12,Lf,he,-,hb⟩;obtain rfl:=he;have Zy:=χ (Yu.out.later hb);clear hb m0 m1 m2 m3 g0 g1 g2 g3;obtain⟨m0,m1,m2,m3⟩:=Z6 Zy.out.res;obtain⟨f0,f1,f2,f3⟩:=Zr Zy.out.res;have hlt:=Zy.out.res.lt)
     exact Xy HBAD.out Zy.out.res rfl rfl Zy.out.below
    rw[Wv UI]at OM
    have Ua:=χ UI
    obtain⟨sn,hsn⟩:∃sn,(secs C).length=sn:=⟨_,rfl⟩
    have Qp:=χ hsn
    clear UI hsn
    by_cases heq:l=secs C
    rotate_left
    ·have HBAD:=χ (HR.out.symm.trans (Qu (G:=⟨j,(Ze:Int),(gn:Int),p⟩) (l:=l) (by rw[RP.out];exact Ne.symm heq)))
     have hb0:(l==secs C)=false:=by simpa using heq
     have HB0:=χ hb0
     clear heq hb0
     go_wp2_with (first
      |(go_at_call 74;(with_reducible refine(OM.out _ (qaj _ _)).mono ?_);rintro e xq hh;obtain⟨nz,c12,Lf,he,-,-,-,hsa,hb⟩:=hh.got;rw[Qp.out]at he;obtain rfl:=he;have Zy:=χ (Yu.out.later hb);have SX:=χ hsa;clear hb hsa m0 m1 m2 m3 g0 g1 g2 g3)
      |(go_at_call 156;(with_reducible refine(Xq l (secs C) _ _ n sn _ _ L Lf _ HL.out Qp.out ((HS.out.below Zy.out.below).more Zy.out.below.size) SX.out hn).mono ?_);rintro e ny ⟨he,hw⟩;rw[HB0.out]at he;obtain rfl:=he;subst hw;obtain⟨m0,m1,m2,m3⟩:=Z6 Zy.out.res;obtain⟨f0,f1,f2,f3⟩:=Zr Zy.out.res;have hlt:=Zy.out.res.lt))
     exact Xy HBAD.out Zy.out.res rfl rfl Zy.out.below
    have Uh:=χ (HR.out.symm.trans (Sb (G:=⟨j,(Ze:Int),(gn:Int),p⟩) (l:=l) (R4 (by rw[RP.out];exact Ua.out)) (by rw[RP.out];exact Ua.out) (by rw[RP.out];exact heq.symm)))
    rw[RP.out]at Uh
    have hb0:(l==secs C)=true:=by simpa using heq
    have HB0:=χ hb0
    clear heq hb0
    go_wp2_with (first
     |(go_at_call 74;(with_reducible refine(OM.out _ (qaj _ _)).mono ?_);rintro e xq hh;obtain⟨nz,c12,Lf,he,-,-,-,hsa,hb⟩:=hh.got;rw[Qp.out]at he;obtain rfl:=he;have Zy:=χ (Yu.out.later hb);have SX:=χ hsa;clear hb hsa m0 m1 m2 m3 g0 g1 g2 g3)
     |(go_at_call 156;(with_reducible refine(Xq l (secs C) _ _ n sn _ _ L Lf _ HL.out Qp.out ((HS.out.below Zy.out.below).more Zy.out.below.size) SX.out hn).mono ?_);rintro e ny ⟨he,hw⟩;rw[HB0.out]at he;obtain rfl:=he;subst hw;obtain⟨m0,m1,m2,m3⟩:=Z6 Zy.out.cur;simp only[RO.out,XG.out,Xd.out,Wy.out]at m0 m1 m2 m3;obtain⟨r0,r1,r2,r3⟩:=Z6 Zy.out.res;obtain⟨f0,f1,f2,f3⟩:=Zr Zy.out.res;have hlt:=Zy.out.res.lt))
    exact TN (x:=⟨A6,c6,some ⟨u0.heap.size,0,none⟩,gn,some ⟨u1.heap.size,0,none⟩,64,AI,cI⟩) Uh.out (by rw[RO.out]) XG.out Xd.out Wy.out Zy.out.res rfl rfl Zy.out.own Zy.out.below
  ·go_simp
   obtain⟨u7,hw⟩:∃u,u=u1.alloc (.cells #[.slice none 0 0,.slice none 0 0,.slice none 0 0,.slice none 0 0] 60):=⟨_,rfl⟩
   rw[<-hw]
   have hb:qai u1.heap.size u1 u7:=by rw[hw];exact ZZ _ _
   replace KO:=χ (KO.out.below hb KO.out.lt)
   have KM:qay (Bk u7 u1.heap.size 60 [.slice none 0 0,.slice none 0 0,.slice none 0 0,.slice none 0 0]):=χ (by rw[hw];exact Bk.new _ _ _)
   have LM:qay (w.heap.size+1<u1.heap.size):=χ hHeld.2.2.1.lt
   have hS:qai w.heap.size w u7/\Bk u7 w.heap.size 29 [j,Ze,gn,p]/\Bk u7 (w.heap.size+1) 60 [.slice none 0 0,.slice none 0 0,.slice none 0 0,.slice none 0 0]/\(u7).ownsRow w.heap.size 68 2 (.slice A6 ec.length c6) ec.length (Z8.ZV ec):=⟨hHeld.1.trans (hb.mono hHeld.1.size),hHeld.2.1.below hb hHeld.2.1.lt,hHeld.2.2.1.below hb hHeld.2.2.1.lt,own_below hHeld.2.2.2 hb⟩
   clear hw
   clear hb
   refine hK.out _ _ hS (fun Z4=>?_)
   clear hK K hHeld hS
   have hHeld:=Z4
   clear Z4
   try simp only[qah,qaa,qab,qac]
   refine qal (rs:=[11]) (by kernel_rfl) (by simp) ?_
   refine qag (o:=_) (by simp only[qaf,qae,qad];rfl) (fun K hK=>?_) (qak)
   go_simp
   (with_reducible refine(iY.out _ hHeld.1).mono ?_)
   rintro e u8 ⟨he,hw⟩;obtain rfl:=he
   have hb:qai u7.heap.size u7 u8:=by rw[hw];exact ZZ _ _
   replace KO:=χ (KO.out.below hb KO.out.lt)
   replace KM:=χ (KM.out.below hb KM.out.lt)
   have KU:qay (Bk u8 u7.heap.size 5 (Z7 s2)):=χ (by rw[hw];exact Bk.new _ _ _)
   have LU:qay (w.heap.size<=u7.heap.size):=χ hHeld.1.size
   have hS:qai w.heap.size w u8/\Bk u8 w.heap.size 29 [j,Ze,gn,p]/\Bk u8 (w.heap.size+1) 60 [.slice none 0 0,.slice none 0 0,.slice none 0 0,.slice none 0 0]/\(u8).ownsRow w.heap.size 68 2 (.slice A6 ec.length c6) ec.length (Z8.ZV ec):=⟨hHeld.1.trans (hb.mono hHeld.1.size),hHeld.2.1.below hb hHeld.2.1.lt,hHeld.2.2.1.below hb hHeld.2.2.1.lt,own_below hHeld.2.2.2 hb⟩
   clear hw
   clear hb
   go_simp
   refine hK.out _ _ hS (fun Z4=>?_)
   clear hK K hHeld hS
   have hHeld:=Z4
   clear Z4
   try simp only[qah,qaa,qab,qac]
   refine qal (rs:=[14]) (by kernel_rfl) (by simp) ?_
   refine qag (o:=_) (by simp only[qaf,qae,qad];rfl) (fun K hK=>?_) (qak)
   go_simp
   (with_reducible refine(nA.out _ hHeld.1).mono ?_)
   rintro e u9 ⟨v7,he,hv7,hb⟩;obtain rfl:=he
   obtain⟨AI,cI,hv⟩:=XD hv7;subst hv
   replace KO:=χ (KO.out.below hb KO.out.lt)
   replace KU:=χ (KU.out.below hb KU.out.lt)
   replace KM:=χ (KM.out.below hb KM.out.lt)
   have KI:=χ (ZI hv7 hHeld.1.size)
   have hS:qai w.heap.size w u9/\Bk u9 w.heap.size 29 [j,Ze,gn,p]/\Bk u9 (w.heap.size+1) 60 [.slice none 0 0,.slice none 0 0,.slice none 0 0,.slice none 0 0]/\(u9).ownsRow w.heap.size 68 2 (.slice A6 ec.length c6) ec.length (Z8.ZV ec):=⟨hHeld.1.trans (hb.mono hHeld.1.size),hHeld.2.1.below hb hHeld.2.1.lt,hHeld.2.2.1.below hb hHeld.2.2.1.lt,own_below hHeld.2.2.2 hb⟩
   clear hv7
   clear hb
   go_simp
   refine hK.out _ _ hS (fun Z4=>?_)
   clear hK K hHeld hS
   have hHeld:=Z4
   clear Z4
   try simp only[qah,qaa,qab,qac]
   refine tk 15 ?_ (y:=.inl ⟨by rfl,?hyx915⟩) (s:=by exact hHeld) (h:=?az)
   case hyx915=>(intro u hu;clear hu;go_simp<;>with_reducible rfl)
   try simp only[qah,qaa,qab,qac]
   obtain⟨r0,r1,r2,r3⟩:=Z6 KM.out
   obtain⟨f0,f1,f2,f3⟩:=Zr KM.out
   have hlz:=KM.out.lt
   have hown:YD u9 w.heap.size (⟨A6,c6,some ⟨u0.heap.size,0,none⟩,gn,some ⟨u7.heap.size,0,none⟩,64,AI,cI⟩:Mem) C:=⟨by rw[RO.out];exact hHeld.2.2.2,by rw[XG.out,VL.out];exact Xa KO.out LO.out (by rw[Z9.Zp,<-VL.out,XG.out,qat]) rfl (by show gn<=maxLen;unfold maxLen;have:=HI.out;omega),by rw[Xd.out,nN.out];exact Xa KU.out LU.out (by rw[Z5,HL2.out]) rfl (by show 64<=maxLen;decide),by rw[Wy.out,tY.out];exact KI.out⟩
   have SY:=vz.put hHeld.2.1 hHeld.2.2.1 KM.out hown hHeld.1 LM.out
   simp only[RO.out,XG.out,Xd.out,Wy.out]at SY
   refine rd 17 (h:=fun K hK=>?_)
   go_simp
   change K _ (X6 u9 u1.heap.size (.slice A6 ec.length c6) (.slice u0.heap.size gn gn) (.slice u7.heap.size 64 64) (.slice AI Ze cI))
   have Yu:=χ SY
   have hS:qai w.heap.size w (X6 u9 u1.heap.size (.slice A6 ec.length c6) (.slice u0.heap.size gn gn) (.slice u7.heap.size 64 64) (.slice AI Ze cI))/\Bk (X6 u9 u1.heap.size (.slice A6 ec.length c6) (.slice u0.heap.size gn gn) (.slice u7.heap.size 64 64) (.slice AI Ze cI)) w.heap.size 29 [j,Ze,gn,p]/\Bk (X6 u9 u1.heap.size (.slice A6 ec.length c6) (.slice u0.heap.size gn gn) (.slice u7.heap.size 64 64) (.slice AI Ze cI)) (w.heap.size+1) 60 [.slice none 0 0,.slice none 0 0,.slice none 0 0,.slice none 0 0]/\((X6 u9 u1.heap.size (.slice A6 ec.length c6) (.slice u0.heap.size gn gn) (.slice u7.heap.size 64 64) (.slice AI Ze cI))).ownsRow w.heap.size 68 2 (.slice A6 ec.length c6) ec.length (Z8.ZV ec):=⟨Yu.out.below,Yu.out.Yr,Yu.out.res,by have:=Yu.out.own.rows;rw[RO.out]at this;exact this⟩
   refine hK.out _ _ hS (fun _=>?_)
   clear hK K hS SY hown hHeld r0 r1 r2 r3 f0 f1 f2 f3 hlz
   refine qav (by kernel_rfl) ?_ _
   change Exit.then _ _ _ _ (X6 u9 u1.heap.size (.slice A6 ec.length c6) (.slice u0.heap.size gn gn) (.slice u7.heap.size 64 64) (.slice AI Ze cI))
   generalize X6 u9 u1.heap.size (.slice A6 ec.length c6) (.slice u0.heap.size gn gn) (.slice u7.heap.size 64 64) (.slice AI Ze cI)=V at*
   obtain⟨g0,g1,g2,g3⟩:=Z6 Yu.out.Yr
   obtain⟨m0,m1,m2,m3⟩:=Z6 Yu.out.cur
   simp only[RO.out,XG.out,Xd.out,Wy.out]at m0 m1 m2 m3
   have xu:=Yu.out.own.lies
   have OM:qay (∀u:qao,qai V.heap.size V u->qaq Tryz.prog 74 #[.agg #[j,Ze,gn,p],.agg #[.slice A6 ec.length c6,(.slice u0.heap.size gn gn),(.slice u7.heap.size 64 64),.slice AI Ze cI]] u fun e w'=>Tc u (Mw ⟨j,(Ze:Int),(gn:Int),p⟩ C) e w'):=χ (fun u hu=>
    Lj j Ze gn p C pQ.out _ _ _ _ ec.length c6 gn gn 64 64 Ze cI u (by rw[RO.out]) XG.out Xd.out Wy.out ((xu.below hu).more hu.size) (by have:=HI.out;omega))
   clear xu
   by_cases UI:Right ⟨j,(Ze:Int),(gn:Int),p⟩ C
   rotate_left
   ·have HBAD:=χ (HR.out.symm.trans (Qv (G:=⟨j,(Ze:Int),(gn:Int),p⟩) (l:=l) (by rw[RP.out];exact UI)))
    rw[Va UI]at OM
    clear UI
    go_wp2_with (go_at_call 74;(with_reducible refine(OM.out _ (qaj _ _)).mono ?_);rintro e xq ⟨v12,Lf,he,-,hb⟩;obtain rfl:=he;have Zy:=χ (Yu.out.later hb);clear hb m0 m1 m2 m3 g0 g1 g2 g3;obtain⟨m0,m1,m2,m3⟩:=Z6 Zy.out.res;obtain⟨f0,f1,f2,f3⟩:=Zr Zy.out.res;have hlt:=Zy.out.res.lt)
    exact Xy HBAD.out Zy.out.res rfl rfl Zy.out.below
   rw[Wv UI]at OM
   have Ua:=χ UI
   obtain⟨sn,hsn⟩:∃sn,(secs C).length=sn:=⟨_,rfl⟩
   have Qp:=χ hsn
   clear UI hsn
   by_cases heq:l=secs C
   rotate_left
   ·have HBAD:=χ (HR.out.symm.trans (Qu (G:=⟨j,(Ze:Int),(gn:Int),p⟩) (l:=l) (by rw[RP.out];exact Ne.symm heq)))
    have hb0:(l==secs C)=false:=by simpa using heq
    have HB0:=χ hb0
    clear heq hb0
    go_wp2_with (first
     |(go_at_call 74;(with_reducible refine(OM.out _ (qaj _ _)).mono ?_);rintro e xq hh;obtain⟨nz,c12,Lf,he,-,-,-,hsa,hb⟩:=hh.got;rw[Qp.out]at he;obtain rfl:=he;have Zy:=χ (Yu.out.later hb);have SX:=χ hsa;clear hb hsa m0 m1 m2 m3 g0 g1 g2 g3)
     |(go_at_call 156;(with_reducible refine(Xq l (secs C) _ _ n sn _ _ L Lf _ HL.out Qp.out ((HS.out.below Zy.out.below).more Zy.out.below.size) SX.out hn).mono ?_);rintro e ny ⟨he,hw⟩;rw[HB0.out]at he;obtain rfl:=he;subst hw;obtain⟨m0,m1,m2,m3⟩:=Z6 Zy.out.res;obtain⟨f0,f1,f2,f3⟩:=Zr Zy.out.res;have hlt:=Zy.out.res.lt))
    exact Xy HBAD.out Zy.out.res rfl rfl Zy.out.below
   have Uh:=χ (HR.out.symm.trans (Sb (G:=⟨j,(Ze:Int),(gn:Int),p⟩) (l:=l) (R4 (by rw[RP.out];exact Ua.out)) (by rw[RP.out];exact Ua.out) (by rw[RP.out];exact heq.symm)))
   rw[RP.out]at Uh
   have hb0:(l==secs C)=true:=by simpa using heq
   have HB0:=χ hb0
   clear heq hb0
   go_wp2_with (first
    |(go_at_call 74;(with_reducible refine(OM.out _ (qaj _ _)).mono ?_);rintro e xq hh;obtain⟨nz,c12,Lf,he,-,-,-,hsa,hb⟩:=hh.got;rw[Qp.out]at he;obtain rfl:=he;have Zy:=χ (Yu.out.later hb);have SX:=χ hsa;clear hb hsa m0 m1 m2 m3 g0 g1 g2 g3)
    |(go_at_call 156;(with_reducible refine(Xq l (secs C) _ _ n sn _ _ L Lf _ HL.out Qp.out ((HS.out.below Zy.out.below).more Zy.out.below.size) SX.out hn).mono ?_);rintro e ny ⟨he,hw⟩;rw[HB0.out]at he;obtain rfl:=he;subst hw;obtain⟨m0,m1,m2,m3⟩:=Z6 Zy.out.cur;simp only[RO.out,XG.out,Xd.out,Wy.out]at m0 m1 m2 m3;obtain⟨r0,r1,r2,r3⟩:=Z6 Zy.out.res;obtain⟨f0,f1,f2,f3⟩:=Zr Zy.out.res;have hlt:=Zy.out.res.lt))
   exact TN (x:=⟨A6,c6,some ⟨u0.heap.size,0,none⟩,gn,some ⟨u7.heap.size,0,none⟩,64,AI,cI⟩) Uh.out (by rw[RO.out]) XG.out Xd.out Wy.out Zy.out.res rfl rfl Zy.out.own Zy.out.below
 ·go_simp
  obtain⟨QB,hw⟩:∃u,u=u0.alloc (.cells #[.slice none 0 0,.slice none 0 0,.slice none 0 0,.slice none 0 0] 60):=⟨_,rfl⟩
  rw[<-hw]
  have hb:qai u0.heap.size u0 QB:=by rw[hw];exact ZZ _ _
  have KM:qay (Bk QB u0.heap.size 60 [.slice none 0 0,.slice none 0 0,.slice none 0 0,.slice none 0 0]):=χ (by rw[hw];exact Bk.new _ _ _)
  have LM:qay (w.heap.size+1<u0.heap.size):=χ hHeld.2.2.1.lt
  have hS:qai w.heap.size w QB/\Bk QB w.heap.size 29 [j,Ze,gn,p]/\Bk QB (w.heap.size+1) 60 [.slice none 0 0,.slice none 0 0,.slice none 0 0,.slice none 0 0]/\(QB).ownsRow w.heap.size 68 2 (.slice A6 ec.length c6) ec.length (Z8.ZV ec):=⟨hHeld.1.trans (hb.mono hHeld.1.size),hHeld.2.1.below hb hHeld.2.1.lt,hHeld.2.2.1.below hb hHeld.2.2.1.lt,own_below hHeld.2.2.2 hb⟩
  clear hw
  clear hb
  refine hK.out _ _ hS (fun Z4=>?_)
  clear hK K hHeld hS
  have hHeld:=Z4
  clear Z4
  try simp only[qah,qaa,qab,qac]
  refine qal (rs:=[7]) (by kernel_rfl) (by simp) ?_
  refine qag (o:=_) (by simp only[qaf,qae,qad];rfl) (fun K hK=>?_) (qak)
  go_simp
  (with_reducible refine(HTO.out _ hHeld.1).mono ?_)
  rintro e QK ⟨he,hk,hb⟩;obtain rfl:=he
  replace KM:=χ (KM.out.below hb KM.out.lt)
  have KO:=χ hk
  have LO:qay (w.heap.size<=QB.heap.size):=χ hHeld.1.size
  have hS:qai w.heap.size w QK/\Bk QK w.heap.size 29 [j,Ze,gn,p]/\Bk QK (w.heap.size+1) 60 [.slice none 0 0,.slice none 0 0,.slice none 0 0,.slice none 0 0]/\(QK).ownsRow w.heap.size 68 2 (.slice A6 ec.length c6) ec.length (Z8.ZV ec):=⟨hHeld.1.trans (hb.mono hHeld.1.size),hHeld.2.1.below hb hHeld.2.1.lt,hHeld.2.2.1.below hb hHeld.2.2.1.lt,own_below hHeld.2.2.2 hb⟩
  clear hk
  clear hb
  go_simp
  refine hK.out _ _ hS (fun Z4=>?_)
  clear hK K hHeld hS
  have hHeld:=Z4
  clear Z4
  try simp only[qah,qaa,qab,qac]
  refine qal (rs:=[11]) (by kernel_rfl) (by simp) ?_
  refine qag (o:=_) (by simp only[qaf,qae,qad];rfl) (fun K hK=>?_) (qak)
  go_simp
  (with_reducible refine(iY.out _ hHeld.1).mono ?_)
  rintro e wK ⟨he,hw⟩;obtain rfl:=he
  have hb:qai QK.heap.size QK wK:=by rw[hw];exact ZZ _ _
  replace KO:=χ (KO.out.below hb KO.out.lt)
  replace KM:=χ (KM.out.below hb KM.out.lt)
  have KU:qay (Bk wK QK.heap.size 5 (Z7 s2)):=χ (by rw[hw];exact Bk.new _ _ _)
  have LU:qay (w.heap.size<=QK.heap.size):=χ hHeld.1.size
  have hS:qai w.heap.size w wK/\Bk wK w.heap.size 29 [j,Ze,gn,p]/\Bk wK (w.heap.size+1) 60 [.slice none 0 0,.slice none 0 0,.slice none 0 0,.slice none 0 0]/\(wK).ownsRow w.heap.size 68 2 (.slice A6 ec.length c6) ec.length (Z8.ZV ec):=⟨hHeld.1.trans (hb.mono hHeld.1.size),hHeld.2.1.below hb hHeld.2.1.lt,hHeld.2.2.1.below hb hHeld.2.2.1.lt,own_below hHeld.2.2.2 hb⟩
  clear hw
  clear hb
  go_simp
  refine hK.out _ _ hS (fun Z4=>?_)
  clear hK K hHeld hS
  have hHeld:=Z4
  clear Z4
  try simp only[qah,qaa,qab,qac]
  refine qal (rs:=[14]) (by kernel_rfl) (by simp) ?_
  refine qag (o:=_) (by simp only[qaf,qae,qad];rfl) (fun K hK=>?_) (qak)
  go_simp
  (with_reducible refine(nA.out _ hHeld.1).mono ?_)
  rintro e Mt ⟨v7,he,hv7,hb⟩;obtain rfl:=he
  obtain⟨AI,cI,hv⟩:=XD hv7;subst hv
  replace KO:=χ (KO.out.below hb KO.out.lt)
  replace KU:=χ (KU.out.below hb KU.out.lt)
  replace KM:=χ (KM.out.below hb KM.out.lt)
  have KI:=χ (ZI hv7 hHeld.1.size)
  have hS:qai w.heap.size w Mt/\Bk Mt w.heap.size 29 [j,Ze,gn,p]/\Bk Mt (w.heap.size+1) 60 [.slice none 0 0,.slice none 0 0,.slice none 0 0,.slice none 0 0]/\(Mt).ownsRow w.heap.size 68 2 (.slice A6 ec.length c6) ec.length (Z8.ZV ec):=⟨hHeld.1.trans (hb.mono hHeld.1.size),hHeld.2.1.below hb hHeld.2.1.lt,hHeld.2.2.1.below hb hHeld.2.2.1.lt,own_below hHeld.2.2.2 hb⟩
  clear hv7
  clear hb
  go_simp
  refine hK.out _ _ hS (fun Z4=>?_)
  clear hK K hHeld hS
  have hHeld:=Z4
  clear Z4
  try simp only[qah,qaa,qab,qac]
  refine tk 15 ?_ (y:=.inl ⟨by rfl,?hyx1315⟩) (s:=by exact hHeld) (h:=?gz)
  case hyx1315=>(intro u hu;clear hu;go_simp<;>with_reducible rfl)
  try simp only[qah,qaa,qab,qac]
  obtain⟨r0,r1,r2,r3⟩:=Z6 KM.out
  obtain⟨f0,f1,f2,f3⟩:=Zr KM.out
  have hlz:=KM.out.lt
  have hown:YD Mt w.heap.size (⟨A6,c6,some ⟨QB.heap.size,0,none⟩,gn,some ⟨QK.heap.size,0,none⟩,64,AI,cI⟩:Mem) C:=⟨by rw[RO.out];exact hHeld.2.2.2,by rw[XG.out,VL.out];exact Xa KO.out LO.out (by rw[Z9.Zp,<-VL.out,XG.out,qat]) rfl (by show gn<=maxLen;unfold maxLen;have:=HI.out;omega),by rw[Xd.out,nN.out];exact Xa KU.out LU.out (by rw[Z5,HL2.out]) rfl (by show 64<=maxLen;decide),by rw[Wy.out,tY.out];exact KI.out⟩
  have SY:=vz.put hHeld.2.1 hHeld.2.2.1 KM.out hown hHeld.1 LM.out
  simp only[RO.out,XG.out,Xd.out,Wy.out]at SY
  refine rd 17 (h:=fun K hK=>?_)
  go_simp
  change K _ (X6 Mt u0.heap.size (.slice A6 ec.length c6) (.slice QB.heap.size gn gn) (.slice QK.heap.size 64 64) (.slice AI Ze cI))
  have Yu:=χ SY
  have hS:qai w.heap.size w (X6 Mt u0.heap.size (.slice A6 ec.length c6) (.slice QB.heap.size gn gn) (.slice QK.heap.size 64 64) (.slice AI Ze cI))/\Bk (X6 Mt u0.heap.size (.slice A6 ec.length c6) (.slice QB.heap.size gn gn) (.slice QK.heap.size 64 64) (.slice AI Ze cI)) w.heap.size 29 [j,Ze,gn,p]/\Bk (X6 Mt u0.heap.size (.slice A6 ec.length c6) (.slice QB.heap.size gn gn) (.slice QK.heap.size 64 64) (.slice AI Ze cI)) (w.heap.size+1) 60 [.slice none 0 0,.slice none 0 0,.slice none 0 0,.slice none 0 0]/\((X6 Mt u0.heap.size (.slice A6 ec.length c6) (.slice QB.heap.size gn gn) (.slice QK.heap.size 64 64) (.slice AI Ze cI))).ownsRow w.heap.size 68 2 (.slice A6 ec.length c6) ec.length (Z8.ZV ec):=⟨Yu.out.below,Yu.out.Yr,Yu.out.res,by have:=Yu.out.own.rows;rw[RO.out]at this;exact this⟩
  refine hK.out _ _ hS (fun _=>?_)
  clear hK K hS SY hown hHeld r0 r1 r2 r3 f0 f1 f2 f3 hlz
  refine qav (by kernel_rfl) ?_ _
  change Exit.then _ _ _ _ (X6 Mt u0.heap.size (.slice A6 ec.length c6) (.slice QB.heap.size gn gn) (.slice QK.heap.size 64 64) (.slice AI Ze cI))
  generalize X6 Mt u0.heap.size (.slice A6 ec.length c6) (.slice QB.heap.size gn gn) (.slice QK.heap.size 64 64) (.slice AI Ze cI)=V at*
  obtain⟨g0,g1,g2,g3⟩:=Z6 Yu.out.Yr
  obtain⟨m0,m1,m2,m3⟩:=Z6 Yu.out.cur
  simp only[RO.out,XG.out,Xd.out,Wy.out]at m0 m1 m2 m3
  have xu:=Yu.out.own.lies
  have OM:qay (∀u:qao,qai V.heap.size V u->qaq Tryz.prog 74 #[.agg #[j,Ze,gn,p],.agg #[.slice A6 ec.length c6,(.slice QB.heap.size gn gn),(.slice QK.heap.size 64 64),.slice AI Ze cI]] u fun e w'=>Tc u (Mw ⟨j,(Ze:Int),(gn:Int),p⟩ C) e w'):=χ (fun u hu=>
   Lj j Ze gn p C pQ.out _ _ _ _ ec.length c6 gn gn 64 64 Ze cI u (by rw[RO.out]) XG.out Xd.out Wy.out ((xu.below hu).more hu.size) (by have:=HI.out;omega))
  clear xu
  by_cases UI:Right ⟨j,(Ze:Int),(gn:Int),p⟩ C
  rotate_left
  ·have HBAD:=χ (HR.out.symm.trans (Qv (G:=⟨j,(Ze:Int),(gn:Int),p⟩) (l:=l) (by rw[RP.out];exact UI)))
   rw[Va UI]at OM
   clear UI
   go_wp2_with (go_at_call 74;(with_reducible refine(OM.out _ (qaj _ _)).mono ?_);rintro e xq ⟨v12,Lf,he,-,hb⟩;obtain rfl:=he;have Zy:=χ (Yu.out.later hb);clear hb m0 m1 m2 m3 g0 g1 g2 g3;obtain⟨m0,m1,m2,m3⟩:=Z6 Zy.out.res;obtain⟨f0,f1,f2,f3⟩:=Zr Zy.out.res;have hlt:=Zy.out.res.lt)
   exact Xy HBAD.out Zy.out.res rfl rfl Zy.out.below
  rw[Wv UI]at OM
  have Ua:=χ UI
  obtain⟨sn,hsn⟩:∃sn,(secs C).length=sn:=⟨_,rfl⟩
  have Qp:=χ hsn
  clear UI hsn
  by_cases heq:l=secs C
  rotate_left
  ·have HBAD:=χ (HR.out.symm.trans (Qu (G:=⟨j,(Ze:Int),(gn:Int),p⟩) (l:=l) (by rw[RP.out];exact Ne.symm heq)))
   have hb0:(l==secs C)=false:=by simpa using heq
   have HB0:=χ hb0
   clear heq hb0
   go_wp2_with (first
    |(go_at_call 74;(with_reducible refine(OM.out _ (qaj _ _)).mono ?_);rintro e xq hh;obtain⟨nz,c12,Lf,he,-,-,-,hsa,hb⟩:=hh.got;rw[Qp.out]at he;obtain rfl:=he;have Zy:=χ (Yu.out.later hb);have SX:=χ hsa;clear hb hsa m0 m1 m2 m3 g0 g1 g2 g3)
    |(go_at_call 156;(with_reducible refine(Xq l (secs C) _ _ n sn _ _ L Lf _ HL.out Qp.out ((HS.out.below Zy.out.below).more Zy.out.below.size) SX.out hn).mono ?_);rintro e ny ⟨he,hw⟩;rw[HB0.out]at he;obtain rfl:=he;subst hw;obtain⟨m0,m1,m2,m3⟩:=Z6 Zy.out.res;obtain⟨f0,f1,f2,f3⟩:=Zr Zy.out.res;have hlt:=Zy.out.res.lt))
   exact Xy HBAD.out Zy.out.res rfl rfl Zy.out.below
  have Uh:=χ (HR.out.symm.trans (Sb (G:=⟨j,(Ze:Int),(gn:Int),p⟩) (l:=l) (R4 (by rw[RP.out];exact Ua.out)) (by rw[RP.out];exact Ua.out) (by rw[RP.out];exact heq.symm)))
  rw[RP.out]at Uh
  have hb0:(l==secs C)=true:=by simpa using heq
  have HB0:=χ hb0
  clear heq hb0
  go_wp2_with (first
   |(go_at_call 74;(with_reducible refine(OM.out _ (qaj _ _)).mono ?_);rintro e xq hh;obtain⟨nz,c12,Lf,he,-,-,-,hsa,hb⟩:=hh.got;rw[Qp.out]at he;obtain rfl:=he;have Zy:=χ (Yu.out.later hb);have SX:=χ hsa;clear hb hsa m0 m1 m2 m3 g0 g1 g2 g3)
   |(go_at_call 156;(with_reducible refine(Xq l (secs C) _ _ n sn _ _ L Lf _ HL.out Qp.out ((HS.out.below Zy.out.below).more Zy.out.below.size) SX.out hn).mono ?_);rintro e ny ⟨he,hw⟩;rw[HB0.out]at he;obtain rfl:=he;subst hw;obtain⟨m0,m1,m2,m3⟩:=Z6 Zy.out.cur;simp only[RO.out,XG.out,Xd.out,Wy.out]at m0 m1 m2 m3;obtain⟨r0,r1,r2,r3⟩:=Z6 Zy.out.res;obtain⟨f0,f1,f2,f3⟩:=Zr Zy.out.res;have hlt:=Zy.out.res.lt))
  exact TN (x:=⟨A6,c6,some ⟨QB.heap.size,0,none⟩,gn,some ⟨QK.heap.size,0,none⟩,64,AI,cI⟩) Uh.out (by rw[RO.out]) XG.out Xd.out Wy.out Zy.out.res rfl rfl Zy.out.own Zy.out.below
theorem xn(j i g p:Int)(hv:¬ ZF.Valid j i g p)(l:List (List UInt8))(A:Option Addr)(n c:Nat)(L:List Sc)(w:qao)(hl:l.length=n)(hs:Y6 w w.heap.size A L l)(hn:n<=1000000):
  qaq Tryz.prog 82 #[.agg #[j,i,g,p],.slice A n c] w fun e w'=>WH w (TE ⟨j,i,g,p⟩ l) e w':=by
 obtain⟨W,hW⟩:∃W,W=(w.alloc (.cells #[j,i,g,p] 29)).alloc (.cells #[.slice none 0 0,.slice none 0 0,.slice none 0 0,.slice none 0 0] 60):=⟨_,rfl⟩
 have hbW:qai w.heap.size w W:=by rw[hW];exact(qaj _ _).alloc (qau _) _|>.alloc (by simp) _
 have hG:Bk W w.heap.size 29 [j,i,g,p]:=by rw[hW];exact(Bk.new w 29 [j,i,g,p]).below ((qaj _ _).alloc (qau _) _) (by simp)
 have hM:Bk W (w.heap.size+1) 60 [.slice none 0 0,.slice none 0 0,.slice none 0 0,.slice none 0 0]:=by
  rw[hW]
  have:=Bk.new (w.alloc (.cells #[j,i,g,p] 29)) 60 [.slice none 0 0,.slice none 0 0,.slice none 0 0,.slice none 0 0]
  simpa using this
 have HM:=χ hM
 have HB:=χ hbW
 have HW:=χ hW
 obtain⟨g0,g1,g2,g3⟩:=Z6 hG
 clear hbW hG hM hW
 have HAS:qay (∀u:qao,qai w.heap.size w u->qaq Tryz.prog 152 #[.agg #[j,i,g,p],.slice A n c] u fun e w'=>e=.returned (.bool false)/\qai u.heap.size u w'):=χ (fun u hu=>by
  have:=M7 j i g p l A n c L u hl ((hs.below hu).more hu.size) hn
  rwa[show BJ ⟨j,i,g,p⟩ l=false from Z9.Xm (fun h=>hv h.1)]at this)
 rw[EE (G:=⟨j,i,g,p⟩) hv]
 clear hv hs hl
 go_enter Tryz.func82,Tryz.ntmps82
 go_upto_region 1 with fail
 rw[<-HW.out]
 go_wp2_with (go_at_call 152;(with_reducible refine(HAS.out _ HB.out).mono ?_);rintro e w1 ⟨he,hb⟩;obtain rfl:=he;have Oy:=χ (HM.out.below hb HM.out.lt);have HB2:=χ (HB.out.trans (hb.mono HB.out.size));clear hb;obtain⟨m0,m1,m2,m3⟩:=Z6 Oy.out;obtain⟨f0,f1,f2,f3⟩:=Zr Oy.out;have hlt:=Oy.out.lt)
 exact Xy rfl Oy.out rfl rfl HB2.out
theorem DD(G:Geo)(l:List (List UInt8))(A:Option Addr)(n c:Nat)(L:List Sc)(w:qao)(hl:l.length=n)(hs:Y6 w w.heap.size A L l)(hn:n<=1000000)(hcap:n<=c):
  qaq Tryz.prog 82 #[.agg #[G.j,G.i,G.g,G.p],.slice A n c] w fun e w'=>WH w (TE G l) e w':=by
 by_cases hv:G.Ok
 ·have h1:=hv.i1
  have h2:=hv.g1
  obtain⟨j,i,g,p⟩:=G
  obtain⟨Ze,hi⟩:=qax (show 0<=i by simp only at h1;omega)
  obtain⟨gn,hg⟩:=qax (show 0<=g by simp only at h2;omega)
  subst hi hg
  exact xw j p Ze gn l A n c L w hl hs hn hcap
 ·exact xn G.j G.i G.g G.p hv l A n c L w hl hs hn
end
end Go.Proofs.YtmehhgfbnfbnaaaGreat.Meta
