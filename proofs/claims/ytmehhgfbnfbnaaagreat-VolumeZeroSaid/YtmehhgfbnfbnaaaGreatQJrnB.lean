import Derived.Test.YtmehhgfbnfbnaaaGreatQJrnA
import Derived.Test.YtmehhgfbnfbnaaaGreatQTk
import Derived.WalkMore
import Derived.RangeFuncNested
import Derived.RangeFuncBound
import Derived.RangeFuncCalls
import Derived.RangeFuncLeaves
import Derived.Shelf.Abstract
import Derived.OwnWalkIn
import Derived.TacticsInMore
import Derived.LoopNIn
import Derived.LoopIn
import Derived.BigRegionIn
import Derived.RangeFuncBox
import Derived.RangeFuncFrom
import Derived.Shelf.RegionOpen
import Derived.Deep.AppendLies
set_option maxRecDepth 100000
set_option maxHeartbeats 25600000
open List renaming getElem?_set->qaa,getElem?_eq_some_iff->qae,getElem?_eq_getElem->qaf,nil_append->qag
open Nat renaming le_refl->qab,lt_of_lt_of_le->qah,zero_add->qaj
open Go.RowKit.Below renaming heap_setCell->qac,refl->qak
open Go renaming World->qad
open Go.RowKit renaming Below->qai
namespace Go.Proofs.YtmehhgfbnfbnaaaGreat
open Go.RowKit
attribute [local go_sem↓] Go.wp_at_zero Go.wp_at_succ
section
variable {c:Sx}{q:Nat}
def VD(c:Sx)(q cnt:Nat):Prop:=(c.b=Vn q cnt/\q<18446744073709551616/\cnt<65536)\/(c.b=List.replicate 64 0/\q=0/\cnt=0)
theorem VD.seq {cnt:Nat}(h:VD c q cnt):le ((c.b.drop 0).take 8)=q:=by
 rcases h with⟨h1,h2,_⟩|⟨h1,h2,_⟩
 ·rw[h1,Cb q cnt h2]
 ·rw[h1,h2];rfl
theorem VD.cnt {cnt:Nat}(h:VD c q cnt):le ((c.b.drop 8).take 2)=cnt:=by
 rcases h with⟨h1,_,h2⟩|⟨h1,_,h2⟩
 ·rw[h1,Ca q cnt h2]
 ·rw[h1,h2];rfl
theorem VD.lt {cnt:Nat}(h:VD c q cnt):q<18446744073709551616/\cnt<65536:=by
 rcases h with⟨_,h1,h2⟩|⟨_,h1,h2⟩
 ·exact⟨h1,h2⟩
 ·omega
end
section
variable {w:qad}{S T:Nat->Prop}{bj b start n seq:Nat}{k:Dk Sx}
theorem Ro(w:qad)(S:Nat->Prop)(b:Nat)(k:Dk Sx)(h:Zo sx w S b k)(s:Nat)(c:Sx)(hc:k.now[s]? =some c)(hd:k.dead=false):
  Calls Tryz.prog 50 #[.pointer b,s] w fun e w'=>e=.returned (.tuple #[.slice w.heap.size 64 64,()])/\w'.rangeAt w.heap.size 0 (Z7 c.b)/\w.heap.size<w'.heap.size/\qai w.heap.size w w':=by
 refine(Kt w S b k h s c (Z7 c.b) (.int .u16 c.t) hc rfl (by rw[Z5,c.hb]) (YH _) hd).mono ?_
 rintro e w' ⟨rfl,hB,hb⟩
 exact⟨rfl,fun j v hj=>by rw[qaj,hB.cell];exact hj,hB.lt,hb⟩
theorem Lv(hJ:JB w bj b start n seq)(hD:Zo sx w S b k)(rR:3<=n)(hn:n<=4096)(hd:k.dead=false)(c:Sx)(hc:k.now[start]? =some c)(q cnt:Nat)(hh:VD c q cnt)(hr:cnt<=room n):
  Calls Tryz.prog 150 #[.pointer bj] w fun e w'=>e=.returned (.tuple #[.int .u64 q,cnt,()])/\qai w.heap.size w w':=by
 have c0:=hJ.cell 0
 have c1:=hJ.cell 1
 have I4:=χ hJ.lt
 have HJ:=χ hJ
 have HD:=χ hD
 have Hd:=χ hd
 have Hc:=χ hc
 have Hh:=χ hh
 have Hr:=χ hr
 clear hJ hD hd hc hh hr
 go_enter Tryz.func150,Tryz.ntmps150
 go_wp2
 go_region_held3 (fun w':qad=>w'.cell? ⟨bj,0,none⟩=some (.pointer b)/\w'.cell? ⟨bj,1,none⟩=some (.int .i64 start))
  (first|exact⟨c0,c1⟩|assumption)
  (first|(go_at_call 50;(refine(Ro w.drew S b k (HD.out.keep fun _ _=>rfl) start c Hc.out Hd.out).mono ?_);rintro e w1 ⟨rfl,hr1,hlt1,hb1⟩;have HR1:=χ hr1;have cO:=χ hlt1;have HB1:=χ ((qak _ w).drew.trans hb1);have d0:=And.intro ((hb1.cell (p:=⟨bj,0,none⟩) I4.out).trans c0) ((hb1.cell (p:=⟨bj,1,none⟩) I4.out).trans c1);clear hr1 hlt1 hb1))
 clear c0 c1
 have hrd:Rd w1 w1.heap.size (some ⟨w.heap.size,0,none⟩) (Z7 c.b):=.inr ⟨w.heap.size,0,rfl,cO.out,fun j u hu=>HR1.out j u hu⟩
 have hg1:=Mq c.b (some ⟨w.heap.size,0,none⟩) 64 64 w1.heap.size 0 8 w1 c.hb hrd (by omega) (by omega) (by omega) (by omega) (by omega)
 have hg2:=Mq c.b (some ⟨w.heap.size,0,none⟩) 64 64 w1.heap.size 8 2 w1 c.hb hrd (by omega) (by omega) (by omega) (by omega) (by omega)
 rw[Hh.out.seq]at hg1
 rw[Hh.out.cnt]at hg2
 have hq:=Hh.out.lt.1
 have hcn:=Hh.out.lt.2
 have Hrd:=χ hrd
 have G1:=χ hg1
 have G2:=χ hg2
 have hcv:IntKind.i64.wrap (cnt:Int)=(cnt:Int):=by rw[IntKind.wrap_i64];omega
 obtain⟨zl,hzl⟩:∃zl,zl=List.replicate 64 (0:UInt8):=⟨_,rfl⟩
 have xY:zl.length=64:=by rw[hzl];simp
 have hmk:∀u:qad,(Instr.makeSlice 37 (.int .i64 64) (.int .i64 64)).run Tryz.prog u=.ok (.slice u.heap.size 64 64) (u.alloc (.cells (Z7 zl).toArray 5)):=fun u=>by
  rw[hzl];exact YG 64 (by omega) u
 have hBz:qai w.heap.size w (w1.alloc (.cells (Z7 zl).toArray 5)):=HB1.out.alloc HB1.out.size _
 have Hrm:=χ (fun W (hW:qai w.heap.size w W)=>xX W bj b start n seq ((hW.block bj I4.out).trans HJ.out) rR hn)
 have hz:Rd (w1.alloc (.cells (Z7 zl).toArray 5)) (w1.heap.size+1) (some ⟨w1.heap.size,0,none⟩) (Z7 zl):=by
  have h:=(Bk.new w1 5 (Z7 zl)).rd 64 0
  rw[List.drop_zero,List.take_of_length_le (by rw[Z5,xY];exact qab _),qad.size_alloc]at h
  exact h
 have Hz:=χ hz
 have NT:=χ hBz
 have nZ:Hid (Rd (w1.alloc (.cells (Z7 zl).toArray 5)) (w1.heap.size+1) (some ⟨w.heap.size,0,none⟩) (Z7 c.b)):=(Hrd.out.below ((qak _ w1).alloc (qab _) _)).more (by omega)
 have hrr:¬ (room n:Int)<(cnt:Int):=by have:=Hr.out;omega
 have Hzl:=χ hzl
 have rH:=χ xY
 clear hrd hg1 hg2 hBz hz hzl xY
 generalize hZ:(Z7 zl).toArray=Z at*
 clear hZ
 cases hzb:(c.b==zl)
 ·have hcb:c.b=Vn q cnt:=by
   rcases Hh.out with h|h
   ·exact h.1
   ·rw[h.1,Hzl.out]at hzb;simp at hzb
  have Hcb:=χ hcb
  have cK:=χ hzb
  clear hzb hcb
  go_wp2_with fail
  refine G1.out.mono ?_
  rintro e w' ⟨rfl,rfl⟩
  go_wp2_with fail
  refine G2.out.mono ?_
  rintro e w' ⟨rfl,rfl⟩
  go_wp2_with fail
  refine(XJ c.b zl _ _ 64 64 64 64 _ _ _ c.hb rH.out nZ.out Hz.out).mono ?_
  rintro e w' ⟨rfl,rfl⟩
  rw[cK.out]
  go_wp2_with fail
  refine(O4 q cnt hq hcn _).mono ?_
  rintro e w2 ⟨v2,rfl,hM2⟩
  obtain⟨g2,c2,rfl,hc2,hg2,xW,hr2⟩:=O3 hM2 (Ws q cnt) (by omega)
  have cB:Hid (Rd w2 w2.heap.size (some ⟨g2,0,none⟩) (Z7 (Vn q cnt))):=.inr ⟨g2,0,rfl,xW,fun j u hu=>hr2 j u hu⟩
  have HB2:=χ (NT.out.trans (hM2.2.mono NT.out.size))
  have bZ:=χ ((nZ.out.more (by simp)).below hM2.2)
  clear hM2 hr2 hc2 hg2 xW
  go_wp2_with fail
  refine(XJ c.b (Vn q cnt) _ _ 64 64 64 c2 _ _ _ c.hb (Ws q cnt) bZ.out cB.out).mono ?_
  rintro e w' ⟨rfl,rfl⟩
  rw[Hcb.out,beq_self_eq_true]
  go_wp2_with (go_at_call 71;refine(Hrm.out _ HB2.out).mono ?_;rintro e w' ⟨rfl,rfl⟩)
  go_ret3
  exact⟨rfl,HB2.out⟩
 ·have cK:=χ hzb
  clear hzb
  go_wp2_with fail
  refine G1.out.mono ?_
  rintro e w' ⟨rfl,rfl⟩
  go_wp2_with fail
  refine G2.out.mono ?_
  rintro e w' ⟨rfl,rfl⟩
  go_wp2_with fail
  refine(XJ c.b zl _ _ 64 64 64 64 _ _ _ c.hb rH.out nZ.out Hz.out).mono ?_
  rintro e w' ⟨rfl,rfl⟩
  rw[cK.out]
  go_wp2_with (go_at_call 71;refine(Hrm.out _ NT.out).mono ?_;rintro e w' ⟨rfl,rfl⟩)
  go_ret3
  exact⟨rfl,NT.out⟩
end
end Go.Proofs.YtmehhgfbnfbnaaaGreat

namespace Go.Proofs.YtmehhgfbnfbnaaaGreat
open Go.RowKit
attribute [local go_sem↓] Go.wp_at_zero Go.wp_at_succ
def Jw(N:List Sx)(start i:Nat)(p:Nat × Sx):Prop:=
 ∃cl cb,N[start+1+i/15*16]? =some cl/\N[start+1+i/15*16+1+i%15]? =some cb/\le ((cl.b.drop (2*(i%15)*2)).take 2)=p.1/\le ((cl.b.drop ((2*(i%15)+1)*2)).take 2)=p.2.t/\cb.b=p.2.b
def Nc(N:List Sx)(start:Nat)(l:List (Nat × Sx)):Prop:=∀i p,l[i]? =some p->Jw N start i p
section
variable {w:qad}{S T:Nat->Prop}{bj b start n seq:Nat}{k:Dk Sx}
section
variable {w:qad}{n₀ gl j:Nat}{l:List (Nat × Sx)}
theorem Og(hD:Zo sx w S b k)(rR:3<=n)(hn:n<=4096)(hl:k.safe.length<=4096)(hs:start+n<=k.safe.length):
  Calls Tryz.prog 149 #[.pointer b,start,n] w fun e w'=>e=.returned (.int .i64 0)/\w=w':=by
 have HD:=χ hD
 obtain⟨m,hm⟩:∃m,m=k.safe.length:=⟨_,rfl⟩
 rw[<-hm]at hl hs
 have Hm:=χ hm
 have h1:¬ (m:Int)-(n:Int)<(start:Int):=by omega
 clear hD hm
 go_enter Tryz.func149,Tryz.ntmps149
 go_wp2_with (go_at_call 49;refine(SB _ S b k HD.out).mono ?_;rintro e w' ⟨rfl,rfl⟩;rw[<-Hm.out])
 go_ret
 exact⟨rfl,rfl⟩
theorem Jv(hJ:JB w bj b start n seq)(hD:Zo sx w S b k)(hd:k.dead=false)(hs:start<=4096)(i:Nat)(hi:i<=100000)(p:Nat × Sx)(hL:Jw k.now start i p)(hp:p.1<65536):
  Calls Tryz.prog 222 #[.pointer bj,i] w fun e w'=>∃g,e=.returned (.tuple #[.agg #[p.1,.slice (some ⟨g,0,none⟩) 64 64,.int .u16 p.2.t],()])/\
   w.heap.size<=g/\g<w'.heap.size/\w'.rangeAt g 0 (Z7 p.2.b)/\qai w.heap.size w w':=by
 have gL:=(Bk.below hJ ((qak w.heap.size w).alloc (qab _) (.cells #[(),.slice none 0 0,.int .u16 0] 140)) hJ.lt)
 obtain⟨cl,cb,h1,h2,h3,h4,h5⟩:=hL
 obtain⟨s,x⟩:=p
 simp only at h3 h4 h5 hp⊢
 obtain⟨kk,hkk⟩:∃kk,kk=i%15:=⟨_,rfl⟩
 obtain⟨gg,hgg⟩:∃gg,gg=i/15:=⟨_,rfl⟩
 rw[<-hkk]at h2 h3 h4
 rw[<-hgg]at h1 h2
 obtain⟨at_,hat⟩:∃at_,at_=start+1+gg*16:=⟨_,rfl⟩
 have q1:(i:Int)/15=(gg:Int):=by omega
 have q2:(i:Int)%15=(kk:Int):=by omega
 have q3:(start:Int)+1+(gg:Int)*16=(at_:Int):=by omega
 have q4:kk<15:=by omega
 rw[<-hat]at h1 h2
 have q5:at_<=200000:=by omega
 obtain⟨at2,Xv⟩:∃at2,at2=at_+1+kk:=⟨_,rfl⟩
 have q6:(at_:Int)+1+(kk:Int)=(at2:Int):=by omega
 rw[<-Xv]at h2
 have hxt:=x.ht
 obtain⟨t,ht⟩:∃t,t=x.t:=⟨_,rfl⟩
 rw[<-ht]at h4 hxt
 have Hat:=χ Xv
 clear hkk hgg hat Xv
 have c0:=gL.cell 0
 have c1:=gL.cell 1
 have I4:=χ hJ.lt
 have hb0:qai w.heap.size w (w.alloc (.cells #[(),.slice none 0 0,.int .u16 0] 140)):=(qak _ _).alloc (qab _) _
 have HDa:=χ (hD.below hb0)
 have HJa:=χ gL
 have Hb0:=χ hb0
 have hB:=Bk.new w 140 [(),.slice none 0 0,.int .u16 0]
 have HB:=χ hB
 have H1:=χ h1
 have H2:=χ h2
 have H3:=χ h3
 have H4:=χ h4
 have H5:=χ h5
 have Hd:=χ hd
 clear hJ hD hd gL hb0 hB h1 h2 h3 h4 h5
 have q2':(i:Int).tmod 15=(kk:Int):=by rw[Int.tmod_eq_emod_of_nonneg (by omega)];exact q2
 go_enter Tryz.func222,Tryz.ntmps222
 go_wp2_with fail
 refine(Ro _ S b k HDa.out at_ cl H1.out Hd.out).mono ?_
 rintro e w1 ⟨rfl,hr1,hlt1,hb1⟩
 have hsz:(w.alloc (.cells #[(),.slice none 0 0,.int .u16 0] 140)).heap.size=w.heap.size+1:=by simp
 have ltj:bj<(w.alloc (.cells #[(),.slice none 0 0,.int .u16 0] 140)).heap.size:=by have:=I4.out;omega
 have d0:=(hb1.cell (p:=⟨bj,0,none⟩) ltj).trans c0
 have HD1:=χ (HDa.out.below hb1)
 have HB1:Hid (Bk w1 w.heap.size 140 [(),.slice none 0 0,.int .u16 0]):=(hb1.block w.heap.size (by rw[hsz];omega)).trans HB.out
 have HR1:Hid (Rd w1 w1.heap.size (some ⟨w.heap.size+1,0,none⟩) (Z7 cl.b)):=.inr ⟨w.heap.size+1,0,rfl,by rw[<-hsz];exact hlt1,fun j u hu=>by rw[<-hsz];exact hr1 j u hu⟩
 have Hb1:=χ (Hb0.out.trans (hb1.mono Hb0.out.size))
 have hw1:w.heap.size+1<w1.heap.size:=by rw[<-hsz];exact hlt1
 have dz:=χ hw1
 clear hr1 hlt1 hb1 c0 c1 ltj hw1
 go_wp2_with fail
 refine(Ro w1 S b k HD1.out at2 cb H2.out Hd.out).mono ?_
 rintro e w2 ⟨rfl,hr2,hlt2,hb2⟩
 have HB2:Hid (Bk w2 w.heap.size 140 [(),.slice none 0 0,.int .u16 0]):=(hb2.block w.heap.size (by have:=dz.out;omega)).trans HB1.out
 have HR2:=χ ((HR1.out.below hb2).more hb2.size)
 have dx:=χ hr2
 have Hb2:=χ (Hb1.out.trans (hb2.mono Hb1.out.size))
 have dw:=χ hlt2
 have g1:=Mq cl.b (some ⟨w.heap.size+1,0,none⟩) 64 64 w2.heap.size (2*kk*2) 2 w2 cl.hb HR2.out (by omega) (by omega) (by omega) (by omega) (by omega)
 have g2:=Mq cl.b (some ⟨w.heap.size+1,0,none⟩) 64 64 w2.heap.size ((2*kk+1)*2) 2 w2 cl.hb HR2.out (by omega) (by omega) (by omega) (by omega) (by omega)
 rw[H3.out,show((2*kk*2:Nat):Int)=2*(kk:Int)*2 by omega]at g1
 rw[H4.out,show(((2*kk+1)*2:Nat):Int)=(2*(kk:Int)+1)*2 by omega]at g2
 have G1:=χ g1
 have G2:=χ g2
 have b0:=HB2.out.cell 0
 have b1:=HB2.out.cell 1
 have b2:=HB2.out.cell 2
 have f0:=HB2.out.frozen 0
 have f1:=HB2.out.frozen 1
 have f2:=HB2.out.frozen 2
 have e1:IntKind.i64.wrap (s:Int)=(s:Int):=by rw[IntKind.wrap_i64];omega
 have e2:IntKind.u16.wrap (t:Int)=(t:Int):=by rw[IntKind.wrap_u16];omega
 clear hr2 hlt2 hb2 g1 g2 d0
 go_wp2_with fail
 refine G1.out.mono ?_
 rintro e w' ⟨rfl,rfl⟩
 go_wp2_with fail
 refine G2.out.mono ?_
 rintro e w' ⟨rfl,rfl⟩
 go_wp2_with fail
 refine bodyPost_ret (v:=.tuple #[.agg #[s,.slice w1.heap.size 64 64,.int .u16 x.t],()]) (by simp[results,Tryz.results222,go_sem,b0,b1,b2]) rfl ⟨w1.heap.size,rfl,by have:=dz.out;omega,by simp;exact dw.out,?_,?_⟩
 ·rw[<-H5.out]
  have hg:w1.heap.size≠w.heap.size:=by have:=dz.out;omega
  refine ZL dx.out ?_
  exact((qac _ _ _ _ hg).trans (qac _ _ _ _ hg)).trans (qac _ _ _ _ hg)
 ·exact((Hb2.out.setCell (p:=⟨w.heap.size,0,none⟩) (qab _) _).setCell (p:=⟨w.heap.size,1,none⟩) (qab _) _).setCell (p:=⟨w.heap.size,2,none⟩) (qab _) _
def xZ(w:qad)(n₀ gl j:Nat)(l:List (Nat × Sx)):Prop:=
 ∃cs:List Value,Bk w gl 140 cs/\cs.length=l.length*3/\∀(i:Nat)(p:Nat × Sx),i<j->l[i]? =some p->∃ba,n₀<=ba/\ba≠gl/\ba<w.heap.size/\cs[i*3]? =some (.int .i64 p.1)/\cs[i*3+1]? =some (.slice (some ⟨ba,0,none⟩) 64 64)/\cs[i*3+2]? =some (.int .u16 p.2.t)/\w.rangeAt ba 0 (Z7 p.2.b)
theorem xZ.below {w':qad}(h:xZ w n₀ gl j l)(hb:qai w.heap.size w w'):xZ w' n₀ gl j l:=by
 obtain⟨cs,h1,h2,h3⟩:=h
 exact⟨cs,(hb.block gl h1.lt).trans h1,h2,fun i p hi hp=>by
  obtain⟨ba,e1,e2,e3,e4,e5,e6,e7⟩:=h3 i p hi hp
  exact⟨ba,e1,e2,qah e3 hb.size,e4,e5,e6,ZL e7 (hb.block ba e3)⟩⟩
theorem xZ.set (h:xZ w n₀ gl j l)(p:Nat × Sx)(hp:l[j]? =some p)(ba:Nat)(h1:n₀<=ba)(h2:ba≠gl)(h3:ba<w.heap.size)(h4:w.rangeAt ba 0 (Z7 p.2.b)):
  xZ (((w.setCell ⟨gl,j*3,none⟩ (.int .i64 p.1)).setCell ⟨gl,j*3+1,none⟩ (.slice ba 64 64)).setCell ⟨gl,j*3+2,none⟩ (.int .u16 p.2.t)) n₀ gl (j+1) l:=by
 obtain⟨cs,e1,e2,e3⟩:=h
 have hj:=(qae.1 hp).1
 have hkeep:∀b,b≠gl->(((w.setCell ⟨gl,j*3,none⟩ (.int .i64 p.1)).setCell ⟨gl,j*3+1,none⟩ (.slice ba 64 64)).setCell ⟨gl,j*3+2,none⟩ (.int .u16 p.2.t)).heap[b]? =w.heap[b]? :=fun b hb=>
  ((qac _ _ _ _ hb).trans (qac _ _ _ _ hb)).trans (qac _ _ _ _ hb)
 refine⟨_,((e1.set (j*3) _).set (j*3+1) _).set (j*3+2) _,by simpa using e2,fun i q hi hq=>?_⟩
 by_cases hij:i=j
 ·subst hij
  rw[hp]at hq
  cases hq
  refine⟨ba,h1,h2,by simpa using h3,?_,?_,?_,ZL h4 (hkeep ba h2)⟩
  ·rw[qaa,if_neg (by omega),qaa,if_neg (by omega),qaa,if_pos rfl,if_pos (by omega)]
  ·rw[qaa,if_neg (by omega),qaa,if_pos rfl,if_pos (by simp;omega)]
  ·rw[qaa,if_pos rfl,if_pos (by simp;omega)]
 ·obtain⟨b2,f1,f2,f3,f4,f5,f6,f7⟩:=e3 i q (by omega) hq
  refine⟨b2,f1,f2,by simpa using f3,?_,?_,?_,ZL f7 (hkeep b2 f2)⟩
  ·rw[qaa,if_neg (by omega),qaa,if_neg (by omega),qaa,if_neg (by omega)];exact f4
  ·rw[qaa,if_neg (by omega),qaa,if_neg (by omega),qaa,if_neg (by omega)];exact f5
  ·rw[qaa,if_neg (by omega),qaa,if_neg (by omega),qaa,if_neg (by omega)];exact f6
theorem xZ.dn (h:xZ w n₀ gl l.length l)(hg:n₀<=gl):Sa w (fun i=>n₀<=i) (some ⟨gl,0,none⟩) (ints l):=fun i p hp=>by
 rw[ints,List.getElem?_map,Option.map_eq_some_iff]at hp
 obtain⟨q,hq,rfl⟩:=hp
 obtain⟨cs,e1,e2,e3⟩:=h
 obtain⟨ba,f1,f2,f3,f4,f5,f6,f7⟩:=e3 i q (qae.1 hq).1 hq
 exact⟨gl,0,ba,0,64,rfl,hg,f1,e1.lt,f3,qab _,by rw[qaj,e1.cell];exact f4,by rw[qaj,e1.cell];exact f5,by rw[qaj,e1.cell];exact f6,f7⟩
theorem um:(Tryz.prog.info? 140).map (fun i=>(i.zero,i.size,i.bytes))=some (some (.agg #[(),.slice none 0 0,.int .u16 0]),3,40):=by kernel_rfl
theorem Ce(n:Nat)(h:n<=65536)(u:qad):∃cs:List Value,cs.length=n*3/\(Instr.makeSlice 137 (.int .i64 n) (.int .i64 n)).run Tryz.prog u=
  .ok (.slice u.heap.size n n) (u.alloc (.cells cs.toArray 140)):=by
 obtain⟨i0,hi,hz0,hz1,hz2⟩:=info_parts um
 have hr:=run_make (P:=Tryz.prog) u 137 140 i0 _ Tryz.underlying137 hi hz0 .i64 .i64 (n:Int) (n:Int) (by omega) (Int.le_refl _) (by rw[hz2];omega) (by omega)
 refine⟨(madeCells (Value.agg #[(),.slice none 0 0,.int .u16 0]).cells (n*i0.size)).toList,by simp[madeCells,hz1],?_⟩
 simp only[Int.toNat_natCast]at hr
 rw[hr]
theorem Cf(hJ:JB w bj b start n seq)(hD:Zo sx w S b k)(hd:k.dead=false)(hs:start<=4096)(hn:n<=4096)(l:List (Nat × Sx))(m:Nat)(hm:l.length=m)(hmm:m<=4096)(hL:Nc k.now start l)(hp:∀p∈l,p.1<65536/\Ux k.safe.length start n (p.1:Int)=true):
  Calls Tryz.prog 151 #[.pointer bj,m] w fun e w'=>∃g,e=.returned (.tuple #[.slice (some ⟨g,0,none⟩) m m,()])/\Sa w' (fun i=>w.heap.size<=i) (some ⟨g,0,none⟩) (ints l)/\qai w.heap.size w w':=by
 have I4:=χ hJ.lt
 have H1:=χ (fun W (hW:qai w.heap.size w W) (i:Nat) (hi:i<=100000) p hp' hq=>Jv (i:=i) (p:=p) (hJ.below hW hJ.lt) (hD.below hW) hd hs hi hp' hq)
 have H2:=χ (fun W (hW:qai w.heap.size w W) (s:Int)=>Cc W S bj b start n seq k (hJ.below hW hJ.lt) (hD.below hW) hs hn s)
 have HL:=χ hL
 have Hp:=χ hp
 have Hm:=χ hm
 clear hJ hD hd hL hp hm
 obtain⟨cs,hcl,hmk⟩:=Ce m (by omega) w
 go_enter Tryz.func151,Tryz.ntmps151
 have hb0:qai w.heap.size w (w.alloc (.cells cs.toArray 140)):=(qak _ _).alloc (qab _) _
 have Hb0:=χ hb0
 have HG0:Hid (xZ (w.alloc (.cells cs.toArray 140)) w.heap.size w.heap.size 0 l):=⟨cs,Bk.new w 140 cs,by rw[hcl,Hm.out],fun i p hi _=>absurd hi (Nat.not_lt_zero _)⟩
 clear hb0 hcl
 go_wp2
 go_step3
 go_wp2
 go_loopw [6,8,13] (fun _ _ i wr=>∃j:Nat,j<=m/\i=.int .i64 j/\xZ wr w.heap.size w.heap.size j l/\qai w.heap.size w wr/\w.heap.size<wr.heap.size) (fun _ _ i _=>m-(intOf i).toNat)
 case atStart=>exact⟨0,Nat.zero_le _,rfl,HG0.out,Hb0.out,by simp⟩
 case round=>
  obtain⟨j,hj,rfl,hG,hB,jK⟩:=hrel
  have HG:=χ hG
  have HB:=χ hB
  clear hG hB
  by_cases hlt:j<m
  ·obtain⟨p,hp⟩:∃p,l[j]? =some p:=⟨_,qaf (by rw[Hm.out];exact hlt)⟩
   have Hpj:=χ hp
   have hpv:=Hp.out p (List.mem_of_getElem? hp)
   have h1:=H1.out wr HB.out j (by omega) p (HL.out j p hp) hpv.1
   have htk:=χ hpv.2
   have jJ:=χ jK
   have hnext:=χ (fun W ba (hW:xZ W w.heap.size w.heap.size j l)=>hW.set p hp ba)
   obtain⟨s,x⟩:=p
   simp only at h1 htk hnext
   obtain⟨t,ht⟩:∃t:Int,t=x.t:=⟨_,rfl⟩
   rw[<-ht]at h1 hnext
   have H1':=χ h1
   clear hp hpv h1 jK ht
   go_wp2_with fail
   refine H1'.out.mono ?_
   rintro e w1 ⟨ba,rfl,dm,jI,hr,hb1⟩
   have hne:ba≠w.heap.size:=by have:=jJ.out;omega
   obtain⟨cs1,f1,f2,f3⟩:=HG.out.below hb1
   have lL:=χ (HG.out.below hb1)
   have hjl:j*3+2<cs1.length:=by rw[f2,Hm.out];omega
   have z0:∃u,w1.cell? ⟨w.heap.size,j*3,none⟩=some u:=⟨_,(f1.cell (j*3)).trans (qaf (by omega))⟩
   have z1:∃u,w1.cell? ⟨w.heap.size,j*3+1,none⟩=some u:=⟨_,(f1.cell (j*3+1)).trans (qaf (by omega))⟩
   have z2:∃u,w1.cell? ⟨w.heap.size,j*3+2,none⟩=some u:=⟨_,(f1.cell (j*3+2)).trans (qaf (by omega))⟩
   obtain⟨u0,z0⟩:=z0
   obtain⟨u1,z1⟩:=z1
   obtain⟨u2,z2⟩:=z2
   have fz0:=f1.frozen (j*3)
   have fz1:=f1.frozen (j*3+1)
   have fz2:=f1.frozen (j*3+2)
   have jH:=hnext.out w1 ba lL.out (by have:=HB.out.size;omega) hne jI hr
   have HB1:=χ ((((HB.out.trans (hb1.mono HB.out.size)).setCell (p:=⟨w.heap.size,j*3,none⟩) (qab _) (.int .i64 s)).setCell (p:=⟨w.heap.size,j*3+1,none⟩) (qab _) (.slice ba 64 64)).setCell (p:=⟨w.heap.size,j*3+2,none⟩) (qab _) (.int .u16 t))
   have HG2:=χ jH
   have hc3:(((w1.setCell ⟨w.heap.size,j*3,none⟩ (.int .i64 s)).setCell ⟨w.heap.size,j*3+1,none⟩ (.slice ba 64 64)).setCell ⟨w.heap.size,j*3+2,none⟩ (.int .u16 t)).cell? ⟨w.heap.size,j*3,none⟩=some (.int .i64 s):=by
    rw[(((f1.set (j*3) _).set (j*3+1) _).set (j*3+2) _).cell,qaa,if_neg (by omega),qaa,if_neg (by omega),qaa,if_pos rfl,if_pos (by omega)]
   have di:w.heap.size<w1.heap.size:=qah jJ.out hb1.size
   clear f1 f2 f3 hjl hr hb1 jH dm jI hne
   go_wp2_with fail
   refine(H2.out _ HB1.out (s:Int)).mono ?_
   rintro e w2 ⟨rfl,hb2⟩
   rw[htk.out]
   have dh:=χ (HG2.out.below hb2)
   have HB3:=χ (HB1.out.trans (hb2.mono HB1.out.size))
   have cZ:w.heap.size<w2.heap.size:=qah (by simpa using di) hb2.size
   clear hb2
   go_wp2
   go_roundw
   case rel=>exact⟨j+1,by omega,by go_num,dh.out,HB3.out,cZ⟩
   case measure=>simp[intOf];omega
  ·obtain rfl:j=m:=by omega
   go_wp2
   rw[Exit.noGoto_ret]
   go_ret2
   refine⟨w.heap.size,rfl,?_,HB.out⟩
   have h:=HG.out
   rw[<-Hm.out]at h
   exact h.dn (qab _)
end
end
end Go.Proofs.YtmehhgfbnfbnaaaGreat

namespace Go.Proofs.YtmehhgfbnfbnaaaGreat
open Go.RowKit Go.Shelf
attribute [local go_sem] Oper.semAt_some
section
variable {B1 B2:Nat}{A B:qad}
def Two(B1 B2:Nat)(W W':qad):Prop:=W'.heap[B1]? =W.heap[B1]?/\W'.heap[B2]? =W.heap[B2]?
theorem Two.refl (B1 B2:Nat)(W:qad):Two B1 B2 W W:=⟨rfl,rfl⟩
theorem Two.trans {C:qad}(h:Two B1 B2 A B)(k:Two B1 B2 B C):Two B1 B2 A C:=⟨k.1.trans h.1,k.2.trans h.2⟩
theorem Two.drew (h:Two B1 B2 A B):Two B1 B2 A B.drew:=h
theorem Two.one (h:Two B1 B2 A B):B.cell? ⟨B1,0,none⟩=A.cell? ⟨B1,0,none⟩:=qad.cell?_of_block (a:=⟨B1,0,none⟩) h.1
theorem Two.two (h:Two B1 B2 A B):B.cell? ⟨B2,0,none⟩=A.cell? ⟨B2,0,none⟩:=qad.cell?_of_block (a:=⟨B2,0,none⟩) h.2
theorem Two.below {B:Nat}{W W':qad}(h:qai B W W')(h1:B1<B)(h2:B2<B):Two B1 B2 W W':=⟨h.block B1 h1,h.block B2 h2⟩
end
end Go.Proofs.YtmehhgfbnfbnaaaGreat

namespace Go.Proofs.YtmehhgfbnfbnaaaGreat
open Go.RowKit Go.Shelf
attribute [local go_sem] Oper.semAt_some
section
variable {u:Value}
theorem Ui{W3 W:qad}{k:Nat}{t:TypeId}(h:W.heap[k]? =W3.heap[k]?)(hb:Boxed W3 k t u):k<W.heap.size:=(Array.getElem?_eq_some_iff.1 (h.trans hb)).1
theorem Yq{F:Fence}{n:Nat}{P:Program}{w w':qad}{ops:Array Oper}{rest:List Oper}{o:Oper}{a:Act}{Q:Exit->Act->qad->Prop}(hg:o.guard=none)(s x:Operand)(t:TypeId)(hop:o.op=Op.call {callee:=Callee.builtin Builtin.append,args:=#[s,x],argTypes:=#[t,t]}){v r:Value}(hs:a.eval s=v)(hx:a.eval x=u)(hrun:(Builtin.append_ #[t,t] o.type #[v,u]).run P w=.ok r w')(h:wpListIn F n P ops Q rest (a.put o.dst r) w'):
  wpListIn F n P ops Q (o::rest) a w:=by
 refine wpListIn_plain hg fun K hK'=>?_
 unfold Oper.wpIn
 refine⟨?_,?_⟩
 ·simp[Oper.about,hop,resolve,Target.leads,Sem.run_pure]
 ·rw[Oper.semAt_plain F _ _ (by rw[hop];intro c hc';cases hc')]
  simp[execOp,hop,resolve,invoke,builtin,hs,hx,hrun,Result.andThen]
  exact hK' _ _ h
end
section
variable {w:qad}{T:Nat->Prop}{bj b start n seq:Nat}{b0 o0:Nat}{g:List (Nat × Sx)}
end
end Go.Proofs.YtmehhgfbnfbnaaaGreat

namespace Go.Proofs.YtmehhgfbnfbnaaaGreat
open Go.RowKit
attribute [local go_sem↓] Go.wp_at_zero Go.wp_at_succ
section
variable {w:qad}{S T:Nat->Prop}{bj b start n seq:Nat}{k:Dk Sx}{A:Option Addr}
section
variable {w0 w w':qad}{S0 S T:Nat->Prop}{bj b start n seq:Nat}{k k':Dk Sx}{A:Option Addr}{l:List (Nat × Sx)}
theorem Jy{m start n s:Nat}(h:Ux m start n (s:Int)=true):s<m/\(s<start\/start+n<=s):=by
 simp only[Ux,Bool.and_eq_true,Bool.or_eq_true,decide_eq_true_eq]at h
 omega
end
end
end Go.Proofs.YtmehhgfbnfbnaaaGreat

namespace Go.Proofs.YtmehhgfbnfbnaaaGreat
open Go.RowKit
attribute [local go_sem↓] Go.wp_at_zero Go.wp_at_succ
def jO(v0 v1 v2:Value)(R:Int->qad->Prop)(a:Act)(w:qad):Prop:=
 ∃(e:Int)(u3 u4 u5 u6 u7 u8 u9 QB QK Mt lX lW u16 lV lU lT u20 u21 u22 u23 u24 u25 u26 u27 u28 u29 u30 u31 u32 u33 u34 u35 u36 u37 u38 u39 u40 u41 u42 u43 u44 u45 u46 u47 u48 u49 u50 u51 u52 u53 u54 u55 u56 u57:Value),a={tmps:=#[v0,v1,v2,u3,u4,u5,u6,u7,u8,u9,QB,QK,.int .i64 e,Mt,lX,lW,u16,lV,lU,lT,u20,u21,u22,u23,u24,u25,u26,u27,u28,u29,u30,u31,u32,u33,u34,u35,u36,u37,u38,u39,u40,u41,u42,u43,u44,u45,u46,u47,u48,u49,u50,u51,u52,u53,u54,u55,u56,u57],defers:=[]}/\R e w
def Dk.opened (k:Dk Sx)(start q:Nat)(l:List (Nat × Sx)):Int × Dk Sx:=if l=[]then(0,k)else k.finish start q l
section
variable {w:qad}{S:Nat->Prop}{b start n:Nat}{k:Dk Sx}
def jN(S:Nat->Prop)(w:qad)(b start n q m:Nat)(c:Int × Dk Sx)(v:Value)(w':qad):Prop:=
 (c.1=0/\∃bj,v=.tuple #[.pointer (some ⟨bj,0,none⟩),m,()]/\w.heap.size<=bj/\Kept S w w'/\∃S',Zo sx w' S' b c.2/\(∀i,S' i->S i\/w.heap.size<=i)/\JB w' bj b start n q/\¬ S' bj)\/
 (c.1≠0/\v=.tuple #[.pointer none,(),c.1]/\Turned sx S w w' b c.2)
theorem Du(hD:Zo sx w S b k)(hd:k.dead=false)(hs:start<=4096)(rR:3<=n)(hn:n<=4096)(hsn:start+n<=k.safe.length)(hlen:k.safe.length<=4096)(hun:k.un.length<=100000)(c:Sx)(hc:k.now[start]? =some c)(q:Nat)(l:List (Nat × Sx))(m:Nat)(hm:l.length=m)(hh:VD c q m)(hr:m<=room n)
  (hL:Nc k.now start l)(hp:∀p∈l,Ux k.safe.length start n (p.1:Int)=true):
  Calls Tryz.prog 80 #[.pointer b,start,n] w fun e w'=>∃v,e=.returned v/\jN S w b start n q m (k.opened start q l) v w':=by
 have oW:m<=4096:=by unfold room at hr;omega
 have KT:=hh.lt.1
 have HD:=χ hD
 have Hd:=χ hd
 have Hc:=χ hc
 have Hh:=χ hh
 have HL:=χ hL
 have Hp:=χ hp
 have Hm:=χ hm
 have Hsn:=χ hsn
 have Hlen:=χ hlen
 have wF:=χ hun
 have dC:=χ (Og hD rR hn hlen hsn)
 generalize hcc:k.opened start q l=cc
 have jM:=χ hcc
 clear hD hd hc hh hL hp hm hsn hlen hun hcc
 have e1:(w.alloc (.cells #[.pointer b,start,n,.int .u64 0] 194)).heap.size=w.heap.size+1:=by simp
 have hB0:=Bk.new w 194 [.pointer b,start,n,.int .u64 0]
 have hJ0:JB (w.alloc (.cells #[.pointer b,start,n,.int .u64 0] 194)) w.heap.size b start n 0:=hB0
 have hb0:qai w.heap.size w (w.alloc (.cells #[.pointer b,start,n,.int .u64 0] 194)):=(qak _ _).alloc (qab _) _
 have HB0:=χ hB0
 have HJ0:=χ hJ0
 have Hb0:=χ hb0
 have E1:=χ e1
 clear hB0 hJ0 hb0 e1
 go_enter Tryz.func80,Tryz.ntmps80
 go_wp2
 refine UQ 0 0 (fun _ _=>False) (jO (.pointer b) (.int .i64 start) (.int .i64 n) (fun e w'=>jN S w b start n q m cc (.tuple #[.pointer none,(),e]) w')) (fun _ _=>0) rfl rfl ?_ (fun _ _ h=>h.elim) ?_
 ·go_wp2_with (go_at_call 149;refine dC.out.mono ?_;rintro e w' ⟨rfl,rfl⟩)
  refine(Lv HJ0.out (HD.out.below Hb0.out) rR hn Hd.out c Hc.out q m Hh.out hr).mono ?_
  rintro e w1 ⟨rfl,hb1⟩
  have rM:JB w1 w.heap.size b start n 0:=(hb1.block w.heap.size (by rw[E1.out];exact Nat.lt_succ_self _)).trans HJ0.out
  have cz:=rM.cell 3
  have fz:=rM.frozen 3
  have hBel:qai w.heap.size w (w1.setCell ⟨w.heap.size,3,none⟩ (.int .u64 q)):=(Hb0.out.trans (hb1.mono Hb0.out.size)).setCell (p:=⟨w.heap.size,3,none⟩) (qab _) _
  have hJ2:JB (w1.setCell ⟨w.heap.size,3,none⟩ (.int .u64 q)) w.heap.size b start n q:=rM.set 3 _
  obtain⟨w2,hw2⟩:∃w2,w2=w1.setCell ⟨w.heap.size,3,none⟩ (.int .u64 q):=⟨_,rfl⟩
  rw[<-hw2]at hBel hJ2
  have c2:=hJ2.cell 3
  have HB2:=χ hBel
  have HJ2:=χ hJ2
  have HW2:=χ hw2
  have kr:¬ S w.heap.size:=fun h=>by have:=HD.out.lt h;omega
  have gN:=χ kr
  clear hb1 rM hBel hJ2 hw2 kr
  by_cases hm0:m=0
  ·subst hm0
   clear c2
   go_wp2
   rw[TZ]
   go_ret3
   refine⟨_,rfl,.inl ?_⟩
   have hl:l=[]:=List.eq_nil_of_length_eq_zero Hm.out
   have hcc:cc=(0,k):=by rw[<-jM.out,Dk.opened,if_pos hl]
   rw[hcc,<-HW2.out]
   exact⟨rfl,w.heap.size,rfl,qab _,Kept.of_below HB2.out,S,HD.out.below HB2.out,fun i hi=>.inl hi,HJ2.out,gN.out⟩
  ·have hmb:((m:Int)==0)=false:=beq_eq_false_iff_ne.2 (by omega)
   have Hl:=χ (Cf (S:=S) (k:=k) HJ2.out (HD.out.below HB2.out) Hd.out hs hn l m Hm.out oW HL.out (fun p hp=>⟨by have:=(Jy (Hp.out p hp)).1;have:=Hlen.out;omega,Hp.out p hp⟩))
   go_wp2_with fail
   rw[<-HW2.out]
   refine Hl.out.mono ?_
   rintro e w3 ⟨gl,rfl,hP3,hb3⟩
   have hJ3:JB w3 w.heap.size b start n q:=(hb3.block _ HJ2.out.lt).trans HJ2.out
   have hD3:Zo sx w3 S b k:=(HD.out.below HB2.out).below hb3
   have jL:Sa w3 (fun i=>¬ S i) (some ⟨gl,0,none⟩) (ints l):=hP3.more fun i _ hi hs=>by have hi':w2.heap.size<=i:=hi;have:=HD.out.lt hs;have:=HB2.out.size;omega
   have Hb3:=χ (HB2.out.trans (hb3.mono HB2.out.size))
   have gM:=χ hJ3
   have HD3:=χ hD3
   have HP3:=χ jL
   have c3:=hJ3.cell 3
   clear hP3 hb3 hJ3 hD3 jL c2
   go_wp2_with fail
   refine(Gm (start:=start) gM.out HD3.out gN.out HP3.out (fun t ht=>ht) m m Hm.out (fun p hp=>(Jy (Hp.out p hp)).1) (by have:=Hsn.out;omega) (by have:=wF.out;omega) q KT).mono ?_
   rintro e w4 ⟨rfl,rV⟩
   have hcc:cc=k.finish start q l:=by rw[<-jM.out,Dk.opened,if_neg (fun h=>hm0 (by rw[<-Hm.out,h];rfl))]
   rw[<-hcc]at rV⊢
   have rJ:Turned sx S w w4 b cc.2:=Turned.trans (Kept.of_below Hb3.out) (fun t ht=>.inl ht) rV
   have hJ4:JB w4 w.heap.size b start n q:=(rV.1.block _ gM.out.lt gN.out).trans gM.out
   have R9:Hid (∃S',Zo sx w4 S' b cc.2/\(∀i,S' i->S i\/w.heap.size<=i)/\¬ S' w.heap.size):=by
    obtain⟨_,S',hD',hS'⟩:=rV
    refine⟨S',hD',fun i hi=>(hS' i hi).elim .inl fun h=>.inr (Nat.le_trans Hb3.out.size h),fun h=>?_⟩
    rcases hS' _ h with h1|h1
    ·exact gN.out h1
    ·have:=gM.out.lt;omega
   have dB:=χ rJ
   have HJ4:=χ hJ4
   clear rV rJ hJ4 hcc c3
   obtain⟨x,k4⟩:=cc
   simp only at dB R9⊢
   by_cases hx:x=0
   ·subst hx
    go_wp2
    rw[TZ]
    go_ret3
    refine⟨_,rfl,.inl ⟨rfl,w.heap.size,rfl,qab _,dB.out.1,?_⟩⟩
    obtain⟨S',hD',hS',hn'⟩:=R9.out
    exact⟨S',hD',hS',HJ4.out,hn'⟩
   ·have hbb:(x != 0)=true:=by simp[hx]
    go_wp2
    go_step3
    exact .inr ⟨rfl,_,_,_,_,_,_,_,_,_,_,_,_,_,_,_,_,_,_,_,_,_,_,_,_,_,_,_,_,_,_,_,_,_,_,_,_,_,_,_,_,_,_,_,_,_,_,_,_,_,_,_,_,_,_,_,rfl,.inr ⟨hx,rfl,dB.out⟩⟩
 ·rintro a w1 ⟨e,u3,u4,u5,u6,u7,u8,u9,QB,QK,Mt,lX,lW,u16,lV,lU,lT,u20,u21,u22,u23,u24,u25,u26,u27,u28,u29,u30,u31,u32,u33,u34,u35,u36,u37,u38,u39,u40,u41,u42,u43,u44,u45,u46,u47,u48,u49,u50,u51,u52,u53,u54,u55,u56,u57,rfl,hR⟩
  go_wp2
  rw[TZ]
  go_ret3
  exact⟨_,rfl,hR⟩
end
end Go.Proofs.YtmehhgfbnfbnaaaGreat

namespace Go.Proofs.YtmehhgfbnfbnaaaGreat.Tq
open Go.Proofs.YtmehhgfbnfbnaaaGreat
open Go.RowKit
section
variable {α:Type}
section
variable {l:List (Nat × α)}
theorem Gn:∀{L L':List α}{s:Nat},L.length=L'.length->(∃p∈l,p.1=s)->(puts L l)[s]? =(puts L' l)[s]? :=by
 induction l with
 |nil=>rintro L L' s _ ⟨p,hp,_⟩;cases hp
 |cons p l ih=>
  intro L L' s hl h
  rw[X8,X8]
  by_cases hs:∃q∈l,q.1=s
  ·exact ih (by simp[hl]) hs
  ·have hn:∀q∈l,q.1≠s:=fun q hq e=>hs ⟨q,hq,e⟩
   rw[Xk hn,Xk hn]
   obtain⟨q,hq,e⟩:=h
   rcases List.mem_cons.1 hq with rfl|hq
   ·subst e
    rw[qaa,qaa,if_pos rfl,if_pos rfl,hl]
   ·exact absurd e (hn q hq)
theorem O7{L:List α}{sub:List (Nat × α)}(h:∀p∈sub,p∈l):puts (puts L sub) l=puts L l:=by
 apply List.ext_getElem?
 intro s
 by_cases hs:∃q∈l,q.1=s
 ·exact Gn (XV _ _) hs
 ·have hn:∀q∈l,q.1≠s:=fun q hq e=>hs ⟨q,hq,e⟩
  rw[Xk hn,Xk hn,Xk fun q hq=>hn q (h q hq)]
theorem yg(L:List α)(s:Nat)(x:α):puts L [(s,x)]=L.set s x:=rfl
theorem O6{s:Nat}{x:α}:∀{sub:List (Nat × α)}{L:List α},(∀p∈sub,p=(s,x))->sub=[]/\puts L sub=L\/puts L sub=L.set s x
 |[],L,_=>.inl ⟨rfl,rfl⟩
 |p::r,L,h=>by
  right
  rw[X8,h p (List.mem_cons_self ..)]
  rcases O6 (sub:=r) (L:=L.set s x) fun q hq=>h q (List.mem_cons_of_mem _ hq)with⟨_,h1⟩|h1
  ·exact h1
  ·rw[h1,List.set_set]
theorem Vd(l:List (Nat × α)):∀k:Dk α,k.dead=false->
  ((k.writes l).1=0/\(k.writes l).2.safe=puts k.now l/\(k.writes l).2.un=[]/\(k.writes l).2.dead=false/\(k.writes l).2.cut=k.cut)\/
  (k.cut=true/\(k.writes l).1=6/\(k.writes l).2.dead=true/\(k.writes l).2.safe=k.safe/\∃m,(k.writes l).2.un=k.un++l.take m):=by
 induction l with
 |nil=>
  intro k hd
  unfold Dk.writes
  cases ho:k.off
  ·left
   simp[Dk.flush,ho,Dk.op,WN,hd]
  ·right
   have hc:k.cut=true:=by
    simp[Dk.off,hd]at ho;exact ho.1
   simp[Dk.flush,ho,Dk.op,hc]
 |cons p l ih=>
  intro k hd
  unfold Dk.writes
  cases ho:k.off
  ·have hw:(k.wrote p.1 p.2).dead=false:=by simp[Dk.wrote,Dk.op,ho,hd]
   have hcut:(k.wrote p.1 p.2).cut=k.cut:=by simp[Dk.wrote,Dk.op,ho]
   have MF:(k.wrote p.1 p.2).now=puts k.now [p]:=by
    rw[Dk.now,Dk.Wi,Dk.Uy,VQ];rfl
   rcases ih (k.wrote p.1 p.2) hw with⟨h1,h2,h3,h4,h5⟩|⟨h1,h2,h3,h4,m,h5⟩
   ·left
    simp only[Bool.false_eq_true,if_false]
    refine⟨h1,?_,h3,h4,h5.trans hcut⟩
    rw[h2,MF,X8,WN,X8]
   ·right
    simp only[Bool.false_eq_true,if_false]
    refine⟨hcut▸h1,h2,h3,h4.trans (Dk.Wi _ _ _),m+1,?_⟩
    rw[h5,Dk.Uy,List.take_succ_cons,List.append_assoc];rfl
  ·right
   have hc:k.cut=true:=by
    simp[Dk.off,hd]at ho;exact ho.1
   simp only[if_true]
   refine⟨hc,trivial,?_,Dk.UZ k,0,?_⟩
   ·simp[Dk.op,ho]
   ·simp[Dk.QV]
theorem O5(k:Dk α)(t:Nat):∃sub,(∀p∈sub,p∈k.un)/\(k.JC t).safe=puts k.safe sub/\(k.JC t).un=[]/\(k.JC t).dead=false/\(k.JC t).cut=false:=
 ⟨kept t 0 k.un,JA,rfl,rfl,rfl,rfl⟩
theorem Rx{k:Dk α}(h:k.un=[]):k.now=k.safe:=by rw[Dk.now,h,WN]
end
end
section
variable {n F T q i:Nat}{S S':List Sx}{l sub:List (Nat × Sx)}{k:Dk Sx}
structure l7(F n T:Nat):Prop where
 lo:1<=n
 hi:F+n<=T
 small:T<=65535
def Out(F n i:Nat):Prop:=i<F\/F+n<=i
def oh(F n T:Nat)(l:List (Nat × Sx)):Prop:=∀p∈l,Out F n p.1/\p.1<T
def vw(F n:Nat)(S:List Sx)(i:Nat):Option Sx:=if i<F\/F+n<=i then S[i]? else none
theorem og(h:∀i,Out F n i->S'[i]? =S[i]?):vw F n S'=vw F n S:=by
 funext i
 unfold vw
 split
 ·exact h i (by assumption)
 ·rfl
theorem zV(h:Out F n i):vw F n S i=S[i]? :=if_pos h
theorem yf(hn:1<=n)(S:List Sx)(x:Sx):vw F n (S.set F x)=vw F n S:=og fun i hi=>by
 rw[qaa,if_neg (by rintro rfl;rcases hi with hi|hi<;>omega)]
structure Fq(F n T:Nat)(S:List Sx)(q:Nat)(l:List (Nat × Sx)):Prop where
 len:S.length=T
 head:∃c,S[F]? =some c/\VD c q l.length
 loads:Nc S F l
 val:oh F n T l
 room:(stored l).length+1<=n
theorem Lx(q m:Nat)(hq:q<18446744073709551616)(hm:m<65536):VD (Uk q m) q m:=.inl ⟨rfl,hq,hm⟩
theorem Ch(h:Nc S F l)(hr:(stored l).length+1<=n)(hs:∀i,F+1<=i->i<F+n->S'[i]? =S[i]?):Nc S' F l:=fun i p hp=>by
 obtain⟨cl,cb,h1,h2,h3⟩:=h i p hp
 obtain⟨g1,g2⟩:=Cg l i p hp
 have l1:=(qae.1 g1).1
 have l2:=(qae.1 g2).1
 exact⟨cl,cb,(hs _ (by omega) (by omega)).trans h1,(hs _ (by omega) (by omega)).trans h2,h3⟩
theorem NH(F:Nat)(S:List Sx):Nc S F []:=fun i p h=>by simp at h
theorem ED(h:oh F n T sub)(hi:F<=i)(h2:i<F+n):(puts S sub)[i]? =S[i]? :=Xk fun p hp=>by
 have:=(h p hp).1
 intro e
 rcases this with h|h<;>omega
theorem Fq.subs (hP:l7 F n T)(h:Fq F n T S q l)(hs:∀p∈sub,p∈l):Fq F n T (puts S sub) q l/\puts (puts S sub) l=puts S l:=by
 have hv:oh F n T sub:=fun p hp=>h.val p (hs p hp)
 have hlo:=hP.lo
 refine⟨⟨by rw[XV,h.len],?_,Ch h.loads h.room fun i hi h2=>ED hv (by omega) h2,h.val,h.room⟩,O7 hs⟩
 obtain⟨c,h1,h2⟩:=h.head
 exact⟨c,(ED hv (qab _) (by omega)).trans h1,h2⟩
theorem Fq.rest (hP:l7 F n T)(hl:S.length=T)(hq:q<18446744073709551616):Fq F n T (S.set F (Uk q 0)) q []:=
 ⟨by rw[List.length_set,hl],⟨Uk q 0,by rw[qaa,if_pos rfl,if_pos (by have:=hP.lo;have:=hP.hi;omega)],Lx q 0 hq (by omega)⟩,NH _ _,fun p hp=>(by cases hp),by rw[WU];have:=hP.lo;simpa using this⟩
def Safe(F n T N:Nat)(S:List Sx)(V:Nat->Option Sx):Prop:=∃q l,Fq F n T S q l/\q<=N/\vw F n (puts S l)=V
structure Rest(F n T:Nat)(k:Dk Sx)(q:Nat):Prop where
 img:Fq F n T k.safe q []
 un:k.un=[]
 dead:k.dead=false
structure jP(F n T N:Nat)(k:Dk Sx)(P:(Nat->Option Sx)->Prop):Prop where
 dead:k.dead=true
 un:k.un.length<=n
 len:k.safe.length=T
 safe:∀t,∃V,P V/\Safe F n T N (k.JC t).safe V
theorem yc(h:(stored l).length+1<=n):l.length+1<=n:=by
 rw[WU]at h
 omega
theorem Jz(hP:l7 F n T)(h:Fq F n T k.safe q l)(hu:k.un=[])(hd:k.dead=false)(hq:q<18446744073709551616):
  ((k.finish F q l).1=0/\Rest F n T (k.finish F q l).2 q/\(k.finish F q l).2.safe=(puts k.safe l).set F (Uk q 0)/\(k.finish F q l).2.cut=k.cut)\/
  (k.cut=true/\(k.finish F q l).1=6/\jP F n T q (k.finish F q l).2 (fun V=>V=vw F n (puts k.safe l))):=by
 have hlo:=hP.lo
 have hrl:=yc h.room
 unfold Dk.finish
 rcases Vd l k hd with⟨h1,h2,h3,h4,h5⟩|⟨h1,h2,h3,h4,m,h5⟩
 ·rw[if_pos h1]
  rw[Rx hu]at h2
  have hI:=(h.subs hP fun p hp=>hp).1
  rw[<-h2]at hI
  rcases Vd [(F,Uk q 0)] (k.writes l).2 h4 with⟨g1,g2,g3,g4,g5⟩|⟨g1,g2,g3,g4,m,g5⟩
  ·left
   rw[Rx h3,h2,yg]at g2
   refine⟨g1,⟨?_,g3,g4⟩,g2,g5.trans h5⟩
   rw[g2]
   exact Fq.rest hP (by rw[XV,h.len]) hq
  ·right
   refine⟨by rw[<-h5];exact g1,g2,g3,?_,by rw[g4,h2,XV,h.len],fun t=>?_⟩
   ·rw[g5,h3,qag,List.length_take];simp only[List.length_singleton];omega
   ·obtain⟨sub,c1,c2,_,_,_⟩:=O5 ((k.writes l).2.writes [(F,Uk q 0)]).2 t
    rw[g5,h3,qag]at c1
    rw[g4]at c2
    refine⟨_,rfl,?_⟩
    rw[c2]
    have hall:∀p∈sub,p=(F,Uk q 0):=fun p hp=>by
     have:=List.mem_of_mem_take (c1 p hp)
     simpa using this
    rcases O6 (L:=(k.writes l).2.safe) hall with⟨_,hc⟩|hc
    ·rw[hc]
     exact⟨q,l,hI,qab _,by rw[h2,O7 fun p hp=>hp]⟩
    ·rw[hc]
     exact⟨q,[],Fq.rest hP hI.len hq,qab _,by rw[WN,yf hlo,h2]⟩
 ·right
  rw[if_neg (by rw[h2];decide)]
  refine⟨h1,h2,h3,?_,by rw[h4,h.len],fun t=>?_⟩
  ·rw[h5,hu,qag,List.length_take];omega
  ·obtain⟨sub,c1,c2,_,_,_⟩:=O5 (k.writes l).2 t
   rw[h5,hu,qag]at c1
   rw[h4]at c2
   obtain⟨i1,i2⟩:=h.subs hP fun p hp=>List.mem_of_mem_take (c1 p hp)
   exact⟨_,rfl,q,l,by rw[c2];exact i1,qab _,by rw[c2,i2]⟩
theorem Ku(hP:l7 F n T)(h:Fq F n T k.safe q l)(hu:k.un=[])(hd:k.dead=false)(hq:q<18446744073709551616):
  ((k.opened F q l).1=0/\Rest F n T (k.opened F q l).2 q/\vw F n (k.opened F q l).2.safe=vw F n (puts k.safe l)/\(k.opened F q l).2.cut=k.cut)\/
  (k.cut=true/\(k.opened F q l).1=6/\jP F n T q (k.opened F q l).2 (fun V=>V=vw F n (puts k.safe l))):=by
 unfold Dk.opened
 by_cases hl:l=[]
 ·subst hl
  rw[if_pos rfl]
  exact .inl ⟨rfl,⟨h,hu,hd⟩,by rw[WN],rfl⟩
 ·rw[if_neg hl]
  rcases Jz hP h hu hd hq with⟨f1,f2,f3,f4⟩|f
  ·left
   exact⟨f1,f2,by rw[f3,yf hP.lo],f4⟩
  ·exact .inr f
end
end Go.Proofs.YtmehhgfbnfbnaaaGreat.Tq
