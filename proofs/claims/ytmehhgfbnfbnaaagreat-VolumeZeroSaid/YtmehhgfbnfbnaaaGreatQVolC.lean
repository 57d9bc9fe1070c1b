import Derived.Test.YtmehhgfbnfbnaaaGreatQVolB
import Derived.Test.YtmehhgfbnfbnaaaGreatQTopA
import Derived.Test.YtmehhgfbnfbnaaaGreatQMetaX12
import Derived.Test.YtmehhgfbnfbnaaaGreatQTk
import Derived.Carry
import Derived.Maps.RangeWalk
import Derived.Maps.OwnOps
import Derived.OpenShut
import Derived.Test.YtmehhgfbnfbnaaaGreatQBits
import Derived.Test.YtmehhgfbnfbnaaaGreatQInternA
set_option maxRecDepth 100000
set_option maxHeartbeats 25600000
open Nat renaming le_trans->qaa
open List renaming setIfInBounds_toArray->qab,set_cons_zero->qac,set_cons_succ->qad,replicate->qam,eq_of_mem_replicate->qan,getElem?_replicate->qaq,length_replicate->qar,getElem?_eq_none->qas
open Go renaming World->qae,Value->qag,Calls->qah,DataW->qaj,bodyPost_ret->qak,MemPlace->qap
open And renaming intro->qaf
open Go.RowKit renaming Below->qai
open Go.Act renaming put->qal
open Go.RowKit.Below renaming refl->qao
namespace Go.Proofs.YtmehhgfbnfbnaaaGreat.Y7
open Go.RowKit Zc Meta
section
variable {w:qae}{g:Nat}
theorem Ij{e:TypeId}{a0 a1 a2 a3 a4:qag}(h:Bk w g e [a0,a1,a2,a3,a4]):w.cell? ⟨g,0,none⟩=some a0/\w.cell? ⟨g,1,none⟩=some a1/\w.cell? ⟨g,2,none⟩=some a2/\w.cell? ⟨g,3,none⟩=some a3/\w.cell? ⟨g,4,none⟩=some a4:=
 ⟨h.cell 0,h.cell 1,h.cell 2,h.cell 3,h.cell 4⟩
def IV(j i g pp b bj bm:Nat)(x:Meta.Mem)(m:Meta.Met)(be:qag)(A:Option Addr)(c:Nat)(dead:Bool):List qag:=
  [.slice x.rA m.rows.length x.rc,.slice x.oA m.own.length x.oc,.slice x.uA m.used.length x.uc,.slice x.iA m.ino.length x.ic,.map (some bm),be,.pointer b,.pointer bj,
   j,i,g,pp,
   .int .i64 1,.int .i64 (1+(j:Int)),.int .i64 (1+(j:Int)+1),.int .i64 (1+(j:Int)+1+1),.int .i64 (1+(j:Int)+1+1+1),.int .i64 (1+(j:Int)+1+1+1+(i:Int)/2),.int .i64 (1+(j:Int)+1+1+1+(i:Int)/2+(g:Int)*(pp:Int)),
   .slice A (3+i/2) c,dead]
theorem zU{j i pp:Nat}(h:VG j i g pp){B:Nat}{S:Nat->Prop}{b:Nat}{k:Dk Sx}(hD:DO B w S b k)(hB:B<=w.heap.size){T q:Nat}(hT:Ym j i g pp<=T)(rV:T<=4096){l:List (Nat × Sx)}(hI:Tq.Fq 1 j T k.safe q l)(hu:k.un=[])(hd:k.dead=false)(hc:k.cut=false)(hq:q<18446744073709551616){m:Meta.Met}(ho:Ox m)(hr:Meta.Right ⟨j,i,g,pp⟩ m)(hcs:Cons pp m)(hs0:∃c,k.now[0]? =some c/\c.b=ZF.Yw j i g pp)(hsm:∀(a:Nat)(y:List UInt8),(secs m)[a]? =some y->∃c,Tq.vw 1 j (puts k.safe l) (1+j+a)=some c/\c.b=y):
  qah Tryz.prog 26 #[.pointer b] w fun e w'=>∃(bv bj bm:Nat)(S':Nat->Prop)(k':Dk Sx)(x:Meta.Mem)(A:Option Addr)(c:Nat)(L:List Sc),e=.returned (.tuple #[.pointer bv,()])/\Bk w' bv 132 (IV j i g pp b bj bm x m (.pointer none) A c false)/\w'.heap[bm]? =some (.map #[] 0)/\YD w' w.heap.size x m/\TH w' w.heap.size (.slice A (3+i/2) c) L (secs m)/\
   DJ B w' S' bj b 1 j q k'/\Tq.Rest 1 j T k' q/\Tq.vw 1 j k'.safe=Tq.vw 1 j (puts k.safe l)/\k'.cut=false/\w.heap.size<=bv/\w.heap.size<=bm/\Zc.Good w w'/\qai B w w':=by
 have hlen:=hI.len
 obtain⟨c0,hc0,hcb⟩:=hs0
 have hj3:=h.v.j1
 have hr3:=h.room
 have WV:=h.v.gp
 have hall:=SE j i g pp
 have hP:Tq.l7 1 j T:=⟨by omega,by unfold Ym Vy at hT;omega,by omega⟩
 have hi2:((3+i/2:Nat):Int)=3+(i:Int)/2:=by omega
 have eQ:(i:Int)<=64:=h.v.i2
 have mf:Hid (∀u:qae,DO B u S b k->qah Tryz.prog 79 #[.pointer b] u fun e w'=>e=.returned (.tuple #[.agg #[j,i,g,pp],.agg #[.int .i64 1,.int .i64 (1+(j:Int)),.int .i64 (1+(j:Int)+1),.int .i64 (1+(j:Int)+1+1),.int .i64 (1+(j:Int)+1+1+1),.int .i64 (1+(j:Int)+1+1+1+(i:Int)/2),.int .i64 (1+(j:Int)+1+1+1+(i:Int)/2+(g:Int)*(pp:Int))],()])/\qai u.heap.size u w'):=χ (fun u hu'=>find_ok h hu' (by rw[hlen];exact hT) hc0 hcb hd)
 have HJO:Hid (∀u:qae,DO B u S b k->B<=u.heap.size->qah Tryz.prog 80 #[.pointer b,.int .i64 1,j] u fun e w'=>∃(bj:Nat)(S':Nat->Prop)(k':Dk Sx),e=.returned (.tuple #[.pointer bj,l.length,()])/\
   DJ B w' S' bj b 1 j q k'/\Tq.Rest 1 j T k' q/\Tq.vw 1 j k'.safe=Tq.vw 1 j (puts k.safe l)/\k'.cut=false/\Zc.Good u w'/\qai B u w'):=χ (fun u h1 h2=>DF hP (by omega) rV h1 h2 hI hu hd hc hq)
 have kJ:Hid (∀u:qae,qah Tryz.prog 72 #[.agg #[j,i,g,pp]] u fun e w'=>e=.returned (.int .i64 (3+(i:Int)/2))/\qai u.heap.size u w'):=χ (fun u=>ZF.PW h.v u)
 have hsl:(secs m).length=3+i/2:=by
  have h1:=hr.TG
  have h2:=hr.even
  simp only at h1
  have h3:=Q9 hr
  simp only at h3
  omega
 have vU:Hid (∀(u:qae)(S':Nat->Prop)(bj:Nat)(k':Dk Sx),DJ B u S' bj b 1 j q k'->Tq.Rest 1 j T k' q->Tq.vw 1 j k'.safe=Tq.vw 1 j (puts k.safe l)->qah Tryz.prog 81 #[.pointer b,.int .i64 (1+(j:Int)),.int .i64 (3+(i:Int)/2)] u fun e w'=>∃A c L,e=.returned (.slice A (3+i/2) c)/\TH w' u.heap.size (.slice A (3+i/2) c) L (secs m)/\3+i/2<=c/\qai u.heap.size u w'):=χ (fun u S' bj k' hdj hre hvw=>by
  have:=Ii hdj.only (1+(j:Int)) (1+j) (3+i/2) (by omega) (by unfold Ym Vy at hT;omega) (by omega) (secs m) hsl (fun y hy=>Fp hr ho y hy) (fun a y hy=>by
   obtain⟨c,h1,h2⟩:=hsm a y hy
   refine⟨c,?_,h2⟩
   rw[<-hvw,Tq.zV (.inr (by omega))]at h1
   unfold Dk.now;rw[hre.un]
   exact h1) hre.dead
  rwa[hi2]at this)
 have ig:Hid (∀(u:qae)(A:Option Addr)(c:Nat)(L:List Sc),Y6 u u.heap.size A L (secs m)->3+i/2<=c->qah Tryz.prog 82 #[.agg #[j,i,g,pp],.slice A (3+i/2) c] u fun e w'=>∃x:Meta.Mem,e=.returned (.tuple #[.agg #[.slice x.rA m.rows.length x.rc,.slice x.oA m.own.length x.oc,.slice x.uA m.used.length x.uc,.slice x.iA m.ino.length x.ic],()])/\YD w' u.heap.size x m/\qai u.heap.size u w'):=χ (fun u A c L h1 h2=>by
  have:=DD ⟨j,i,g,pp⟩ (secs m) A (3+i/2) c L u hsl h1 (by omega) h2
  rw[KC hr ho]at this
  exact this)
 have pQ:Hid (∀(u:qae)(x:Meta.Mem),QM u u.heap.size x m->qah Tryz.prog 83 #[.agg #[j,i,g,pp],.agg #[.slice x.rA m.rows.length x.rc,.slice x.oA m.own.length x.oc,.slice x.uA m.used.length x.uc,.slice x.iA m.ino.length x.ic]] u fun e w'=>e=.returned (.bool true)/\qai u.heap.size u w'):=χ (fun u x hx=>by
  obtain⟨r1,r2,r3,r4,r5,r6,r7,r8⟩:=hr
  simp only at r3 r7
  have hrl:m.rows.length=16:=r2.len
  obtain⟨a1,a2,a3,a4,a5,a6,a7,a8⟩:=x
  have hol:m.own.length=g:=by omega
  have hil:m.ino.length=i:=by omega
  have:=vE h m ho hcs a1 a3 a5 a7 a2 a4 a6 a8 u hrl hol r5 hil r4 hx
  rw[hrl,hol,r5,hil]
  exact this)
 have HD:=χ hD
 have HB0:=χ hB
 have Yz:=χ (qao B w)
 have UA:=χ (Good.refl w)
 have Wx:=χ (Nat.le_refl w.heap.size)
 clear h hD hB hT rV hI hu hd hc hq ho hr hcs hsm hlen hc0 hcb hr3 hj3 WV hall hP hi2 eQ hsl
 go_enter Tryz.func26,Tryz.ntmps26
 go_upto_region 1 with fail
 go_upto_region 2 with(go_at_call 79;(with_reducible refine(mf.out _ HD.out).mono ?_);rintro e w1 ⟨he,hb⟩;obtain rfl:=he;replace HD:=χ (HD.out.below hb);replace Yz:=χ (Yz.out.trans (hb.mono (qaa HB0.out Yz.out.size)));replace UA:=χ (UA.out.trans (Good.of_below hb));replace Wx:=χ (qaa Wx.out hb.size);clear hb)
 have hal:=ZZ w1 (.cells #[j,i,g,pp] 29)
 replace HD:=χ (HD.out.below hal)
 replace Yz:=χ (Yz.out.trans (hal.mono (qaa HB0.out Yz.out.size)))
 replace UA:=χ (UA.out.trans (Good.of_below hal))
 replace Wx:=χ (qaa Wx.out hal.size)
 have HG:=χ (Bk.new w1 29 [j,i,g,pp])
 clear hal
 have hs1:(w1.alloc (.cells #[j,i,g,pp] 29)).heap.size=w1.heap.size+1:=by simp
 generalize pO:w1.heap.size=zU1 at*
 clear pO
 generalize w1.alloc (.cells #[j,i,g,pp] 29)=U1 at*
 have hal:=ZZ U1 (.cells #[.int .i64 1,.int .i64 (1+(j:Int)),.int .i64 (1+(j:Int)+1),.int .i64 (1+(j:Int)+1+1),.int .i64 (1+(j:Int)+1+1+1),.int .i64 (1+(j:Int)+1+1+1+(i:Int)/2),.int .i64 (1+(j:Int)+1+1+1+(i:Int)/2+(g:Int)*(pp:Int))] 112)
 replace HD:=χ (HD.out.below hal)
 replace HG:=χ (HG.out.below hal HG.out.lt)
 replace Yz:=χ (Yz.out.trans (hal.mono (qaa HB0.out Yz.out.size)))
 replace UA:=χ (UA.out.trans (Good.of_below hal))
 replace Wx:=χ (qaa Wx.out hal.size)
 have HP:=χ (Bk.new U1 112 [.int .i64 1,.int .i64 (1+(j:Int)),.int .i64 (1+(j:Int)+1),.int .i64 (1+(j:Int)+1+1),.int .i64 (1+(j:Int)+1+1+1),.int .i64 (1+(j:Int)+1+1+1+(i:Int)/2),.int .i64 (1+(j:Int)+1+1+1+(i:Int)/2+(g:Int)*(pp:Int))])
 clear hal
 rw[hs1]at HP
 clear hs1
 generalize U1.alloc (.cells #[.int .i64 1,.int .i64 (1+(j:Int)),.int .i64 (1+(j:Int)+1),.int .i64 (1+(j:Int)+1+1),.int .i64 (1+(j:Int)+1+1+1),.int .i64 (1+(j:Int)+1+1+1+(i:Int)/2),.int .i64 (1+(j:Int)+1+1+1+(i:Int)/2+(g:Int)*(pp:Int))] 112)=U2 at*
 obtain⟨g0,g1,g2,g3⟩:=Z6 HG.out
 obtain⟨l0,l1,l2,l3,l4,l5,l6⟩:=ZU HP.out
 go_upto_region 4 with fail
 go_upto_region 7 with(go_at_call 80;(with_reducible refine(HJO.out _ HD.out (qaa HB0.out Yz.out.size)).mono ?_);rintro e w2 ⟨bj,S',k',he,hdj,hre,hvw,hcut,hgd,hb⟩;obtain rfl:=he;replace HG:=χ (hgd.bk HG.out);replace HP:=χ (hgd.bk HP.out);replace Yz:=χ (Yz.out.trans hb);replace UA:=χ (UA.out.trans hgd);replace Wx:=χ (qaa Wx.out hgd.size);clear HD;have HD:=χ hdj;have mE:=χ hre;have HVW:=χ hvw;have pM:=χ hcut;clear hdj hre hvw hcut;clear g0 g1 g2 g3 l0 l1 l2 l3 l4 l5 l6;clear hb hgd;obtain⟨g0,g1,g2,g3⟩:=Z6 HG.out;obtain⟨l0,l1,l2,l3,l4,l5,l6⟩:=ZU HP.out)
 clear mf HJO
 have hS0:qai w2.heap.size w2 w2.drew:=(qao _ _).drew
 refine wp_region_held_drew (S:=fun u=>qai w2.heap.size w2 u) (by kernel_rfl) hS0 (fun hHeld=>?_)
 clear g0 g1 g2 g3 l0 l1 l2 l3 l4 l5 l6
 clear hS0
 generalize hu0:w2.drew=NS at*
 clear hu0
 refine tk 0 ?_ (y:=.inl ⟨by rfl,?hya0⟩) (s:=by exact hHeld) (h:=?V4)
 case hya0=>(intro u hu;obtain⟨g0,g1,g2,g3⟩:=Meta.Z6 (HG.out.below hu HG.out.lt);obtain⟨l0,l1,l2,l3,l4,l5,l6⟩:=ZU (HP.out.below hu HP.out.lt);clear hu;go_simp<;>with_reducible rfl)
 try simp only[qal,qab,qac,qad]
 refine tk 1 ?_ (y:=.inl ⟨by rfl,?hya1⟩) (s:=by exact hHeld) (h:=?Wn)
 case hya1=>(intro u hu;obtain⟨g0,g1,g2,g3⟩:=Meta.Z6 (HG.out.below hu HG.out.lt);obtain⟨l0,l1,l2,l3,l4,l5,l6⟩:=ZU (HP.out.below hu HP.out.lt);clear hu;go_simp<;>with_reducible rfl)
 try simp only[qal,qab,qac,qad]
 refine tk 2 ?_ (y:=.inl ⟨by rfl,?hya2⟩) (s:=by exact hHeld) (h:=?Wm)
 case hya2=>(intro u hu;obtain⟨g0,g1,g2,g3⟩:=Meta.Z6 (HG.out.below hu HG.out.lt);obtain⟨l0,l1,l2,l3,l4,l5,l6⟩:=ZU (HP.out.below hu HP.out.lt);clear hu;go_simp<;>with_reducible rfl)
 try simp only[qal,qab,qac,qad]
 refine tk 3 ?_ (y:=.inl ⟨by rfl,?hya3⟩) (s:=by exact hHeld) (h:=?Tp)
 case hya3=>(intro u hu;obtain⟨g0,g1,g2,g3⟩:=Meta.Z6 (HG.out.below hu HG.out.lt);obtain⟨l0,l1,l2,l3,l4,l5,l6⟩:=ZU (HP.out.below hu HP.out.lt);clear hu;go_simp<;>with_reducible rfl)
 try simp only[qal,qab,qac,qad]
 refine rd 4 (h:=fun K hK=>?_)
 go_simp
 (with_reducible refine(kJ.out _).mono ?_)
 rintro e x1 ⟨he,hb⟩;obtain rfl:=he
 have hS:qai w2.heap.size w2 x1:=hHeld.trans (hb.mono hHeld.size)
 clear hb
 go_simp
 refine hK.out _ _ hS (fun Z4=>?_)
 clear hK K hHeld hS
 have hHeld:=Z4
 clear Z4
 try simp only[qal,qab,qac,qad]
 refine rd 5 (h:=fun K hK=>?_)
 go_simp
 (with_reducible refine(vU.out _ _ _ _ (HD.out.below hHeld) mE.out HVW.out).mono ?_)
 rintro e x2 ⟨A,c,L,he,hs,hcc,hb⟩;obtain rfl:=he
 have HS:=χ (TH.lower hs (qaa Wx.out hHeld.size))
 have RP:=χ hcc
 clear hs hcc
 have hS:qai w2.heap.size w2 x2:=hHeld.trans (hb.mono hHeld.size)
 clear hb
 go_simp
 refine hK.out _ _ hS (fun Z4=>?_)
 clear hK K hHeld hS
 have hHeld:=Z4
 clear Z4
 try simp only[qal,qab,qac,qad]
 refine tk 6 ?_ (y:=.inl ⟨by rfl,?hya6⟩) (s:=by exact hHeld) (h:=?Vg)
 case hya6=>(intro u hu;obtain⟨g0,g1,g2,g3⟩:=Meta.Z6 (HG.out.below hu HG.out.lt);obtain⟨l0,l1,l2,l3,l4,l5,l6⟩:=ZU (HP.out.below hu HP.out.lt);clear hu;go_simp<;>with_reducible rfl)
 try simp only[qal,qab,qac,qad]
 refine wpAnyH_done (by kernel_rfl) ?_ _
 have hb:=hHeld
 clear hHeld
 replace HG:=χ (HG.out.below hb HG.out.lt)
 replace HP:=χ (HP.out.below hb HP.out.lt)
 replace HD:=χ (HD.out.below hb)
 replace Yz:=χ (Yz.out.trans (hb.mono (qaa HB0.out Yz.out.size)))
 replace UA:=χ (UA.out.trans (Good.of_below hb))
 replace Wx:=χ (qaa Wx.out hb.size)
 clear hb
 obtain⟨g0,g1,g2,g3⟩:=Z6 HG.out
 obtain⟨l0,l1,l2,l3,l4,l5,l6⟩:=ZU HP.out
 go_upto_region 9 with(go_at_call 82;have kI:=Wx;(with_reducible refine(ig.out _ _ _ _ (TH.at_ HS.out).2 RP.out).mono ?_);rintro e w3 ⟨x,he,hx,hb⟩;obtain rfl:=he;replace HG:=χ (HG.out.below hb HG.out.lt);replace HP:=χ (HP.out.below hb HP.out.lt);replace HD:=χ (HD.out.below hb);replace HS:=χ (HS.out.below hb);replace Yz:=χ (Yz.out.trans (hb.mono (qaa HB0.out Yz.out.size)));replace UA:=χ (UA.out.trans (Good.of_below hb));replace Wx:=χ (qaa Wx.out hb.size);have HX:=χ (hx.base kI.out);clear hx kI;clear g0 g1 g2 g3 l0 l1 l2 l3 l4 l5 l6;clear hb;obtain⟨g0,g1,g2,g3⟩:=Z6 HG.out;obtain⟨l0,l1,l2,l3,l4,l5,l6⟩:=ZU HP.out)
 have hal:=ZZ w3 (.cells #[qag.slice x.rA m.rows.length x.rc,.slice x.oA m.own.length x.oc,.slice x.uA m.used.length x.uc,.slice x.iA m.ino.length x.ic] 60)
 replace HG:=χ (HG.out.below hal HG.out.lt)
 replace HP:=χ (HP.out.below hal HP.out.lt)
 replace HD:=χ (HD.out.below hal)
 replace HS:=χ (HS.out.below hal)
 replace HX:=χ (HX.out.below hal)
 replace Yz:=χ (Yz.out.trans (hal.mono (qaa HB0.out Yz.out.size)))
 replace UA:=χ (UA.out.trans (Good.of_below hal))
 replace Wx:=χ (qaa Wx.out hal.size)
 have HM:=χ (Bk.new w3 60 [qag.slice x.rA m.rows.length x.rc,.slice x.oA m.own.length x.oc,.slice x.uA m.used.length x.uc,.slice x.iA m.ino.length x.ic])
 clear g0 g1 g2 g3 l0 l1 l2 l3 l4 l5 l6
 clear hal
 generalize eP:w3.heap.size=zU3 at*
 clear eP
 generalize w3.alloc (.cells #[qag.slice x.rA m.rows.length x.rc,.slice x.oA m.own.length x.oc,.slice x.uA m.used.length x.uc,.slice x.iA m.ino.length x.ic] 60)=U3 at*
 obtain⟨g0,g1,g2,g3⟩:=Z6 HG.out
 obtain⟨l0,l1,l2,l3,l4,l5,l6⟩:=ZU HP.out
 obtain⟨m0,m1,m2,m3⟩:=Z6 HM.out
 go_upto_region 11 with(go_at_call 83;(with_reducible refine(pQ.out _ x HX.out.lies).mono ?_);rintro e w4 ⟨he,hb⟩;obtain rfl:=he;replace HG:=χ (HG.out.below hb HG.out.lt);replace HP:=χ (HP.out.below hb HP.out.lt);replace HD:=χ (HD.out.below hb);replace HS:=χ (HS.out.below hb);replace HX:=χ (HX.out.below hb);replace HM:=χ (HM.out.below hb HM.out.lt);replace Yz:=χ (Yz.out.trans (hb.mono (qaa HB0.out Yz.out.size)));replace UA:=χ (UA.out.trans (Good.of_below hb));replace Wx:=χ (qaa Wx.out hb.size);clear g0 g1 g2 g3 l0 l1 l2 l3 l4 l5 l6 m0 m1 m2 m3;clear hb;obtain⟨g0,g1,g2,g3⟩:=Z6 HG.out;obtain⟨l0,l1,l2,l3,l4,l5,l6⟩:=ZU HP.out;obtain⟨m0,m1,m2,m3⟩:=Z6 HM.out)
 clear kJ vU ig pQ
 have hmm:=@run_makeMap Tryz.prog
 go_upto_region 12 with fail
 clear hmm m0 m1 m2 m3
 have hb:qai w4.heap.size w4 ((w4.alloc (.map #[] 0)).alloc (.cells #[.slice x.rA m.rows.length x.rc,.slice x.oA m.own.length x.oc,.slice x.uA m.used.length x.uc,.slice x.iA m.ino.length x.ic,.map (some w4.heap.size)] 127)):=((qao _ _).alloc (Nat.le_refl _) _).alloc (by simp) _
 have HMP:Hid (((w4.alloc (.map #[] 0)).alloc (.cells #[.slice x.rA m.rows.length x.rc,.slice x.oA m.own.length x.oc,.slice x.uA m.used.length x.uc,.slice x.iA m.ino.length x.ic,.map (some w4.heap.size)] 127)).heap[w4.heap.size]? =some (.map #[] 0)):=χ (by rw[((qao (w4.heap.size+1) (w4.alloc (.map #[] 0))).alloc (by simp) _).block _ (by simp)];show(w4.heap.push (.map #[] 0))[w4.heap.size]? =_;exact Array.getElem?_push_size)
 have HST:=χ (Bk.new (w4.alloc (.map #[] 0)) 127 [.slice x.rA m.rows.length x.rc,.slice x.oA m.own.length x.oc,.slice x.uA m.used.length x.uc,.slice x.iA m.ino.length x.ic,.map (some w4.heap.size)])
 rw[show(w4.alloc (.map #[] 0)).heap.size=w4.heap.size+1 by simp]at HST
 have HZ4:=χ Wx.out
 replace HG:=χ (HG.out.below hb HG.out.lt)
 replace HP:=χ (HP.out.below hb HP.out.lt)
 replace HD:=χ (HD.out.below hb)
 replace HS:=χ (HS.out.below hb)
 replace HX:=χ (HX.out.below hb)
 replace Yz:=χ (Yz.out.trans (hb.mono (qaa HB0.out Yz.out.size)))
 replace UA:=χ (UA.out.trans (Good.of_below hb))
 replace Wx:=χ (qaa Wx.out hb.size)
 clear g0 g1 g2 g3 l0 l1 l2 l3 l4 l5 l6
 clear hb
 generalize (w4.alloc (.map #[] 0)).alloc (.cells #[.slice x.rA m.rows.length x.rc,.slice x.oA m.own.length x.oc,.slice x.uA m.used.length x.uc,.slice x.iA m.ino.length x.ic,.map (some w4.heap.size)] 127)=U5 at*
 generalize w4.heap.size=zm at*
 obtain⟨g0,g1,g2,g3⟩:=Z6 HG.out
 obtain⟨l0,l1,l2,l3,l4,l5,l6⟩:=ZU HP.out
 obtain⟨s0,s1,s2,s3,s4⟩:=Ij HST.out
 go_wp2_with fail
 have eO:=χ Wx.out
 have hal:=ZZ U5 (.cells (IV j i g pp b bj zm x m (.pointer none) A c false).toArray 132)
 replace HG:=χ (HG.out.below hal HG.out.lt)
 replace HP:=χ (HP.out.below hal HP.out.lt)
 replace HD:=χ (HD.out.below hal)
 replace HS:=χ (HS.out.below hal)
 replace HX:=χ (HX.out.below hal)
 replace Yz:=χ (Yz.out.trans (hal.mono (qaa HB0.out Yz.out.size)))
 replace UA:=χ (UA.out.trans (Good.of_below hal))
 replace Wx:=χ (qaa Wx.out hal.size)
 have HV:=Bk.new U5 132 (IV j i g pp b bj zm x m (.pointer none) A c false)
 have HMQ:=(hal.block zm (Xp HMP.out)).trans HMP.out
 refine qak (v:=.tuple #[.pointer U5.heap.size,()]) (by simp[results,Tryz.results26,go_sem]) rfl ?_
 exact⟨U5.heap.size,bj,zm,S',k',x,A,c,L,rfl,HV,HMQ,HX.out,HS.out,HD.out,mE.out,HVW.out,pM.out,by have:=eO.out;omega,HZ4.out,UA.out,Yz.out⟩
end
end Go.Proofs.YtmehhgfbnfbnaaaGreat.Y7

namespace Go.Proofs.YtmehhgfbnfbnaaaGreat.Y7
open Go.RowKit Zc Meta
section
variable {j i g pp:Nat}
theorem Aa(j i g pp:Nat):puts (qam (Ym j i g pp) zx) (SF j i g pp)=fmtS j i g pp:=by
 have hl:=UB j i g pp
 apply List.ext_getElem?
 intro a
 rcases Nat.lt_or_ge a (Ym j i g pp)with h|h
 ·obtain⟨c,hc⟩:∃c,(fmtS j i g pp)[a]? =some c:=⟨_,List.getElem?_eq_getElem (by rw[hl];exact h)⟩
  have:=KE (fmtS j i g pp) 0 (qam (Ym j i g pp) zx) (by rw[hl,qar];omega) a c hc
  rw[Nat.zero_add]at this
  rw[hc]
  exact this
 ·rw[qas (by rw[XV,qar];exact h),qas (by rw[hl];exact h)]
theorem zZ(j i g pp:Nat):(((Dk.fresh (Ym j i g pp) zx).writes (SF j i g pp)).2.safe=fmtS j i g pp)/\(((Dk.fresh (Ym j i g pp) zx).writes (SF j i g pp)).2.un=[])/\(((Dk.fresh (Ym j i g pp) zx).writes (SF j i g pp)).2.dead=false)/\(((Dk.fresh (Ym j i g pp) zx).writes (SF j i g pp)).2.cut=false):=by
 rcases Tq.Vd (SF j i g pp) (Dk.fresh (Ym j i g pp) zx) rfl with⟨h1,h2,h3,h4,h5⟩|⟨h1,_⟩
 ·exact⟨h2.trans (Aa j i g pp),h3,h4,h5⟩
 ·cases h1
theorem Ql{a:Nat}(h1:1<=a)(h2:a<Ym j i g pp):(fmtS j i g pp)[a]? =some zx:=by
 obtain⟨n,rfl⟩:∃n,a=n+1:=⟨a-1,by omega⟩
 unfold fmtS
 rw[List.getElem?_cons_succ,qaq,if_pos (by omega)]
theorem vG(h:VG j i g pp):Tq.Fq 1 j (Ym j i g pp) (fmtS j i g pp) 0 []:=by
 have h1:=h.v.j1
 exact⟨UB _ _ _ _,⟨zx,Ql (by omega) (by unfold Ym Vy;omega),.inr ⟨rfl,rfl,rfl⟩⟩,Tq.NH _ _,fun p hp=>(by cases hp),by rw[WU];simp;omega⟩
theorem KD(pp q:Nat):Yk pp (qam 64 0) q=false:=by
 unfold Yk
 rw[Bits.PY (fun a _=>by unfold Bits.cnd;rw[Qn];simp)]
 rfl
theorem zY(pp:Nat)(G:Meta.Geo):Cons pp (XE G) where
 free q _:=KD pp q
 held q o h ho:=by
  have:=List.mem_of_getElem? h
  rw[qan this]at ho
  omega
 ino n hn hk:=by
  rw[qan hn]at hk
  exact absurd rfl hk
theorem zX(h:VG j i g pp)(a:Nat)(y:List UInt8)(hy:(secs (XE ⟨j,i,g,pp⟩))[a]? =some y):∃c,Tq.vw 1 j (fmtS j i g pp) (1+j+a)=some c/\c.b=y:=by
 have hv:(⟨j,i,g,pp⟩:Meta.Geo).Ok:=h.v
 rw[zW hv,qaq]at hy
 split at hy
 ·rename_i hlt
  cases hy
  simp only at hlt
  have:=h.v.g1
  have:=h.v.p1
  have WV:1<=g*pp:=Nat.mul_pos (by omega) (by omega)
  refine⟨zx,?_,rfl⟩
  rw[Tq.zV (.inr (by omega))]
  exact Ql (by omega) (by unfold Ym Vy;omega)
 ·cases hy
theorem K5(h:VG j i g pp)(w:qae):
  qah Tryz.prog 16 #[.agg #[j,.int .i64 i,g,pp]] w fun e w'=>∃(b bv bj bm:Nat)(S':Nat->Prop)(k':Dk Sx)(x:Meta.Mem)(A:Option Addr)(c:Nat)(L:List Sc),e=.returned (.tuple #[.pointer (some ⟨b,0,none⟩),.pointer bv,true])/\Bk w' bv 132 (IV j i g pp b bj bm x (XE ⟨j,i,g,pp⟩) (.pointer none) A c false)/\w'.heap[bm]? =some (.map #[] 0)/\YD w' w.heap.size x (XE ⟨j,i,g,pp⟩)/\TH w' w.heap.size (.slice A (3+i/2) c) L (secs (XE ⟨j,i,g,pp⟩))/\
   DJ w.heap.size w' S' bj b 1 j 0 k'/\Tq.Rest 1 j (Ym j i g pp) k' 0/\Tq.vw 1 j k'.safe=Tq.vw 1 j (fmtS j i g pp)/\k'.cut=false/\w.heap.size<=bv/\w.heap.size<=bm/\qai w.heap.size w w':=by
 have hmax:=h.all
 have rY:=SE j i g pp
 have rX:Hid (∀u:qae,qah Tryz.prog 65 #[.agg #[j,.int .i64 i,g,pp]] u fun e w'=>e=.returned (.tuple #[.agg #[.int .i64 1,.int .i64 (1+(j:Int)),.int .i64 (1+(j:Int)+1),.int .i64 (1+(j:Int)+1+1),.int .i64 (1+(j:Int)+1+1+1),.int .i64 (1+(j:Int)+1+1+1+(i:Int)/2),.int .i64 (1+(j:Int)+1+1+1+(i:Int)/2+(g:Int)*(pp:Int))],()])/\qai u.heap.size u w'):=χ (fun u=>ZF.PX h.v u)
 have HDN:Hid (∀u:qae,qah Tryz.prog 66 #[.int .i64 (Ym j i g pp:Int)] u fun e w'=>∃b S,e=.returned (.tuple #[.pointer (some ⟨b,0,none⟩),()])/\qai u.heap.size u w'/\Zo sx w' S b (Dk.fresh (Ym j i g pp) zx)/\∀i,S i->u.heap.size<=i):=χ (fun u=>vF u (Ym j i g pp) (by omega) zx rfl)
 have l8:Hid (∀(u:qae)(S:Nat->Prop)(b:Nat),DO w.heap.size u S b (Dk.fresh (Ym j i g pp) zx)->w.heap.size<=u.heap.size->qah Tryz.prog 47 #[.pointer (some ⟨b,0,none⟩),.agg #[j,.int .i64 i,g,pp]] u fun e w'=>∃S' k1,e=.returned (.int .i64 0)/\DO w.heap.size w' S' b k1/\k1.safe=fmtS j i g pp/\k1.un=[]/\k1.dead=false/\k1.cut=false/\Zc.Good u w'/\qai w.heap.size u w'):=χ (fun u S b hu hs=>by
  refine(DI h hu hs (by simp[Dk.fresh]) rfl rfl (by simp[Dk.fresh])).mono ?_
  rintro e w' ⟨he,⟨S',hS'⟩,h1,h2⟩
  obtain⟨f1,f2,f3,f4⟩:=zZ j i g pp
  exact⟨S',_,he,hS',f1,f2,f3,f4,h1,h2⟩)
 have HMO:Hid (∀(u:qae)(S:Nat->Prop)(b:Nat)(k1:Dk Sx),DO w.heap.size u S b k1->w.heap.size<=u.heap.size->k1.safe=fmtS j i g pp->k1.un=[]->k1.dead=false->k1.cut=false->qah Tryz.prog 26 #[.pointer (some ⟨b,0,none⟩)] u fun e w'=>∃(bv bj bm:Nat)(S':Nat->Prop)(k':Dk Sx)(x:Meta.Mem)(A:Option Addr)(c:Nat)(L:List Sc),e=.returned (.tuple #[.pointer bv,()])/\Bk w' bv 132 (IV j i g pp b bj bm x (XE ⟨j,i,g,pp⟩) (.pointer none) A c false)/\w'.heap[bm]? =some (.map #[] 0)/\YD w' u.heap.size x (XE ⟨j,i,g,pp⟩)/\TH w' u.heap.size (.slice A (3+i/2) c) L (secs (XE ⟨j,i,g,pp⟩))/\
   DJ w.heap.size w' S' bj b 1 j 0 k'/\Tq.Rest 1 j (Ym j i g pp) k' 0/\Tq.vw 1 j k'.safe=Tq.vw 1 j (fmtS j i g pp)/\k'.cut=false/\u.heap.size<=bv/\u.heap.size<=bm/\Zc.Good u w'/\qai w.heap.size u w'):=χ (fun u S b k1 hu hs f1 f2 f3 f4=>by
  have hv:(⟨j,i,g,pp⟩:Meta.Geo).Ok:=h.v
  have:=zU h hu hs (T:=Ym j i g pp) (q:=0) (Nat.le_refl _) (by omega) (l:=[]) (by rw[f1];exact vG h) f2 f3 f4 (by decide) (KY _) (Qo hv) (zY pp _)
   ⟨pU j i g pp,by unfold Dk.now;rw[f1,f2];rfl,rfl⟩ (fun a y hy=>by rw[f1];exact zX h a y hy)
  rw[f1]at this
  exact this)
 have eT:=χ rY
 clear rY
 have Yz:=χ (qao w.heap.size w)
 clear h
 go_enter Tryz.func16,Tryz.ntmps16
 go_upto_region 1 with fail
 have hal:=ZZ w (.cells #[j,.int .i64 i,g,pp] 29)
 replace Yz:=χ (Yz.out.trans (hal.mono Yz.out.size))
 have HG:=χ (Bk.new w 29 [j,.int .i64 i,g,pp])
 clear hal
 generalize w.alloc (.cells #[j,.int .i64 i,g,pp] 29)=U1 at*
 obtain⟨g0,g1,g2,g3⟩:=Z6 HG.out
 go_upto_region 2 with(go_at_call 65;(with_reducible refine(rX.out _).mono ?_);rintro e w1 ⟨he,hb⟩;obtain rfl:=he;replace HG:=χ (HG.out.below hb HG.out.lt);replace Yz:=χ (Yz.out.trans (hb.mono Yz.out.size));clear g0 g1 g2 g3;clear hb;obtain⟨g0,g1,g2,g3⟩:=Z6 HG.out)
 have hal:=ZZ w1 (.cells #[.int .i64 1,.int .i64 (1+(j:Int)),.int .i64 (1+(j:Int)+1),.int .i64 (1+(j:Int)+1+1),.int .i64 (1+(j:Int)+1+1+1),.int .i64 (1+(j:Int)+1+1+1+(i:Int)/2),.int .i64 (1+(j:Int)+1+1+1+(i:Int)/2+(g:Int)*(pp:Int))] 112)
 replace HG:=χ (HG.out.below hal HG.out.lt)
 replace Yz:=χ (Yz.out.trans (hal.mono Yz.out.size))
 have HP:=χ (Bk.new w1 112 [.int .i64 1,.int .i64 (1+(j:Int)),.int .i64 (1+(j:Int)+1),.int .i64 (1+(j:Int)+1+1),.int .i64 (1+(j:Int)+1+1+1),.int .i64 (1+(j:Int)+1+1+1+(i:Int)/2),.int .i64 (1+(j:Int)+1+1+1+(i:Int)/2+(g:Int)*(pp:Int))])
 clear g0 g1 g2 g3
 clear hal
 generalize pR:w1.heap.size=zU2 at*
 clear pR
 generalize w1.alloc (.cells #[.int .i64 1,.int .i64 (1+(j:Int)),.int .i64 (1+(j:Int)+1),.int .i64 (1+(j:Int)+1+1),.int .i64 (1+(j:Int)+1+1+1),.int .i64 (1+(j:Int)+1+1+1+(i:Int)/2),.int .i64 (1+(j:Int)+1+1+1+(i:Int)/2+(g:Int)*(pp:Int))] 112)=U2 at*
 obtain⟨g0,g1,g2,g3⟩:=Z6 HG.out
 obtain⟨l0,l1,l2,l3,l4,l5,l6⟩:=ZU HP.out
 rw[<-eT.out]at l6
 go_upto_region 3 with(go_at_call 66;have rW:=χ Yz.out.size;(with_reducible refine(HDN.out _).mono ?_);rintro e w2 ⟨b,S,he,hb,hD,hlo⟩;obtain rfl:=he;replace HG:=χ (HG.out.below hb HG.out.lt);replace HP:=χ (HP.out.below hb HP.out.lt);replace Yz:=χ (Yz.out.trans (hb.mono Yz.out.size));have HD:Hid (DO w.heap.size w2 S b (Dk.fresh (Ym j i g pp) zx)):=χ ⟨hD,fun q hq=>qaa rW.out (hlo q hq)⟩;clear hD hlo rW;clear g0 g1 g2 g3 l0 l1 l2 l3 l4 l5 l6;clear hb;obtain⟨g0,g1,g2,g3⟩:=Z6 HG.out;obtain⟨l0,l1,l2,l3,l4,l5,l6⟩:=ZU HP.out)
 clear l0 l1 l2 l3 l4 l5 l6
 clear HP
 go_upto_region 5 with(go_at_call 47;(with_reducible refine(l8.out _ _ _ HD.out Yz.out.size).mono ?_);rintro e w3 ⟨S1,k1,he,hdo,f1,f2,f3,f4,hgd,hb⟩;obtain rfl:=he;replace HG:=χ (hgd.bk HG.out);replace Yz:=χ (Yz.out.trans hb);clear HD;have HD:=χ hdo;have F1:=χ f1;have F2:=χ f2;have F3:=χ f3;have F4:=χ f4;clear hdo f1 f2 f3 f4;clear g0 g1 g2 g3;clear hb hgd;obtain⟨g0,g1,g2,g3⟩:=Z6 HG.out)
 go_wp2_with (go_at_call 26;have rW:=χ Yz.out.size;(with_reducible refine(HMO.out _ _ _ _ HD.out Yz.out.size F1.out F2.out F3.out F4.out).mono ?_);rintro e w4 ⟨bv,bj,bm,S',k',x,A,c,L,he,r1,r2,r3,r4,r5,r6,r7,r8,r9,iq,hgd,hb⟩;obtain rfl:=he;replace HG:=χ (hgd.bk HG.out);replace Yz:=χ (Yz.out.trans hb);have R:=χ (qaf r1 (qaf r2 (qaf (r3.base rW.out) (qaf (r4.lower rW.out) (qaf r5 (qaf r6 (qaf r7 (qaf r8 (qaf (qaa rW.out r9) (qaa rW.out iq))))))))));clear rW r1 r2 r3 r4 r5 r6 r7 r8 r9 iq;clear g0 g1 g2 g3;clear hb hgd;obtain⟨g0,g1,g2,g3⟩:=Z6 HG.out)
 clear rX HDN l8 HMO
 obtain⟨r1,r2,r3,r4,r5,r6,r7,r8,r9,iq⟩:=R.out
 refine qak (v:=.tuple #[.pointer (some ⟨b,0,none⟩),.pointer bv,true]) (by simp[results,Tryz.results16,go_sem]) rfl ?_
 exact⟨b,bv,bj,bm,S',k',x,A,c,L,rfl,r1,r2,r3,r4,r5,r6,r7,r8,r9,iq,Yz.out⟩
end
end Go.Proofs.YtmehhgfbnfbnaaaGreat.Y7

namespace Go.Proofs.YtmehhgfbnfbnaaaGreat.Y7
open Go.RowKit Go.Maps Go.ChangeShapes Go.WideShapes
section
variable {s:Int}
def KF(s:Int):Lit:=.int .i64 s
theorem Fv(s:Int):WideAt.IsKeyLit (KF s):=trivial
theorem Fu{t:Int}(h:s≠t):KF s≠KF t:=fun e=>h (by simpa[KF]using e)
theorem pW:Keyed Tryz.prog 3:=int_keyed Tryz.underlying3
def DK(s:Int):Prop:= -9223372036854775808<=s/\s<=9223372036854775807
theorem kK(h:DK s):(Lit.int .i64 s).wf=true:=WalkArith.wf_i64 h
theorem Fs(h:DK s):keyOf Tryz.prog 3 (.int .i64 s)=some (KF s):=keyOf_int_mk Tryz.underlying3 (kK h)
structure Elem{β:Type}(e:TypeId)(R:qag->Option (qaj Unit × List qap))(enc:β->qag)(dat:β->qaj Unit)(ok:β->Prop)(z:β):Prop where
 make:∀x,ok x->R (enc x)=some (dat x,[])
 inv:∀v y,R v=some y->∃x,v=enc x/\y=(dat x,[])/\ok x
 inj:∀x y,dat x=dat y->x=y
 zero:∀w,(zeroValue e).run Tryz.prog w=.ok (enc z) w
 okz:ok z
end
section
variable {β:Type}{e t:TypeId}{R:qag->Option (qaj Unit × List qap)}{enc:β->qag}{dat:β->qaj Unit}{ok:β->Prop}{z:β}
def Yt(R:qag->Option (qaj Unit × List qap))(dat:β->qaj Unit)(z:β)(w:qae)(b:Nat)(at_:Int->β)(there:Int->Bool)(m:Nat):Prop:=
 ∃D:qaj Unit,w.ownsMap Tryz.prog 3 R b m D/\(∀s,D.atKey (KF s) (dat z)=dat (at_ s))/\(∀s,has D (KF s)=there s)/\size D=m
theorem tight{w:qae}{b n:Nat}{D:qaj Unit}(h:w.ownsMap Tryz.prog 3 R b n D):w.ownsMap Tryz.prog 3 R b (size D) D:=by
 obtain⟨es,clock,hb,F,hs,rfl⟩:=h
 exact⟨es,clock,hb,F,by simp[size,length_sorted],rfl⟩
variable {w:qae}{b m:Nat}{at_:Int->β}{there:Int->Bool}
section
variable {s:Int}{x:β}
theorem Yt.lt (h:Yt R dat z w b at_ there m):b<w.heap.size:=by
 obtain⟨D,h1,_⟩:=h
 exact h1.lt
theorem Yt.keep {w':qae}(h:Yt R dat z w b at_ there m)(hb:w'.heap[b]? =w.heap[b]?):Yt R dat z w' b at_ there m:=by
 obtain⟨D,⟨es,clock,h1,h2⟩,h3⟩:=h
 exact⟨D,⟨es,clock,hb.trans h1,h2⟩,h3⟩
theorem Yt.isMap (h:Yt R dat z w b at_ there m):∃es clock,w.heap[b]? =some (.map es clock):=by
 obtain⟨D,⟨es,clock,h1,_⟩,_⟩:=h
 exact⟨es,clock,h1⟩
theorem Yt.made (w:qae)(R:qag->Option (qaj Unit × List qap))(dat:β->qaj Unit)(z:β):Yt R dat z (w.alloc (.map #[] 0)) w.heap.size (fun _=>z) (fun _=>false) 0:=
 ⟨.map [],qae.ownsMap_made w Tryz.prog 3 R,fun _=>rfl,fun _=>rfl,rfl⟩
theorem Yt.put (E:Elem e R enc dat ok z)(ht:Tryz.prog.underlying t=some (.map 3 e))(h:Yt R dat z w b at_ there m)(hm:m<maxLen)(hs:DK s)(hx:ok x):
  ∃w',(Instr.mapUpdate t (.map (some b)) (.int .i64 s) (enc x)).run Tryz.prog w=.ok () w'/\Yt R dat z w' b (fun k=>if k=s then x else at_ k) (fun k=>k==s||there k) (if there s then m else m+1)/\w.grownBy w' (some b):=by
 obtain⟨D,h1,h2,h3,h4⟩:=h
 obtain⟨w',hrun,h5,h6⟩:=h1.update pW ht hm (Fs hs) (E.make x hx)
 have hT:=h1.tidy pW
 have hsz:size (D.put (KF s) (dat x))=if there s then m else m+1:=by rw[size_put hT,h3 s,h4]
 refine⟨w',hrun,⟨_,by have:=tight h5;rwa[hsz]at this,fun k=>?_,fun k=>?_,hsz⟩,h6⟩
 ·by_cases hk:k=s
  ·subst hk;simp[atKey_put_same hT.isMap (Fv k)]
  ·simp[hk,atKey_put_other (Fu hk),h2]
 ·by_cases hk:k=s
  ·subst hk;simp[has_put_same hT.isMap (Fv k)]
  ·rw[has_put_other (Fu hk),h3];simp[hk]
theorem vK{o:Oper}{a:Act}{K:Act->qae->Prop}{Q:Exit->Act->qae->Prop}(mo so vo:Operand)(ho:o.op=Op.mapUpdate t mo so vo)(E:Elem e R enc dat ok z)(ht:Tryz.prog.underlying t=some (.map 3 e))(hm:a.eval mo=.map (some b))(h:Yt R dat z w b at_ there m)(hlt:m<maxLen)(hs:DK s)(hse:a.eval so=.int .i64 s)(hx:ok x)(hxe:a.eval vo=enc x)(hK:∀w',Yt R dat z w' b (fun k=>if k=s then x else at_ k) (fun k=>k==s||there k) (if there s then m else m+1)->w.grownBy w' (some b)->K (a.put o.dst undef) w'):o.wp Tryz.prog a w K Q:=by
 obtain⟨w',hrun,h1,h2⟩:=h.put E ht hlt hs hx
 unfold Oper.wp
 simp[execOp,ho,hm,hse,hxe,hrun,Result.andThen]
 exact hK w' h1 h2
end
end
section
variable {c d:Sx}
theorem pV(h:sx c=sx d):c=d:=by
 unfold sx at h
 obtain⟨h1,h2⟩:=List.append_inj h (by rw[Z5,Z5,c.hb,d.hb])
 refine Sx.same (Ik h1) ?_
 have:(c.t:Int)=d.t:=by simpa using h2
 omega
def Rz(c:Sx):qag:=.agg (sx c).toArray
def RH(c:Sx):qaj Unit:=.lit (.string (c.b++[UInt8.ofNat (c.t/256),UInt8.ofNat c.t]))
noncomputable def RI(v:qag):Option (qaj Unit × List qap):=@dite _ (∃c:Sx,v=Rz c) (Classical.propDecidable _) (fun h=>some (RH h.choose,[])) fun _=>none
theorem Ab(h:Rz c=Rz d):c=d:=by
 unfold Rz at h
 injection h with h
 exact pV (by simpa using congrArg Array.toList h)
theorem vH(c:Sx):RI (Rz c)=some (RH c,[]):=by
 unfold RI
 have hx:∃d:Sx,Rz c=Rz d:=⟨c,rfl⟩
 rw[dif_pos hx]
 rw[<-Ab hx.choose_spec]
theorem pX:Elem 163 RI Rz RH (fun _=>True) zx where
 make c _:=vH c
 inv v y h:=by
  unfold RI at h
  split at h
  ·rename_i hx
   exact⟨hx.choose,hx.choose_spec,(Option.some.inj h).symm,trivial⟩
  ·cases h
 inj c d h:=by
  unfold RH at h
  injection h with h
  injection h with h
  obtain⟨h1,h2⟩:=List.append_inj h (by rw[c.hb,d.hb])
  refine Sx.same h1 ?_
  have h3:=c.ht
  have h4:=d.ht
  simp only[List.cons.injEq,and_true]at h2
  have e1:=congrArg UInt8.toNat h2.1
  have e2:=congrArg UInt8.toNat h2.2
  simp only[UInt8.toNat_ofNat']at e1 e2
  omega
 zero w:=by kernel_rfl
 okz:=trivial
end
end Go.Proofs.YtmehhgfbnfbnaaaGreat.Y7

namespace Go.Proofs.YtmehhgfbnfbnaaaGreat.Y7
open Go.RowKit Zc Meta
section
variable {w w':qae}{base e k n bv f:Nat}{v:qag}{xs ys:List qag}
def mh(x:Meta.Mem)(m:Meta.Met)(bm:Nat)(rest:List qag):List qag:=.slice x.rA m.rows.length x.rc:: .slice x.oA m.own.length x.oc:: .slice x.uA m.used.length x.uc:: .slice x.iA m.ino.length x.ic:: .map (some bm)::rest
def At(P:Nat->Prop)(A:Option Addr):Prop:=∀a,A=some a->P a.block
structure Vs(P:Nat->Prop)(w:qae)(bv:Nat)(x:Meta.Mem)(m:Meta.Met)(bm:Nat)(rest:List qag):Prop where
 box:Bk w bv 132 (mh x m bm rest)
 met:YD w 0 x m
 pv:P bv
 pr:At P x.rA
 po:At P x.oA
 pu:At P x.uA
 pi:At P x.iA
theorem YR(h:w.ownsRow base e k v n xs):∃A c,v=.slice A n c/\At (base<=·) A:=by
 rcases h.2 with⟨h1,h2⟩|⟨g,cap,cur,h1,hb,_⟩
 ·have hz:n=0:=by first|exact h2.1|omega|skip
  subst h1
  exact⟨none,0,by rw[hz],fun a h=>by cases h⟩
 ·exact⟨_,_,h1,fun a h=>by cases h;exact hb⟩
theorem Y0(hB:Bk w bv f ys)(hk:∀i,i<w.heap.size->i≠bv->w'.heap[i]? =w.heap[i]?)(h:w.ownsRow base e k v n xs)(he:e≠f):w'.ownsRow base e k v n xs:=by
 refine⟨h.1,?_⟩
 rcases h.2 with h2|⟨g,cap,cur,h1,hb,hc,h3⟩
 ·exact .inl h2
 ·refine .inr ⟨g,cap,cur,h1,hb,?_,h3⟩
  rw[hk g (Xp hc) (fun hg=>by
   subst hg
   have hB:w.heap[g]? =_:=hB
   rw[hc]at hB
   cases hB
   exact he rfl)]
  exact hc
theorem YD.other (hB:Bk w bv f ys)(hk:∀i,i<w.heap.size->i≠bv->w'.heap[i]? =w.heap[i]?){x:Meta.Mem}{m:Meta.Met}(h:YD w base x m)(he:f≠68/\f≠3/\f≠5/\f≠40:=by decide):YD w' base x m:=
 ⟨Y0 hB hk h.rows he.1.symm,Y0 hB hk h.own he.2.1.symm,Y0 hB hk h.used he.2.2.1.symm,Y0 hB hk h.ino he.2.2.2.symm⟩
end
section
variable {P Q:Nat->Prop}{w w':qae}{bv bm:Nat}{x:Meta.Mem}{m:Meta.Met}{rest:List qag}
section
variable {A:Option Addr}{c:Nat}
theorem At.mono (h:At P A)(hQ:∀i,P i->Q i):At Q A:=fun a ha=>hQ _ (h a ha)
theorem Vs.below (h:Vs P w bv x m bm rest)(hb:qai w.heap.size w w'):Vs P w' bv x m bm rest:=⟨h.box.below hb h.box.lt,h.met.below hb,h.pv,h.pr,h.po,h.pu,h.pi⟩
theorem Vs.mono (h:Vs P w bv x m bm rest)(hQ:∀i,P i->Q i):Vs Q w bv x m bm rest:=⟨h.box,h.met,hQ _ h.pv,h.pr.mono hQ,h.po.mono hQ,h.pu.mono hQ,h.pi.mono hQ⟩
theorem Vs.cells (h:Vs P w bv x m bm rest):w.cell? ⟨bv,0,none⟩=some (.slice x.rA m.rows.length x.rc)/\w.cell? ⟨bv,1,none⟩=some (.slice x.oA m.own.length x.oc)/\w.cell? ⟨bv,2,none⟩=some (.slice x.uA m.used.length x.uc)/\w.cell? ⟨bv,3,none⟩=some (.slice x.iA m.ino.length x.ic)/\w.cell? ⟨bv,4,none⟩=some (.map (some bm)):=
 ⟨h.box.cell 0,h.box.cell 1,h.box.cell 2,h.box.cell 3,h.box.cell 4⟩
theorem YN(w:qae)(g i:Nat)(u:qag):Kept (· =g) w (w.setCell ⟨g,i,none⟩ u):=Kept.Zb (ZT (qae.grownBy.refl w (some g)) i u) (fun k hk=>by cases hk;rfl)
theorem Wp(w:qae)(g q:Nat)(u:qag):∀i,i<w.heap.size->i≠g->(w.setCell ⟨g,q,none⟩ u).heap[i]? =w.heap[i]? :=fun i hi hg=>(YN w g q u).block i hi hg
theorem Vs.used (h:Vs P w bv x m bm rest){l:List UInt8}(hw:w.ownsRow 0 5 1 (.slice A l.length c) l.length (Z7 l))(hA:At Q A)(hP:∀i,P i->Q i):
  Vs Q (w.setCell ⟨bv,2,none⟩ (.slice A l.length c)) bv {x with uA:=A,uc:=c} {m with used:=l} bm rest:=
 have hs:=Wp w bv 2 (.slice A l.length c)
 have hm:=YD.other h.box hs h.met
 ⟨h.box.set 2 _,⟨hm.rows,hm.own,Y0 h.box hs hw (by decide),hm.ino⟩,hP _ h.pv,h.pr.mono hP,h.po.mono hP,hA,h.pi.mono hP⟩
theorem Vs.rows (h:Vs P w bv x m bm rest){l:List Z8.Rw}(hw:w.ownsRow 0 68 2 (.slice A l.length c) l.length (Z8.ZV l))(hA:At Q A)(hP:∀i,P i->Q i):
  Vs Q (w.setCell ⟨bv,0,none⟩ (.slice A l.length c)) bv {x with rA:=A,rc:=c} {m with rows:=l} bm rest:=
 have hs:=Wp w bv 0 (.slice A l.length c)
 have hm:=YD.other h.box hs h.met
 ⟨h.box.set 0 _,⟨Y0 h.box hs hw (by decide),hm.own,hm.used,hm.ino⟩,hP _ h.pv,hA,h.po.mono hP,h.pu.mono hP,h.pi.mono hP⟩
end
end
section
variable {P:Nat->Prop}{w:qae}{bv bm:Nat}{x:Meta.Mem}{m:Meta.Met}{rest:List qag}
theorem Il(h:Vs P w bv x m bm rest)(hl:m.used.length=64)(a:Nat)(ha:a<512)(on:Bool):
  qah Tryz.prog 104 #[.pointer bv,a,on] w fun e w'=>e=.returned (.tuple #[])/\(∃A c,Vs (fun i=>P i\/w.heap.size<=i) w' bv {x with uA:=A,uc:=c} {m with used:=Bits.wb m.used a on} bm rest)/\Kept (· =bv) w w':=by
 have HW:Hid (qah Tryz.prog 175 #[.slice x.uA m.used.length x.uc,a,on] w fun e w'=>∃v,e=.returned (.tuple #[v,()])/\Bits.Made w (Bits.wb m.used a on) v w'):=χ (Bits.vJ m.used x.uA _ x.uc a on w rfl h.met.lies.used (by omega) (by omega))
 have H:=χ h
 obtain⟨c0,c1,c2,c3,c4⟩:=h.cells
 clear h hl ha
 go_enter Tryz.func104,Tryz.ntmps104
 go_wp2_with (go_at_call 175;(with_reducible refine HW.out.mono ?_);rintro e w1 ⟨v,he,hm,hb⟩;obtain rfl:=he;obtain⟨A,c,hv,hA⟩:=YR hm;subst hv;have HV:=χ (H.out.below hb);have HM:=χ hm;have HA:=χ hA;have HB:=χ hb;clear hm hb hA c0 c1 c2 c3 c4;obtain⟨c0,c1,c2,c3,c4⟩:=HV.out.cells;have fz:=HV.out.box.frozen 2)
 go_end0
 exact⟨rfl,⟨A,c,HV.out.used (ZI HM.out (Nat.zero_le _)) (HA.out.mono fun _ h=>.inr h) (fun _ h=>.inl h)⟩,(Kept.of_below HB.out).trans (YN _ _ _ _) (fun _ h=>.inl h)⟩
theorem Tn(h:Vs P w bv x m bm rest)(a:Nat)(h0:(Z8.ZH m.rows a).err=0):
  qah Tryz.prog 106 #[.pointer bv,.int .u16 a] w fun e w'=>e=.returned (.tuple #[.int .i64 ((Z8.ZH m.rows a).at_:Int),()])/\(∃A c,Vs (fun i=>P i\/w.heap.size<=i) w' bv {x with rA:=A,rc:=c} {m with rows:=(Z8.ZH m.rows a).rows} bm rest)/\Kept (· =bv) w w':=by
 have HW:Hid (qah Tryz.prog 176 #[.slice x.rA m.rows.length x.rc,.int .u16 a] w fun e w'=>∃v,e=.returned (.tuple #[v,.int .i64 ((Z8.ZH m.rows a).at_:Int),()])/\Z8.Given w w' v (Z8.ZH m.rows a).rows):=χ (by
  have:=Z8.Fw m.rows x.rA m.rows.length x.rc a w rfl h.met.lies.rows
  unfold Z8.Xb at this
  rwa[h0]at this)
 have H:=χ h
 obtain⟨c0,c1,c2,c3,c4⟩:=h.cells
 clear h h0
 generalize hr:Z8.ZH m.rows a=r at*
 clear hr
 go_enter Tryz.func106,Tryz.ntmps106
 go_wp2_with (go_at_call 176;(with_reducible refine HW.out.mono ?_);rintro e w1 ⟨v,he,hm,hb⟩;obtain rfl:=he;obtain⟨A,c,hv,hA⟩:=YR hm;subst hv;have HV:=χ (H.out.below hb);have HM:=χ hm;have HA:=χ hA;have HB:=χ hb;clear hm hb hA c0 c1 c2 c3 c4;obtain⟨c0,c1,c2,c3,c4⟩:=HV.out.cells;have fz:=HV.out.box.frozen 0)
 refine qak (v:=.tuple #[r.at_,()]) (by simp[results,Tryz.results106,go_sem]) rfl ?_
 exact⟨rfl,⟨A,c,HV.out.rows (ZI HM.out (Nat.zero_le _)) (HA.out.mono fun _ h=>.inr h) (fun _ h=>.inl h)⟩,(Kept.of_below HB.out).trans (YN _ _ _ _) (fun _ h=>.inl h)⟩
theorem RF(h:Vs P w bv x m bm rest)(a:Nat)(h0:(Z8.ZH m.rows a).err≠0):
  qah Tryz.prog 106 #[.pointer bv,.int .u16 a] w fun e w'=>e=.returned (.tuple #[(),.int .i64 ((Z8.ZH m.rows a).err:Int)])/\qai w.heap.size w w':=by
 have HW:Hid (qah Tryz.prog 176 #[.slice x.rA m.rows.length x.rc,.int .u16 a] w fun e w'=>Z8.Xb w (Z8.ZH m.rows a) e w'):=χ (Z8.Fw m.rows x.rA m.rows.length x.rc a w rfl h.met.lies.rows)
 have hne:((Z8.ZH m.rows a).err:Int)≠0:=by omega
 obtain⟨c0,c1,c2,c3,c4⟩:=h.cells
 clear h h0
 generalize hr:Z8.ZH m.rows a=r at*
 clear hr
 go_enter Tryz.func106,Tryz.ntmps106
 go_wp2_with (go_at_call 176;(with_reducible refine HW.out.mono ?_);rintro e w1 ⟨v,he,hm,hb⟩;obtain rfl:=he;have HB:=χ hb;clear hm hb c0 c1 c2 c3 c4)
 refine qak (v:=.tuple #[(),r.err]) (by simp[results,Tryz.results106,go_sem]) rfl ?_
 exact⟨rfl,HB.out⟩
theorem Ra(h:Vs P w bv x m bm rest)(a:Int)(h0:(Z8.YM m.rows a).err=0):
  qah Tryz.prog 110 #[.pointer bv,a] w fun e w'=>e=.returned (.tuple #[])/\(∃A c,Vs (fun i=>P i\/w.heap.size<=i) w' bv {x with rA:=A,rc:=c} {m with rows:=(Z8.YM m.rows a).rows} bm rest)/\Kept (· =bv) w w':=by
 have HW:Hid (qah Tryz.prog 180 #[.slice x.rA m.rows.length x.rc,a] w fun e w'=>∃v,e=.returned (.tuple #[v,()])/\Z8.Given w w' v (Z8.YM m.rows a).rows):=χ (by
  have:=Z8.vI m.rows x.rA m.rows.length x.rc a w rfl h.met.lies.rows
  unfold Z8.Yx at this
  rwa[h0]at this)
 have H:=χ h
 obtain⟨c0,c1,c2,c3,c4⟩:=h.cells
 clear h h0
 generalize hr:Z8.YM m.rows a=r at*
 clear hr
 go_enter Tryz.func110,Tryz.ntmps110
 go_wp2_with (go_at_call 180;(with_reducible refine HW.out.mono ?_);rintro e w1 ⟨v,he,hm,hb⟩;obtain rfl:=he;obtain⟨A,c,hv,hA⟩:=YR hm;subst hv;have HV:=χ (H.out.below hb);have HM:=χ hm;have HA:=χ hA;have HB:=χ hb;clear hm hb hA c0 c1 c2 c3 c4;obtain⟨c0,c1,c2,c3,c4⟩:=HV.out.cells;have fz:=HV.out.box.frozen 0)
 go_end0
 exact⟨rfl,⟨A,c,HV.out.rows (ZI HM.out (Nat.zero_le _)) (HA.out.mono fun _ h=>.inr h) (fun _ h=>.inl h)⟩,(Kept.of_below HB.out).trans (YN _ _ _ _) (fun _ h=>.inl h)⟩
end
end Go.Proofs.YtmehhgfbnfbnaaaGreat.Y7
