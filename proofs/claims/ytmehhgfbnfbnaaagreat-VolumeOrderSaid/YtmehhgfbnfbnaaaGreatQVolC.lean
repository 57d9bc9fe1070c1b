import Derived.Test.YtmehhgfbnfbnaaaGreatQVolB
import Derived.Test.YtmehhgfbnfbnaaaGreatQTopA
import Derived.Test.YtmehhgfbnfbnaaaGreatQMetaX12
import Derived.Test.YtmehhgfbnfbnaaaGreatQTk
import Derived.Carry
import Derived.Maps.RangeWalk
import Derived.Maps.OwnOps
import Derived.OpenShut
import Derived.Test.YtmehhgfbnfbnaaaGreatQBits
import Derived.Test.YtmehhgfbnfbnaaaGreatQInternA
set_option maxRecDepth 100000
set_option maxHeartbeats 25600000
open Nat renaming le_trans->qaa
open Go renaming World->qab,Value->qad,Calls->qae,DataW->qag,bodyPost_ret->qah,MemPlace->qal
open And renaming intro->qac
open Go.RowKit renaming Below->qaf
open List renaming replicate->qai,eq_of_mem_replicate->qaj,getElem?_replicate->qam,length_replicate->qan,getElem?_eq_none->qao
open Go.RowKit.Below renaming refl->qak
namespace Go.Proofs.YtmehhgfbnfbnaaaGreat
theorem zX0{P:Prop}(h:P:=by
 (intro u hu;obtain⟨g0,g1,g2,g3⟩:=Meta.Z7 (HG.out.below hu HG.out.lt);obtain⟨l0,l1,l2,l3,l4,l5,l6⟩:=ZU (HP.out.below hu HP.out.lt);clear hu;go_simp<;>with_reducible rfl)):P:=h
theorem zX1{P:Prop}(h:P:=by
 exact⟨rfl,⟨A,c,HV.out.rows (ZL HM.out (Nat.zero_le _)) (HA.out.mono fun _ h=>.inr h) (fun _ h=>.inl h)⟩,(Kept.of_below HB.out).trans (YY _ _ _ _) (fun _ h=>.inl h)⟩):P:=h
end Go.Proofs.YtmehhgfbnfbnaaaGreat
namespace Go.Proofs.YtmehhgfbnfbnaaaGreat.Zl
open Go.RowKit Zq Meta
section
variable {w:qab}{g:Nat}
theorem N9{e:TypeId}{a0 a1 a2 a3 a4:qad}(h:Bk w g e [a0,a1,a2,a3,a4]):w.cell? ⟨g,0,none⟩=some a0/\w.cell? ⟨g,1,none⟩=some a1/\w.cell? ⟨g,2,none⟩=some a2/\w.cell? ⟨g,3,none⟩=some a3/\w.cell? ⟨g,4,none⟩=some a4:=
 ⟨h.cell 0,h.cell 1,h.cell 2,h.cell 3,h.cell 4⟩
def ES(j i g pp b bj bm:Nat)(x:Meta.Mem)(m:Meta.Met)(be:qad)(A:Option Addr)(c:Nat)(dead:Bool):List qad:=
  [.slice x.rA m.rows.length x.rc,.slice x.oA m.own.length x.oc,.slice x.uA m.used.length x.uc,.slice x.iA m.ino.length x.ic,.map (some bm),be,.pointer b,.pointer bj,
   j,i,g,pp,
   .int .i64 1,.int .i64 (1+(j:Int)),.int .i64 (1+(j:Int)+1),.int .i64 (1+(j:Int)+1+1),.int .i64 (1+(j:Int)+1+1+1),.int .i64 (1+(j:Int)+1+1+1+(i:Int)/2),.int .i64 (1+(j:Int)+1+1+1+(i:Int)/2+(g:Int)*(pp:Int)),
   .slice A (3+i/2) c,dead]
theorem uY{j i pp:Nat}(h:VG j i g pp){B:Nat}{S:Nat->Prop}{b:Nat}{k:Dk Sx}(hD:DO B w S b k)(hB:B<=w.heap.size){T q:Nat}(hT:Yq j i g pp<=T)(jH:T<=4096){l:List (Nat × Sx)}(hI:UH.E8 1 j T k.safe q l)(hu:k.un=[])(hd:k.dead=false)(hc:k.cut=false)(hq:q<18446744073709551616){m:Meta.Met}(ho:Rc m)(hr:Meta.Right ⟨j,i,g,pp⟩ m)(hcs:Cons pp m)(hs0:∃c,k.now[0]? =some c/\c.b=ZG.Yg j i g pp)(hsm:∀(a:Nat)(y:List UInt8),(secs m)[a]? =some y->∃c,UH.vw 1 j (puts k.safe l) (1+j+a)=some c/\c.b=y):
  qae Tryz.prog 26 #[.pointer b] w fun e w'=>∃(bv bj bm:Nat)(S':Nat->Prop)(k':Dk Sx)(x:Meta.Mem)(A:Option Addr)(c:Nat)(L:List Sc),e=.returned (.tuple #[.pointer bv,()])/\Bk w' bv 132 (ES j i g pp b bj bm x m (.pointer none) A c false)/\w'.heap[bm]? =some (.map #[] 0)/\Y1 w' w.heap.size x m/\TE w' w.heap.size (.slice A (3+i/2) c) L (secs m)/\
   DJ B w' S' bj b 1 j q k'/\UH.Rest 1 j T k' q/\UH.vw 1 j k'.safe=UH.vw 1 j (puts k.safe l)/\k'.cut=false/\w.heap.size<=bv/\w.heap.size<=bm/\Zq.Good w w'/\qaf B w w':=by
 have hlen:=hI.len
 obtain⟨c0,hc0,hcb⟩:=hs0
 have hj3:=h.v.j1
 have hr3:=h.room
 have V8:=h.v.gp
 have hall:=Q8 j i g pp
 have hP:UH.vO 1 j T:=⟨by omega,by unfold Yq Ut at hT;omega,by omega⟩
 have hi2:((3+i/2:Nat):Int)=3+(i:Int)/2:=by omega
 have abI:(i:Int)<=64:=h.v.i2
 have aU:Hid (∀u:qab,DO B u S b k->qae Tryz.prog 79 #[.pointer b] u fun e w'=>e=.returned (.tuple #[.agg #[j,i,g,pp],.agg #[.int .i64 1,.int .i64 (1+(j:Int)),.int .i64 (1+(j:Int)+1),.int .i64 (1+(j:Int)+1+1),.int .i64 (1+(j:Int)+1+1+1),.int .i64 (1+(j:Int)+1+1+1+(i:Int)/2),.int .i64 (1+(j:Int)+1+1+1+(i:Int)/2+(g:Int)*(pp:Int))],()])/\qaf u.heap.size u w'):=χ (fun u hu'=>find_ok h hu' (by rw[hlen];exact hT) hc0 hcb hd)
 have HJO:Hid (∀u:qab,DO B u S b k->B<=u.heap.size->qae Tryz.prog 80 #[.pointer b,.int .i64 1,j] u fun e w'=>∃(bj:Nat)(S':Nat->Prop)(k':Dk Sx),e=.returned (.tuple #[.pointer bj,l.length,()])/\
   DJ B w' S' bj b 1 j q k'/\UH.Rest 1 j T k' q/\UH.vw 1 j k'.safe=UH.vw 1 j (puts k.safe l)/\k'.cut=false/\Zq.Good u w'/\qaf B u w'):=χ (fun u h1 h2=>zP hP (by omega) jH h1 h2 hI hu hd hc hq)
 have HME:Hid (∀u:qab,qae Tryz.prog 72 #[.agg #[j,i,g,pp]] u fun e w'=>e=.returned (.int .i64 (3+(i:Int)/2))/\qaf u.heap.size u w'):=χ (fun u=>ZG.Q7 h.v u)
 have hsl:(secs m).length=3+i/2:=by
  have h1:=hr.Sk
  have h2:=hr.even
  simp only at h1
  have h3:=Vf hr
  simp only at h3
  omega
 have uX:Hid (∀(u:qab)(S':Nat->Prop)(bj:Nat)(k':Dk Sx),DJ B u S' bj b 1 j q k'->UH.Rest 1 j T k' q->UH.vw 1 j k'.safe=UH.vw 1 j (puts k.safe l)->qae Tryz.prog 81 #[.pointer b,.int .i64 (1+(j:Int)),.int .i64 (3+(i:Int)/2)] u fun e w'=>∃A c L,e=.returned (.slice A (3+i/2) c)/\TE w' u.heap.size (.slice A (3+i/2) c) L (secs m)/\3+i/2<=c/\qaf u.heap.size u w'):=χ (fun u S' bj k' hdj hre hvw=>by
  have:=EI hdj.only (1+(j:Int)) (1+j) (3+i/2) (by omega) (by unfold Yq Ut at hT;omega) (by omega) (secs m) hsl (fun y hy=>Ku hr ho y hy) (fun a y hy=>by
   obtain⟨c,h1,h2⟩:=hsm a y hy
   refine⟨c,?_,h2⟩
   rw[<-hvw,UH.uZ (.inr (by omega))]at h1
   unfold Dk.now;rw[hre.un]
   exact h1) hre.dead
  rwa[hi2]at this)
 have HTA:Hid (∀(u:qab)(A:Option Addr)(c:Nat)(L:List Sc),Zd u u.heap.size A L (secs m)->3+i/2<=c->qae Tryz.prog 82 #[.agg #[j,i,g,pp],.slice A (3+i/2) c] u fun e w'=>∃x:Meta.Mem,e=.returned (.tuple #[.agg #[.slice x.rA m.rows.length x.rc,.slice x.oA m.own.length x.oc,.slice x.uA m.used.length x.uc,.slice x.iA m.ino.length x.ic],()])/\Y1 w' u.heap.size x m/\qaf u.heap.size u w'):=χ (fun u A c L h1 h2=>by
  have:=zO ⟨j,i,g,pp⟩ (secs m) A (3+i/2) c L u hsl h1 (by omega) h2
  rw[Io hr ho]at this
  exact this)
 have gT:Hid (∀(u:qab)(x:Meta.Mem),Wv u u.heap.size x m->qae Tryz.prog 83 #[.agg #[j,i,g,pp],.agg #[.slice x.rA m.rows.length x.rc,.slice x.oA m.own.length x.oc,.slice x.uA m.used.length x.uc,.slice x.iA m.ino.length x.ic]] u fun e w'=>e=.returned (.bool true)/\qaf u.heap.size u w'):=χ (fun u x hx=>by
  obtain⟨r1,r2,r3,r4,r5,r6,r7,r8⟩:=hr
  simp only at r3 r7
  have hrl:m.rows.length=16:=r2.len
  obtain⟨a1,a2,a3,a4,a5,a6,a7,a8⟩:=x
  have hol:m.own.length=g:=by omega
  have hil:m.ino.length=i:=by omega
  have:=nG h m ho hcs a1 a3 a5 a7 a2 a4 a6 a8 u hrl hol r5 hil r4 hx
  rw[hrl,hol,r5,hil]
  exact this)
 have HD:=χ hD
 have HB0:=χ hB
 have Yt:=χ (qak B w)
 have Tz:=χ (Good.refl w)
 have VS:=χ (Nat.le_refl w.heap.size)
 clear h hD hB hT jH hI hu hd hc hq ho hr hcs hsm hlen hc0 hcb hr3 hj3 V8 hall hP hi2 abI hsl
 go_enter Tryz.func26,Tryz.ntmps26
 go_upto_region 1 with fail
 go_upto_region 2 with(go_at_call 79;(with_reducible refine(aU.out _ HD.out).mono ?_);rintro e w1 ⟨he,hb⟩;obtain rfl:=he;replace HD:=χ (HD.out.below hb);replace Yt:=χ (Yt.out.trans (hb.mono (qaa HB0.out Yt.out.size)));replace Tz:=χ (Tz.out.trans (Good.of_below hb));replace VS:=χ (qaa VS.out hb.size);clear hb)
 have hal:=Z0 w1 (.cells #[j,i,g,pp] 29)
 replace HD:=χ (HD.out.below hal)
 replace Yt:=χ (Yt.out.trans (hal.mono (qaa HB0.out Yt.out.size)))
 replace Tz:=χ (Tz.out.trans (Good.of_below hal))
 replace VS:=χ (qaa VS.out hal.size)
 have HG:=χ (Bk.new w1 29 [j,i,g,pp])
 clear hal
 have hs1:(w1.alloc (.cells #[j,i,g,pp] 29)).heap.size=w1.heap.size+1:=by simp
 generalize gQ:w1.heap.size=zU1 at*
 clear gQ
 generalize w1.alloc (.cells #[j,i,g,pp] 29)=U1 at*
 have hal:=Z0 U1 (.cells #[.int .i64 1,.int .i64 (1+(j:Int)),.int .i64 (1+(j:Int)+1),.int .i64 (1+(j:Int)+1+1),.int .i64 (1+(j:Int)+1+1+1),.int .i64 (1+(j:Int)+1+1+1+(i:Int)/2),.int .i64 (1+(j:Int)+1+1+1+(i:Int)/2+(g:Int)*(pp:Int))] 112)
 replace HD:=χ (HD.out.below hal)
 replace HG:=χ (HG.out.below hal HG.out.lt)
 replace Yt:=χ (Yt.out.trans (hal.mono (qaa HB0.out Yt.out.size)))
 replace Tz:=χ (Tz.out.trans (Good.of_below hal))
 replace VS:=χ (qaa VS.out hal.size)
 have HP:=χ (Bk.new U1 112 [.int .i64 1,.int .i64 (1+(j:Int)),.int .i64 (1+(j:Int)+1),.int .i64 (1+(j:Int)+1+1),.int .i64 (1+(j:Int)+1+1+1),.int .i64 (1+(j:Int)+1+1+1+(i:Int)/2),.int .i64 (1+(j:Int)+1+1+1+(i:Int)/2+(g:Int)*(pp:Int))])
 clear hal
 rw[hs1]at HP
 clear hs1
 generalize U1.alloc (.cells #[.int .i64 1,.int .i64 (1+(j:Int)),.int .i64 (1+(j:Int)+1),.int .i64 (1+(j:Int)+1+1),.int .i64 (1+(j:Int)+1+1+1),.int .i64 (1+(j:Int)+1+1+1+(i:Int)/2),.int .i64 (1+(j:Int)+1+1+1+(i:Int)/2+(g:Int)*(pp:Int))] 112)=U2 at*
 obtain⟨g0,g1,g2,g3⟩:=Z7 HG.out
 obtain⟨l0,l1,l2,l3,l4,l5,l6⟩:=ZU HP.out
 go_upto_region 4 with fail
 go_upto_region 7 with(go_at_call 80;(with_reducible refine(HJO.out _ HD.out (qaa HB0.out Yt.out.size)).mono ?_);rintro e w2 ⟨bj,S',k',he,hdj,hre,hvw,hcut,hgd,hb⟩;obtain rfl:=he;replace HG:=χ (hgd.bk HG.out);replace HP:=χ (hgd.bk HP.out);replace Yt:=χ (Yt.out.trans hb);replace Tz:=χ (Tz.out.trans hgd);replace VS:=χ (qaa VS.out hgd.size);clear HD;have HD:=χ hdj;have HRE:=χ hre;have HVW:=χ hvw;have gP:=χ hcut;clear hdj hre hvw hcut;clear g0 g1 g2 g3 l0 l1 l2 l3 l4 l5 l6;clear hb hgd;obtain⟨g0,g1,g2,g3⟩:=Z7 HG.out;obtain⟨l0,l1,l2,l3,l4,l5,l6⟩:=ZU HP.out)
 clear aU HJO
 have hS0:qaf w2.heap.size w2 w2.drew:=(qak _ _).drew
 refine wp_region_held_drew (S:=fun u=>qaf w2.heap.size w2 u) (by kernel_rfl) hS0 (fun hHeld=>?_)
 clear g0 g1 g2 g3 l0 l1 l2 l3 l4 l5 l6
 clear hS0
 generalize hu0:w2.drew=IX at*
 clear hu0
 refine tk 0 ?_ (y:=.inl ⟨by rfl,?hya0⟩) (s:=by exact hHeld) (h:=?V6)
 case hya0=>exact zX0
 refine tk 1 ?_ (y:=.inl ⟨by rfl,?hya1⟩) (s:=by exact hHeld) (h:=?V5)
 case hya1=>exact zX0
 refine tk 2 ?_ (y:=.inl ⟨by rfl,?hya2⟩) (s:=by exact hHeld) (h:=?V4)
 case hya2=>exact zX0
 refine tk 3 ?_ (y:=.inl ⟨by rfl,?hya3⟩) (s:=by exact hHeld) (h:=?TD)
 case hya3=>exact zX0
 refine rd 4 (h:=fun K hK=>?_)
 go_simp
 (with_reducible refine(HME.out _).mono ?_)
 rintro e x1 ⟨he,hb⟩;obtain rfl:=he
 have hS:qaf w2.heap.size w2 x1:=hHeld.trans (hb.mono hHeld.size)
 clear hb
 go_simp
 refine hK.out _ _ hS (fun Z5=>?_)
 clear hK K hHeld hS
 have hHeld:=Z5
 clear Z5
 refine rd 5 (h:=fun K hK=>?_)
 go_simp
 (with_reducible refine(uX.out _ _ _ _ (HD.out.below hHeld) HRE.out HVW.out).mono ?_)
 rintro e x2 ⟨A,c,L,he,hs,hcc,hb⟩;obtain rfl:=he
 have HS:=χ (TE.lower hs (qaa VS.out hHeld.size))
 have RQ:=χ hcc
 clear hs hcc
 have hS:qaf w2.heap.size w2 x2:=hHeld.trans (hb.mono hHeld.size)
 clear hb
 go_simp
 refine hK.out _ _ hS (fun Z5=>?_)
 clear hK K hHeld hS
 have hHeld:=Z5
 clear Z5
 refine tk 6 ?_ (y:=.inl ⟨by rfl,?hya6⟩) (s:=by exact hHeld) (h:=?UR)
 case hya6=>exact zX0
 refine wpAnyH_done (by kernel_rfl) ?_ _
 have hb:=hHeld
 clear hHeld
 replace HG:=χ (HG.out.below hb HG.out.lt)
 replace HP:=χ (HP.out.below hb HP.out.lt)
 replace HD:=χ (HD.out.below hb)
 replace Yt:=χ (Yt.out.trans (hb.mono (qaa HB0.out Yt.out.size)))
 replace Tz:=χ (Tz.out.trans (Good.of_below hb))
 replace VS:=χ (qaa VS.out hb.size)
 clear hb
 obtain⟨g0,g1,g2,g3⟩:=Z7 HG.out
 obtain⟨l0,l1,l2,l3,l4,l5,l6⟩:=ZU HP.out
 go_upto_region 9 with(go_at_call 82;have aam:=VS;(with_reducible refine(HTA.out _ _ _ _ (TE.at_ HS.out).2 RQ.out).mono ?_);rintro e w3 ⟨x,he,hx,hb⟩;obtain rfl:=he;replace HG:=χ (HG.out.below hb HG.out.lt);replace HP:=χ (HP.out.below hb HP.out.lt);replace HD:=χ (HD.out.below hb);replace HS:=χ (HS.out.below hb);replace Yt:=χ (Yt.out.trans (hb.mono (qaa HB0.out Yt.out.size)));replace Tz:=χ (Tz.out.trans (Good.of_below hb));replace VS:=χ (qaa VS.out hb.size);have HX:=χ (hx.base aam.out);clear hx aam;clear g0 g1 g2 g3 l0 l1 l2 l3 l4 l5 l6;clear hb;obtain⟨g0,g1,g2,g3⟩:=Z7 HG.out;obtain⟨l0,l1,l2,l3,l4,l5,l6⟩:=ZU HP.out)
 have hal:=Z0 w3 (.cells #[qad.slice x.rA m.rows.length x.rc,.slice x.oA m.own.length x.oc,.slice x.uA m.used.length x.uc,.slice x.iA m.ino.length x.ic] 60)
 replace HG:=χ (HG.out.below hal HG.out.lt)
 replace HP:=χ (HP.out.below hal HP.out.lt)
 replace HD:=χ (HD.out.below hal)
 replace HS:=χ (HS.out.below hal)
 replace HX:=χ (HX.out.below hal)
 replace Yt:=χ (Yt.out.trans (hal.mono (qaa HB0.out Yt.out.size)))
 replace Tz:=χ (Tz.out.trans (Good.of_below hal))
 replace VS:=χ (qaa VS.out hal.size)
 have HM:=χ (Bk.new w3 60 [qad.slice x.rA m.rows.length x.rc,.slice x.oA m.own.length x.oc,.slice x.uA m.used.length x.uc,.slice x.iA m.ino.length x.ic])
 clear g0 g1 g2 g3 l0 l1 l2 l3 l4 l5 l6
 clear hal
 generalize abJ:w3.heap.size=zU3 at*
 clear abJ
 generalize w3.alloc (.cells #[qad.slice x.rA m.rows.length x.rc,.slice x.oA m.own.length x.oc,.slice x.uA m.used.length x.uc,.slice x.iA m.ino.length x.ic] 60)=U3 at*
 obtain⟨g0,g1,g2,g3⟩:=Z7 HG.out
 obtain⟨l0,l1,l2,l3,l4,l5,l6⟩:=ZU HP.out
 obtain⟨m0,m1,m2,m3⟩:=Z7 HM.out
 go_upto_region 11 with(go_at_call 83;(with_reducible refine(gT.out _ x HX.out.lies).mono ?_);rintro e w4 ⟨he,hb⟩;obtain rfl:=he;replace HG:=χ (HG.out.below hb HG.out.lt);replace HP:=χ (HP.out.below hb HP.out.lt);replace HD:=χ (HD.out.below hb);replace HS:=χ (HS.out.below hb);replace HX:=χ (HX.out.below hb);replace HM:=χ (HM.out.below hb HM.out.lt);replace Yt:=χ (Yt.out.trans (hb.mono (qaa HB0.out Yt.out.size)));replace Tz:=χ (Tz.out.trans (Good.of_below hb));replace VS:=χ (qaa VS.out hb.size);clear g0 g1 g2 g3 l0 l1 l2 l3 l4 l5 l6 m0 m1 m2 m3;clear hb;obtain⟨g0,g1,g2,g3⟩:=Z7 HG.out;obtain⟨l0,l1,l2,l3,l4,l5,l6⟩:=ZU HP.out;obtain⟨m0,m1,m2,m3⟩:=Z7 HM.out)
 clear HME uX HTA gT
 have hmm:=@run_makeMap Tryz.prog
 go_upto_region 12 with fail
 clear hmm m0 m1 m2 m3
 have hb:qaf w4.heap.size w4 ((w4.alloc (.map #[] 0)).alloc (.cells #[.slice x.rA m.rows.length x.rc,.slice x.oA m.own.length x.oc,.slice x.uA m.used.length x.uc,.slice x.iA m.ino.length x.ic,.map (some w4.heap.size)] 127)):=((qak _ _).alloc (Nat.le_refl _) _).alloc (by simp) _
 have aZ:Hid (((w4.alloc (.map #[] 0)).alloc (.cells #[.slice x.rA m.rows.length x.rc,.slice x.oA m.own.length x.oc,.slice x.uA m.used.length x.uc,.slice x.iA m.ino.length x.ic,.map (some w4.heap.size)] 127)).heap[w4.heap.size]? =some (.map #[] 0)):=χ (by rw[((qak (w4.heap.size+1) (w4.alloc (.map #[] 0))).alloc (by simp) _).block _ (by simp)];show(w4.heap.push (.map #[] 0))[w4.heap.size]? =_;exact Array.getElem?_push_size)
 have HST:=χ (Bk.new (w4.alloc (.map #[] 0)) 127 [.slice x.rA m.rows.length x.rc,.slice x.oA m.own.length x.oc,.slice x.uA m.used.length x.uc,.slice x.iA m.ino.length x.ic,.map (some w4.heap.size)])
 rw[show(w4.alloc (.map #[] 0)).heap.size=w4.heap.size+1 by simp]at HST
 have HZ4:=χ VS.out
 replace HG:=χ (HG.out.below hb HG.out.lt)
 replace HP:=χ (HP.out.below hb HP.out.lt)
 replace HD:=χ (HD.out.below hb)
 replace HS:=χ (HS.out.below hb)
 replace HX:=χ (HX.out.below hb)
 replace Yt:=χ (Yt.out.trans (hb.mono (qaa HB0.out Yt.out.size)))
 replace Tz:=χ (Tz.out.trans (Good.of_below hb))
 replace VS:=χ (qaa VS.out hb.size)
 clear g0 g1 g2 g3 l0 l1 l2 l3 l4 l5 l6
 clear hb
 generalize (w4.alloc (.map #[] 0)).alloc (.cells #[.slice x.rA m.rows.length x.rc,.slice x.oA m.own.length x.oc,.slice x.uA m.used.length x.uc,.slice x.iA m.ino.length x.ic,.map (some w4.heap.size)] 127)=U5 at*
 generalize w4.heap.size=zm at*
 obtain⟨g0,g1,g2,g3⟩:=Z7 HG.out
 obtain⟨l0,l1,l2,l3,l4,l5,l6⟩:=ZU HP.out
 obtain⟨s0,s1,s2,s3,s4⟩:=N9 HST.out
 go_wp2_with fail
 have aal:=χ VS.out
 have hal:=Z0 U5 (.cells (ES j i g pp b bj zm x m (.pointer none) A c false).toArray 132)
 replace HG:=χ (HG.out.below hal HG.out.lt)
 replace HP:=χ (HP.out.below hal HP.out.lt)
 replace HD:=χ (HD.out.below hal)
 replace HS:=χ (HS.out.below hal)
 replace HX:=χ (HX.out.below hal)
 replace Yt:=χ (Yt.out.trans (hal.mono (qaa HB0.out Yt.out.size)))
 replace Tz:=χ (Tz.out.trans (Good.of_below hal))
 replace VS:=χ (qaa VS.out hal.size)
 have HV:=Bk.new U5 132 (ES j i g pp b bj zm x m (.pointer none) A c false)
 have HMQ:=(hal.block zm (XZ aZ.out)).trans aZ.out
 refine qah (v:=.tuple #[.pointer U5.heap.size,()]) (by simp[results,Tryz.results26,go_sem]) rfl ?_
 exact⟨U5.heap.size,bj,zm,S',k',x,A,c,L,rfl,HV,HMQ,HX.out,HS.out,HD.out,HRE.out,HVW.out,gP.out,by have:=aal.out;omega,HZ4.out,Tz.out,Yt.out⟩
end
end Go.Proofs.YtmehhgfbnfbnaaaGreat.Zl

namespace Go.Proofs.YtmehhgfbnfbnaaaGreat.Zl
open Go.RowKit Zq Meta
section
variable {j i g pp:Nat}
theorem vB(j i g pp:Nat):puts (qai (Yq j i g pp) zx) (Q9 j i g pp)=fmtS j i g pp:=by
 have hl:=TB j i g pp
 apply List.ext_getElem?
 intro a
 rcases Nat.lt_or_ge a (Yq j i g pp)with h|h
 ·obtain⟨c,hc⟩:∃c,(fmtS j i g pp)[a]? =some c:=⟨_,List.getElem?_eq_getElem (by rw[hl];exact h)⟩
  have:=TA (fmtS j i g pp) 0 (qai (Yq j i g pp) zx) (by rw[hl,qan];omega) a c hc
  rw[Nat.zero_add]at this
  rw[hc]
  exact this
 ·rw[qao (by rw[Yn,qan];exact h),qao (by rw[hl];exact h)]
theorem vz(j i g pp:Nat):(((Dk.fresh (Yq j i g pp) zx).writes (Q9 j i g pp)).2.safe=fmtS j i g pp)/\(((Dk.fresh (Yq j i g pp) zx).writes (Q9 j i g pp)).2.un=[])/\(((Dk.fresh (Yq j i g pp) zx).writes (Q9 j i g pp)).2.dead=false)/\(((Dk.fresh (Yq j i g pp) zx).writes (Q9 j i g pp)).2.cut=false):=by
 rcases UH.WQ (Q9 j i g pp) (Dk.fresh (Yq j i g pp) zx) rfl with⟨h1,h2,h3,h4,h5⟩|⟨h1,_⟩
 ·exact⟨h2.trans (vB j i g pp),h3,h4,h5⟩
 ·cases h1
theorem Ir{a:Nat}(h1:1<=a)(h2:a<Yq j i g pp):(fmtS j i g pp)[a]? =some zx:=by
 obtain⟨n,rfl⟩:∃n,a=n+1:=⟨a-1,by omega⟩
 unfold fmtS
 rw[List.getElem?_cons_succ,qam,if_pos (by omega)]
theorem nI(h:VG j i g pp):UH.E8 1 j (Yq j i g pp) (fmtS j i g pp) 0 []:=by
 have h1:=h.v.j1
 exact⟨TB _ _ _ _,⟨zx,Ir (by omega) (by unfold Yq Ut;omega),.inr ⟨rfl,rfl,rfl⟩⟩,UH.Qg _ _,fun p hp=>(by cases hp),by rw[Yv];simp;omega⟩
theorem Iq(pp q:Nat):X4 pp (qai 64 0) q=false:=by
 unfold X4
 rw[Bits.Od (fun a _=>by unfold Bits.cnd;rw[Oc];simp)]
 rfl
theorem vk(pp:Nat)(G:Meta.Geo):Cons pp (XC G) where
 free q _:=Iq pp q
 held q o h ho:=by
  have:=List.mem_of_getElem? h
  rw[qaj this]at ho
  omega
 ino n hn hk:=by
  rw[qaj hn]at hk
  exact absurd rfl hk
theorem vg(h:VG j i g pp)(a:Nat)(y:List UInt8)(hy:(secs (XC ⟨j,i,g,pp⟩))[a]? =some y):∃c,UH.vw 1 j (fmtS j i g pp) (1+j+a)=some c/\c.b=y:=by
 have hv:(⟨j,i,g,pp⟩:Meta.Geo).Ok:=h.v
 rw[ve hv,qam]at hy
 split at hy
 ·rename_i hlt
  cases hy
  simp only at hlt
  have:=h.v.g1
  have:=h.v.p1
  have V8:1<=g*pp:=Nat.mul_pos (by omega) (by omega)
  refine⟨zx,?_,rfl⟩
  rw[UH.uZ (.inr (by omega))]
  exact Ir (by omega) (by unfold Yq Ut;omega)
 ·cases hy
theorem IK(h:VG j i g pp)(w:qab):
  qae Tryz.prog 16 #[.agg #[j,.int .i64 i,g,pp]] w fun e w'=>∃(b bv bj bm:Nat)(S':Nat->Prop)(k':Dk Sx)(x:Meta.Mem)(A:Option Addr)(c:Nat)(L:List Sc),e=.returned (.tuple #[.pointer (some ⟨b,0,none⟩),.pointer bv,true])/\Bk w' bv 132 (ES j i g pp b bj bm x (XC ⟨j,i,g,pp⟩) (.pointer none) A c false)/\w'.heap[bm]? =some (.map #[] 0)/\Y1 w' w.heap.size x (XC ⟨j,i,g,pp⟩)/\TE w' w.heap.size (.slice A (3+i/2) c) L (secs (XC ⟨j,i,g,pp⟩))/\
   DJ w.heap.size w' S' bj b 1 j 0 k'/\UH.Rest 1 j (Yq j i g pp) k' 0/\UH.vw 1 j k'.safe=UH.vw 1 j (fmtS j i g pp)/\k'.cut=false/\w.heap.size<=bv/\w.heap.size<=bm/\qaf w.heap.size w w':=by
 have hmax:=h.all
 have jJ:=Q8 j i g pp
 have Kn:Hid (∀u:qab,qae Tryz.prog 65 #[.agg #[j,.int .i64 i,g,pp]] u fun e w'=>e=.returned (.tuple #[.agg #[.int .i64 1,.int .i64 (1+(j:Int)),.int .i64 (1+(j:Int)+1),.int .i64 (1+(j:Int)+1+1),.int .i64 (1+(j:Int)+1+1+1),.int .i64 (1+(j:Int)+1+1+1+(i:Int)/2),.int .i64 (1+(j:Int)+1+1+1+(i:Int)/2+(g:Int)*(pp:Int))],()])/\qaf u.heap.size u w'):=χ (fun u=>ZG.Ob h.v u)
 have HDN:Hid (∀u:qab,qae Tryz.prog 66 #[.int .i64 (Yq j i g pp:Int)] u fun e w'=>∃b S,e=.returned (.tuple #[.pointer (some ⟨b,0,none⟩),()])/\qaf u.heap.size u w'/\Zv sx w' S b (Dk.fresh (Yq j i g pp) zx)/\∀i,S i->u.heap.size<=i):=χ (fun u=>nH u (Yq j i g pp) (by omega) zx rfl)
 have aV:Hid (∀(u:qab)(S:Nat->Prop)(b:Nat),DO w.heap.size u S b (Dk.fresh (Yq j i g pp) zx)->w.heap.size<=u.heap.size->qae Tryz.prog 47 #[.pointer (some ⟨b,0,none⟩),.agg #[j,.int .i64 i,g,pp]] u fun e w'=>∃S' k1,e=.returned (.int .i64 0)/\DO w.heap.size w' S' b k1/\k1.safe=fmtS j i g pp/\k1.un=[]/\k1.dead=false/\k1.cut=false/\Zq.Good u w'/\qaf w.heap.size u w'):=χ (fun u S b hu hs=>by
  refine(zQ h hu hs (by simp[Dk.fresh]) rfl rfl (by simp[Dk.fresh])).mono ?_
  rintro e w' ⟨he,⟨S',hS'⟩,h1,h2⟩
  obtain⟨f1,f2,f3,f4⟩:=vz j i g pp
  exact⟨S',_,he,hS',f1,f2,f3,f4,h1,h2⟩)
 have HMO:Hid (∀(u:qab)(S:Nat->Prop)(b:Nat)(k1:Dk Sx),DO w.heap.size u S b k1->w.heap.size<=u.heap.size->k1.safe=fmtS j i g pp->k1.un=[]->k1.dead=false->k1.cut=false->qae Tryz.prog 26 #[.pointer (some ⟨b,0,none⟩)] u fun e w'=>∃(bv bj bm:Nat)(S':Nat->Prop)(k':Dk Sx)(x:Meta.Mem)(A:Option Addr)(c:Nat)(L:List Sc),e=.returned (.tuple #[.pointer bv,()])/\Bk w' bv 132 (ES j i g pp b bj bm x (XC ⟨j,i,g,pp⟩) (.pointer none) A c false)/\w'.heap[bm]? =some (.map #[] 0)/\Y1 w' u.heap.size x (XC ⟨j,i,g,pp⟩)/\TE w' u.heap.size (.slice A (3+i/2) c) L (secs (XC ⟨j,i,g,pp⟩))/\
   DJ w.heap.size w' S' bj b 1 j 0 k'/\UH.Rest 1 j (Yq j i g pp) k' 0/\UH.vw 1 j k'.safe=UH.vw 1 j (fmtS j i g pp)/\k'.cut=false/\u.heap.size<=bv/\u.heap.size<=bm/\Zq.Good u w'/\qaf w.heap.size u w'):=χ (fun u S b k1 hu hs f1 f2 f3 f4=>by
  have hv:(⟨j,i,g,pp⟩:Meta.Geo).Ok:=h.v
  have:=uY h hu hs (T:=Yq j i g pp) (q:=0) (Nat.le_refl _) (by omega) (l:=[]) (by rw[f1];exact nI h) f2 f3 f4 (by decide) (Ip _) (Oa hv) (vk pp _)
   ⟨gV j i g pp,by unfold Dk.now;rw[f1,f2];rfl,rfl⟩ (fun a y hy=>by rw[f1];exact vg h a y hy)
  rw[f1]at this
  exact this)
 have abH:=χ jJ
 clear jJ
 have Yt:=χ (qak w.heap.size w)
 clear h
 go_enter Tryz.func16,Tryz.ntmps16
 go_upto_region 1 with fail
 have hal:=Z0 w (.cells #[j,.int .i64 i,g,pp] 29)
 replace Yt:=χ (Yt.out.trans (hal.mono Yt.out.size))
 have HG:=χ (Bk.new w 29 [j,.int .i64 i,g,pp])
 clear hal
 generalize w.alloc (.cells #[j,.int .i64 i,g,pp] 29)=U1 at*
 obtain⟨g0,g1,g2,g3⟩:=Z7 HG.out
 go_upto_region 2 with(go_at_call 65;(with_reducible refine(Kn.out _).mono ?_);rintro e w1 ⟨he,hb⟩;obtain rfl:=he;replace HG:=χ (HG.out.below hb HG.out.lt);replace Yt:=χ (Yt.out.trans (hb.mono Yt.out.size));clear g0 g1 g2 g3;clear hb;obtain⟨g0,g1,g2,g3⟩:=Z7 HG.out)
 have hal:=Z0 w1 (.cells #[.int .i64 1,.int .i64 (1+(j:Int)),.int .i64 (1+(j:Int)+1),.int .i64 (1+(j:Int)+1+1),.int .i64 (1+(j:Int)+1+1+1),.int .i64 (1+(j:Int)+1+1+1+(i:Int)/2),.int .i64 (1+(j:Int)+1+1+1+(i:Int)/2+(g:Int)*(pp:Int))] 112)
 replace HG:=χ (HG.out.below hal HG.out.lt)
 replace Yt:=χ (Yt.out.trans (hal.mono Yt.out.size))
 have HP:=χ (Bk.new w1 112 [.int .i64 1,.int .i64 (1+(j:Int)),.int .i64 (1+(j:Int)+1),.int .i64 (1+(j:Int)+1+1),.int .i64 (1+(j:Int)+1+1+1),.int .i64 (1+(j:Int)+1+1+1+(i:Int)/2),.int .i64 (1+(j:Int)+1+1+1+(i:Int)/2+(g:Int)*(pp:Int))])
 clear g0 g1 g2 g3
 clear hal
 generalize gU:w1.heap.size=zU2 at*
 clear gU
 generalize w1.alloc (.cells #[.int .i64 1,.int .i64 (1+(j:Int)),.int .i64 (1+(j:Int)+1),.int .i64 (1+(j:Int)+1+1),.int .i64 (1+(j:Int)+1+1+1),.int .i64 (1+(j:Int)+1+1+1+(i:Int)/2),.int .i64 (1+(j:Int)+1+1+1+(i:Int)/2+(g:Int)*(pp:Int))] 112)=U2 at*
 obtain⟨g0,g1,g2,g3⟩:=Z7 HG.out
 obtain⟨l0,l1,l2,l3,l4,l5,l6⟩:=ZU HP.out
 rw[<-abH.out]at l6
 go_upto_region 3 with(go_at_call 66;have jI:=χ Yt.out.size;(with_reducible refine(HDN.out _).mono ?_);rintro e w2 ⟨b,S,he,hb,hD,hlo⟩;obtain rfl:=he;replace HG:=χ (HG.out.below hb HG.out.lt);replace HP:=χ (HP.out.below hb HP.out.lt);replace Yt:=χ (Yt.out.trans (hb.mono Yt.out.size));have HD:Hid (DO w.heap.size w2 S b (Dk.fresh (Yq j i g pp) zx)):=χ ⟨hD,fun q hq=>qaa jI.out (hlo q hq)⟩;clear hD hlo jI;clear g0 g1 g2 g3 l0 l1 l2 l3 l4 l5 l6;clear hb;obtain⟨g0,g1,g2,g3⟩:=Z7 HG.out;obtain⟨l0,l1,l2,l3,l4,l5,l6⟩:=ZU HP.out)
 clear l0 l1 l2 l3 l4 l5 l6
 clear HP
 go_upto_region 5 with(go_at_call 47;(with_reducible refine(aV.out _ _ _ HD.out Yt.out.size).mono ?_);rintro e w3 ⟨S1,k1,he,hdo,f1,f2,f3,f4,hgd,hb⟩;obtain rfl:=he;replace HG:=χ (hgd.bk HG.out);replace Yt:=χ (Yt.out.trans hb);clear HD;have HD:=χ hdo;have F1:=χ f1;have F2:=χ f2;have F3:=χ f3;have F4:=χ f4;clear hdo f1 f2 f3 f4;clear g0 g1 g2 g3;clear hb hgd;obtain⟨g0,g1,g2,g3⟩:=Z7 HG.out)
 go_wp2_with (go_at_call 26;have jI:=χ Yt.out.size;(with_reducible refine(HMO.out _ _ _ _ HD.out Yt.out.size F1.out F2.out F3.out F4.out).mono ?_);rintro e w4 ⟨bv,bj,bm,S',k',x,A,c,L,he,r1,r2,r3,r4,r5,r6,r7,r8,r9,r10,hgd,hb⟩;obtain rfl:=he;replace HG:=χ (hgd.bk HG.out);replace Yt:=χ (Yt.out.trans hb);have R:=χ (qac r1 (qac r2 (qac (r3.base jI.out) (qac (r4.lower jI.out) (qac r5 (qac r6 (qac r7 (qac r8 (qac (qaa jI.out r9) (qaa jI.out r10))))))))));clear jI r1 r2 r3 r4 r5 r6 r7 r8 r9 r10;clear g0 g1 g2 g3;clear hb hgd;obtain⟨g0,g1,g2,g3⟩:=Z7 HG.out)
 clear Kn HDN aV HMO
 obtain⟨r1,r2,r3,r4,r5,r6,r7,r8,r9,r10⟩:=R.out
 refine qah (v:=.tuple #[.pointer (some ⟨b,0,none⟩),.pointer bv,true]) (by simp[results,Tryz.results16,go_sem]) rfl ?_
 exact⟨b,bv,bj,bm,S',k',x,A,c,L,rfl,r1,r2,r3,r4,r5,r6,r7,r8,r9,r10,Yt.out⟩
end
end Go.Proofs.YtmehhgfbnfbnaaaGreat.Zl

namespace Go.Proofs.YtmehhgfbnfbnaaaGreat.Zl
open Go.RowKit Go.Maps Go.ChangeShapes Go.WideShapes
section
variable {s:Int}
def Ki(s:Int):Lit:=.int .i64 s
theorem Ca(s:Int):WideAt.IsKeyLit (Ki s):=trivial
theorem BZ{t:Int}(h:s≠t):Ki s≠Ki t:=fun e=>h (by simpa[Ki]using e)
theorem nN:Keyed Tryz.prog 3:=int_keyed Tryz.underlying3
def Fe(s:Int):Prop:= -9223372036854775808<=s/\s<=9223372036854775807
theorem jP(h:Fe s):(Lit.int .i64 s).wf=true:=WalkArith.wf_i64 h
theorem ah(h:(Lit.int .i64 s).wf=true):Fe s:=by
 have:=bounds_i64 h
 unfold Fe;omega
theorem BX(h:Fe s):keyOf Tryz.prog 3 (.int .i64 s)=some (Ki s):=keyOf_int_mk Tryz.underlying3 (jP h)
structure Elem{β:Type}(e:TypeId)(R:qad->Option (qag Unit × List qal))(enc:β->qad)(dat:β->qag Unit)(ok:β->Prop)(z:β):Prop where
 make:∀x,ok x->R (enc x)=some (dat x,[])
 inv:∀v y,R v=some y->∃x,v=enc x/\y=(dat x,[])/\ok x
 inj:∀x y,dat x=dat y->x=y
 zero:∀w,(zeroValue e).run Tryz.prog w=.ok (enc z) w
 okz:ok z
end
section
variable {β:Type}{e t:TypeId}{R:qad->Option (qag Unit × List qal)}{enc:β->qad}{dat:β->qag Unit}{ok:β->Prop}{z:β}
def Zu(R:qad->Option (qag Unit × List qal))(dat:β->qag Unit)(z:β)(w:qab)(b:Nat)(at_:Int->β)(there:Int->Bool)(m:Nat):Prop:=
 ∃D:qag Unit,w.ownsMap Tryz.prog 3 R b m D/\(∀s,D.atKey (Ki s) (dat z)=dat (at_ s))/\(∀s,has D (Ki s)=there s)/\size D=m
theorem tight{w:qab}{b n:Nat}{D:qag Unit}(h:w.ownsMap Tryz.prog 3 R b n D):w.ownsMap Tryz.prog 3 R b (size D) D:=by
 obtain⟨es,clock,hb,F,hs,rfl⟩:=h
 exact⟨es,clock,hb,F,by simp[size,length_sorted],rfl⟩
variable {w:qab}{b m:Nat}{at_:Int->β}{there:Int->Bool}
section
variable {s:Int}{x:β}{o:Oper}{a:Act}{Q:Exit->Act->qab->Prop}
theorem Zu.lt (h:Zu R dat z w b at_ there m):b<w.heap.size:=by
 obtain⟨D,h1,_⟩:=h
 exact h1.lt
theorem Zu.keep {w':qab}(h:Zu R dat z w b at_ there m)(hb:w'.heap[b]? =w.heap[b]?):Zu R dat z w' b at_ there m:=by
 obtain⟨D,⟨es,clock,h1,h2⟩,h3⟩:=h
 exact⟨D,⟨es,clock,hb.trans h1,h2⟩,h3⟩
theorem Zu.isMap (h:Zu R dat z w b at_ there m):∃es clock,w.heap[b]? =some (.map es clock):=by
 obtain⟨D,⟨es,clock,h1,_⟩,_⟩:=h
 exact⟨es,clock,h1⟩
theorem Zu.made (w:qab)(R:qad->Option (qag Unit × List qal))(dat:β->qag Unit)(z:β):Zu R dat z (w.alloc (.map #[] 0)) w.heap.size (fun _=>z) (fun _=>false) 0:=
 ⟨.map [],qab.ownsMap_made w Tryz.prog 3 R,fun _=>rfl,fun _=>rfl,rfl⟩
theorem Zu.look (E:Elem e R enc dat ok z)(ht:Tryz.prog.underlying t=some (.map 3 e))(h:Zu R dat z w b at_ there m)(hs:Fe s):
  (Instr.lookup t (.map (some b)) (.int .i64 s) false).run Tryz.prog w=.ok (enc (at_ s)) w/\ok (at_ s):=by
 obtain⟨D,h1,h2,_⟩:=h
 obtain⟨v,ps,hrun,hv⟩:=h1.lookup nN ht (E.zero w) (E.make z E.okz) (BX hs)
 obtain⟨x,rfl,hx,hok⟩:=E.inv _ _ hv
 have e1:=h2 s
 rw[Prod.mk.injEq]at hx
 obtain rfl:=E.inj _ _ (hx.1.symm.trans e1)
 exact⟨hrun,hok⟩
theorem Zu.put (E:Elem e R enc dat ok z)(ht:Tryz.prog.underlying t=some (.map 3 e))(h:Zu R dat z w b at_ there m)(hm:m<maxLen)(hs:Fe s)(hx:ok x):
  ∃w',(Instr.mapUpdate t (.map (some b)) (.int .i64 s) (enc x)).run Tryz.prog w=.ok () w'/\Zu R dat z w' b (fun k=>if k=s then x else at_ k) (fun k=>k==s||there k) (if there s then m else m+1)/\w.grownBy w' (some b):=by
 obtain⟨D,h1,h2,h3,h4⟩:=h
 obtain⟨w',hrun,h5,h6⟩:=h1.update nN ht hm (BX hs) (E.make x hx)
 have hT:=h1.tidy nN
 have hsz:size (D.put (Ki s) (dat x))=if there s then m else m+1:=by rw[size_put hT,h3 s,h4]
 refine⟨w',hrun,⟨_,by have:=tight h5;rwa[hsz]at this,fun k=>?_,fun k=>?_,hsz⟩,h6⟩
 ·by_cases hk:k=s
  ·subst hk;simp[atKey_put_same hT.isMap (Ca k)]
  ·simp[hk,atKey_put_other (BZ hk),h2]
 ·by_cases hk:k=s
  ·subst hk;simp[has_put_same hT.isMap (Ca k)]
  ·rw[has_put_other (BZ hk),h3];simp[hk]
theorem Zu.len (ht:Tryz.prog.underlying t=some (.map 3 e))(h:Zu R dat z w b at_ there m)(ty:TypeId):(Builtin.len_ #[t] ty #[.map (some b)]).run Tryz.prog w=.ok (.int .i64 m) w:=by
 obtain⟨D,h1,h2,h3,h4⟩:=h
 rw[<-h4]
 exact h1.len ht ty
theorem BV{K:Act->qab->Prop}(mo so vo:Operand)(ho:o.op=Op.mapUpdate t mo so vo)(E:Elem e R enc dat ok z)(ht:Tryz.prog.underlying t=some (.map 3 e))(hm:a.eval mo=.map (some b))(h:Zu R dat z w b at_ there m)(hlt:m<maxLen)(hs:Fe s)(hse:a.eval so=.int .i64 s)(hx:ok x)(hxe:a.eval vo=enc x)(hK:∀w',Zu R dat z w' b (fun k=>if k=s then x else at_ k) (fun k=>k==s||there k) (if there s then m else m+1)->w.grownBy w' (some b)->K (a.put o.dst undef) w'):o.wp Tryz.prog a w K Q:=by
 obtain⟨w',hrun,h1,h2⟩:=h.put E ht hlt hs hx
 unfold Oper.wp
 simp[execOp,ho,hm,hse,hxe,hrun,Result.andThen]
 exact hK w' h1 h2
theorem IL{ops:Array Oper}{rest:List Oper}(hg:o.guard=none)(mo so vo:Operand)(ho:o.op=Op.mapUpdate t mo so vo)(E:Elem e R enc dat ok z)(ht:Tryz.prog.underlying t=some (.map 3 e))(hm:a.eval mo=.map (some b))(h:Zu R dat z w b at_ there m)(hlt:m<maxLen)(hs:Fe s)(hse:a.eval so=.int .i64 s)(hx:ok x)(hxe:a.eval vo=enc x)(hK:∀w',Zu R dat z w' b (fun k=>if k=s then x else at_ k) (fun k=>k==s||there k) (if there s then m else m+1)->w.grownBy w' (some b)->wpList Tryz.prog ops Q rest (a.put o.dst undef) w'):wpList Tryz.prog ops Q (o::rest) a w:=
 wpList_plain hg fun _ hK'=>BV mo so vo ho E ht hm h hlt hs hse hx hxe fun w' h1 h2=>hK' _ _ (hK w' h1 h2)
end
end
section
variable {c d:Sx}
theorem gW(h:sx c=sx d):c=d:=by
 unfold sx at h
 obtain⟨h1,h2⟩:=List.append_inj h (by rw[Z4,Z4,c.hb,d.hb])
 refine Sx.same (EJ h1) ?_
 have:(c.t:Int)=d.t:=by simpa using h2
 omega
def Kh(c:Sx):qad:=.agg (sx c).toArray
def Xz(c:Sx):qag Unit:=.lit (.string (c.b++[UInt8.ofNat (c.t/256),UInt8.ofNat c.t]))
noncomputable def XA(v:qad):Option (qag Unit × List qal):=@dite _ (∃c:Sx,v=Kh c) (Classical.propDecidable _) (fun h=>some (Xz h.choose,[])) fun _=>none
theorem vC(h:Kh c=Kh d):c=d:=by
 unfold Kh at h
 injection h with h
 exact gW (by simpa using congrArg Array.toList h)
theorem nJ(c:Sx):XA (Kh c)=some (Xz c,[]):=by
 unfold XA
 have hx:∃d:Sx,Kh c=Kh d:=⟨c,rfl⟩
 rw[dif_pos hx]
 rw[<-vC hx.choose_spec]
theorem aaj:Elem 163 XA Kh Xz (fun _=>True) zx where
 make c _:=nJ c
 inv v y h:=by
  unfold XA at h
  split at h
  ·rename_i hx
   exact⟨hx.choose,hx.choose_spec,(Option.some.inj h).symm,trivial⟩
  ·cases h
 inj c d h:=by
  unfold Xz at h
  injection h with h
  injection h with h
  obtain⟨h1,h2⟩:=List.append_inj h (by rw[c.hb,d.hb])
  refine Sx.same h1 ?_
  have h3:=c.ht
  have h4:=d.ht
  simp only[List.cons.injEq,and_true]at h2
  have e1:=congrArg UInt8.toNat h2.1
  have e2:=congrArg UInt8.toNat h2.2
  simp only[UInt8.toNat_ofNat']at e1 e2
  omega
 zero w:=by kernel_rfl
 okz:=trivial
end
end Go.Proofs.YtmehhgfbnfbnaaaGreat.Zl

namespace Go.Proofs.YtmehhgfbnfbnaaaGreat.Zl
open Go.RowKit Zq Meta
section
variable {w w':qab}{base e k n bv f:Nat}{v:qad}{xs ys:List qad}
def Rk(x:Meta.Mem)(m:Meta.Met)(bm:Nat)(rest:List qad):List qad:=.slice x.rA m.rows.length x.rc:: .slice x.oA m.own.length x.oc:: .slice x.uA m.used.length x.uc:: .slice x.iA m.ino.length x.ic:: .map (some bm)::rest
def At(P:Nat->Prop)(A:Option Addr):Prop:=∀a,A=some a->P a.block
structure Vs(P:Nat->Prop)(w:qab)(bv:Nat)(x:Meta.Mem)(m:Meta.Met)(bm:Nat)(rest:List qad):Prop where
 box:Bk w bv 132 (Rk x m bm rest)
 met:Y1 w 0 x m
 pv:P bv
 pr:At P x.rA
 po:At P x.oA
 pu:At P x.uA
 pi:At P x.iA
theorem YT(h:w.ownsRow base e k v n xs):∃A c,v=.slice A n c/\At (base<=·) A:=by
 rcases h.2 with⟨h1,h2⟩|⟨g,cap,cur,h1,hb,_⟩
 ·have hz:n=0:=by first|exact h2.1|omega|skip
  subst h1
  exact⟨none,0,by rw[hz],fun a h=>by cases h⟩
 ·exact⟨_,_,h1,fun a h=>by cases h;exact hb⟩
theorem YR(hB:Bk w bv f ys)(hk:∀i,i<w.heap.size->i≠bv->w'.heap[i]? =w.heap[i]?)(h:w.ownsRow base e k v n xs)(he:e≠f):w'.ownsRow base e k v n xs:=by
 refine⟨h.1,?_⟩
 rcases h.2 with h2|⟨g,cap,cur,h1,hb,hc,h3⟩
 ·exact .inl h2
 ·refine .inr ⟨g,cap,cur,h1,hb,?_,h3⟩
  rw[hk g (XZ hc) (fun hg=>by
   subst hg
   have hB:w.heap[g]? =_:=hB
   rw[hc]at hB
   cases hB
   exact he rfl)]
  exact hc
theorem Y1.other (hB:Bk w bv f ys)(hk:∀i,i<w.heap.size->i≠bv->w'.heap[i]? =w.heap[i]?){x:Meta.Mem}{m:Meta.Met}(h:Y1 w base x m)(he:f≠68/\f≠3/\f≠5/\f≠40:=by decide):Y1 w' base x m:=
 ⟨YR hB hk h.rows he.1.symm,YR hB hk h.own he.2.1.symm,YR hB hk h.used he.2.2.1.symm,YR hB hk h.ino he.2.2.2.symm⟩
end
section
variable {P Q:Nat->Prop}{w w':qab}{bv bm:Nat}{x:Meta.Mem}{m:Meta.Met}{rest:List qad}
section
variable {A:Option Addr}{c:Nat}
theorem At.mono (h:At P A)(hQ:∀i,P i->Q i):At Q A:=fun a ha=>hQ _ (h a ha)
theorem Vs.below (h:Vs P w bv x m bm rest)(hb:qaf w.heap.size w w'):Vs P w' bv x m bm rest:=⟨h.box.below hb h.box.lt,h.met.below hb,h.pv,h.pr,h.po,h.pu,h.pi⟩
theorem Vs.mono (h:Vs P w bv x m bm rest)(hQ:∀i,P i->Q i):Vs Q w bv x m bm rest:=⟨h.box,h.met,hQ _ h.pv,h.pr.mono hQ,h.po.mono hQ,h.pu.mono hQ,h.pi.mono hQ⟩
theorem Vs.cells (h:Vs P w bv x m bm rest):w.cell? ⟨bv,0,none⟩=some (.slice x.rA m.rows.length x.rc)/\w.cell? ⟨bv,1,none⟩=some (.slice x.oA m.own.length x.oc)/\w.cell? ⟨bv,2,none⟩=some (.slice x.uA m.used.length x.uc)/\w.cell? ⟨bv,3,none⟩=some (.slice x.iA m.ino.length x.ic)/\w.cell? ⟨bv,4,none⟩=some (.map (some bm)):=
 ⟨h.box.cell 0,h.box.cell 1,h.box.cell 2,h.box.cell 3,h.box.cell 4⟩
theorem YY(w:qab)(g i:Nat)(u:qad):Kept (· =g) w (w.setCell ⟨g,i,none⟩ u):=Kept.Y4 (ZT (qab.grownBy.refl w (some g)) i u) (fun k hk=>by cases hk;rfl)
theorem Xp(w:qab)(g q:Nat)(u:qad):∀i,i<w.heap.size->i≠g->(w.setCell ⟨g,q,none⟩ u).heap[i]? =w.heap[i]? :=fun i hi hg=>(YY w g q u).block i hi hg
theorem Vs.used (h:Vs P w bv x m bm rest){l:List UInt8}(hw:w.ownsRow 0 5 1 (.slice A l.length c) l.length (Z6 l))(hA:At Q A)(hP:∀i,P i->Q i):
  Vs Q (w.setCell ⟨bv,2,none⟩ (.slice A l.length c)) bv {x with uA:=A,uc:=c} {m with used:=l} bm rest:=
 have hs:=Xp w bv 2 (.slice A l.length c)
 have hm:=Y1.other h.box hs h.met
 ⟨h.box.set 2 _,⟨hm.rows,hm.own,YR h.box hs hw (by decide),hm.ino⟩,hP _ h.pv,h.pr.mono hP,h.po.mono hP,hA,h.pi.mono hP⟩
theorem Vs.rows (h:Vs P w bv x m bm rest){l:List Z8.Rw}(hw:w.ownsRow 0 68 2 (.slice A l.length c) l.length (Z8.ZV l))(hA:At Q A)(hP:∀i,P i->Q i):
  Vs Q (w.setCell ⟨bv,0,none⟩ (.slice A l.length c)) bv {x with rA:=A,rc:=c} {m with rows:=l} bm rest:=
 have hs:=Xp w bv 0 (.slice A l.length c)
 have hm:=Y1.other h.box hs h.met
 ⟨h.box.set 0 _,⟨YR h.box hs hw (by decide),hm.own,hm.used,hm.ino⟩,hP _ h.pv,hA,h.po.mono hP,h.pu.mono hP,h.pi.mono hP⟩
end
end
section
variable {P:Nat->Prop}{w:qab}{bv bm:Nat}{x:Meta.Mem}{m:Meta.Met}{rest:List qad}
theorem EK(h:Vs P w bv x m bm rest)(hl:m.used.length=64)(a:Nat)(ha:a<512)(on:Bool):
  qae Tryz.prog 104 #[.pointer bv,a,on] w fun e w'=>e=.returned (.tuple #[])/\(∃A c,Vs (fun i=>P i\/w.heap.size<=i) w' bv {x with uA:=A,uc:=c} {m with used:=Bits.wb m.used a on} bm rest)/\Kept (· =bv) w w':=by
 have HW:Hid (qae Tryz.prog 175 #[.slice x.uA m.used.length x.uc,a,on] w fun e w'=>∃v,e=.returned (.tuple #[v,()])/\Bits.Made w (Bits.wb m.used a on) v w'):=χ (Bits.nL m.used x.uA _ x.uc a on w rfl h.met.lies.used (by omega) (by omega))
 have H:=χ h
 obtain⟨c0,c1,c2,c3,c4⟩:=h.cells
 clear h hl ha
 go_enter Tryz.func104,Tryz.ntmps104
 go_wp2_with (go_at_call 175;(with_reducible refine HW.out.mono ?_);rintro e w1 ⟨v,he,hm,hb⟩;obtain rfl:=he;obtain⟨A,c,hv,hA⟩:=YT hm;subst hv;have HV:=χ (H.out.below hb);have HM:=χ hm;have HA:=χ hA;have HB:=χ hb;clear hm hb hA c0 c1 c2 c3 c4;obtain⟨c0,c1,c2,c3,c4⟩:=HV.out.cells;have fz:=HV.out.box.frozen 2)
 go_end0
 exact⟨rfl,⟨A,c,HV.out.used (ZL HM.out (Nat.zero_le _)) (HA.out.mono fun _ h=>.inr h) (fun _ h=>.inl h)⟩,(Kept.of_below HB.out).trans (YY _ _ _ _) (fun _ h=>.inl h)⟩
theorem RP(h:Vs P w bv x m bm rest)(a:Nat)(h0:(Z8.ZH m.rows a).err=0):
  qae Tryz.prog 106 #[.pointer bv,.int .u16 a] w fun e w'=>e=.returned (.tuple #[.int .i64 ((Z8.ZH m.rows a).at_:Int),()])/\(∃A c,Vs (fun i=>P i\/w.heap.size<=i) w' bv {x with rA:=A,rc:=c} {m with rows:=(Z8.ZH m.rows a).rows} bm rest)/\Kept (· =bv) w w':=by
 have HW:Hid (qae Tryz.prog 176 #[.slice x.rA m.rows.length x.rc,.int .u16 a] w fun e w'=>∃v,e=.returned (.tuple #[v,.int .i64 ((Z8.ZH m.rows a).at_:Int),()])/\Z8.Given w w' v (Z8.ZH m.rows a).rows):=χ (by
  have:=Z8.Cb m.rows x.rA m.rows.length x.rc a w rfl h.met.lies.rows
  unfold Z8.Ww at this
  rwa[h0]at this)
 have H:=χ h
 obtain⟨c0,c1,c2,c3,c4⟩:=h.cells
 clear h h0
 generalize hr:Z8.ZH m.rows a=r at*
 clear hr
 go_enter Tryz.func106,Tryz.ntmps106
 go_wp2_with (go_at_call 176;(with_reducible refine HW.out.mono ?_);rintro e w1 ⟨v,he,hm,hb⟩;obtain rfl:=he;obtain⟨A,c,hv,hA⟩:=YT hm;subst hv;have HV:=χ (H.out.below hb);have HM:=χ hm;have HA:=χ hA;have HB:=χ hb;clear hm hb hA c0 c1 c2 c3 c4;obtain⟨c0,c1,c2,c3,c4⟩:=HV.out.cells;have fz:=HV.out.box.frozen 0)
 refine qah (v:=.tuple #[r.at_,()]) (by simp[results,Tryz.results106,go_sem]) rfl ?_
 exact zX1
theorem Qh(h:Vs P w bv x m bm rest)(a:Nat)(h0:(Z8.ZH m.rows a).err≠0):
  qae Tryz.prog 106 #[.pointer bv,.int .u16 a] w fun e w'=>e=.returned (.tuple #[(),.int .i64 ((Z8.ZH m.rows a).err:Int)])/\qaf w.heap.size w w':=by
 have HW:Hid (qae Tryz.prog 176 #[.slice x.rA m.rows.length x.rc,.int .u16 a] w fun e w'=>Z8.Ww w (Z8.ZH m.rows a) e w'):=χ (Z8.Cb m.rows x.rA m.rows.length x.rc a w rfl h.met.lies.rows)
 have hne:((Z8.ZH m.rows a).err:Int)≠0:=by omega
 obtain⟨c0,c1,c2,c3,c4⟩:=h.cells
 clear h h0
 generalize hr:Z8.ZH m.rows a=r at*
 clear hr
 go_enter Tryz.func106,Tryz.ntmps106
 go_wp2_with (go_at_call 176;(with_reducible refine HW.out.mono ?_);rintro e w1 ⟨v,he,hm,hb⟩;obtain rfl:=he;have HB:=χ hb;clear hm hb c0 c1 c2 c3 c4)
 refine qah (v:=.tuple #[(),r.err]) (by simp[results,Tryz.results106,go_sem]) rfl ?_
 exact⟨rfl,HB.out⟩
theorem Pq(h:Vs P w bv x m bm rest)(a:Int)(h0:(Z8.YH m.rows a).err=0):
  qae Tryz.prog 110 #[.pointer bv,a] w fun e w'=>e=.returned (.tuple #[])/\(∃A c,Vs (fun i=>P i\/w.heap.size<=i) w' bv {x with rA:=A,rc:=c} {m with rows:=(Z8.YH m.rows a).rows} bm rest)/\Kept (· =bv) w w':=by
 have HW:Hid (qae Tryz.prog 180 #[.slice x.rA m.rows.length x.rc,a] w fun e w'=>∃v,e=.returned (.tuple #[v,()])/\Z8.Given w w' v (Z8.YH m.rows a).rows):=χ (by
  have:=Z8.nK m.rows x.rA m.rows.length x.rc a w rfl h.met.lies.rows
  unfold Z8.Yh at this
  rwa[h0]at this)
 have H:=χ h
 obtain⟨c0,c1,c2,c3,c4⟩:=h.cells
 clear h h0
 generalize hr:Z8.YH m.rows a=r at*
 clear hr
 go_enter Tryz.func110,Tryz.ntmps110
 go_wp2_with (go_at_call 180;(with_reducible refine HW.out.mono ?_);rintro e w1 ⟨v,he,hm,hb⟩;obtain rfl:=he;obtain⟨A,c,hv,hA⟩:=YT hm;subst hv;have HV:=χ (H.out.below hb);have HM:=χ hm;have HA:=χ hA;have HB:=χ hb;clear hm hb hA c0 c1 c2 c3 c4;obtain⟨c0,c1,c2,c3,c4⟩:=HV.out.cells;have fz:=HV.out.box.frozen 0)
 go_end0
 exact zX1
end
end Go.Proofs.YtmehhgfbnfbnaaaGreat.Zl
