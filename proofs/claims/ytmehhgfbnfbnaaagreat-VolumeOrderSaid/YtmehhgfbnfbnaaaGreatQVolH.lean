import Derived.Test.YtmehhgfbnfbnaaaGreatQVolG
import Derived.Test.YtmehhgfbnfbnaaaGreatQTk
import Derived.Deep.MidRow
import Derived.Lib.LazyBuf
import Derived.Test.YtmehhgfbnfbnaaaGreatQMetaX4
set_option maxRecDepth 100000
set_option maxHeartbeats 25600000
open Go renaming Calls->qaa
namespace Go.Proofs.YtmehhgfbnfbnaaaGreat
theorem zqq0{P:Prop}(h:P:=by
 subst hdd
 clear hd
 go_enter Tryz.func90,Tryz.ntmps90
 go_wp2
 go_ret
 exact⟨rfl,rfl⟩):P:=h
end Go.Proofs.YtmehhgfbnfbnaaaGreat
namespace Go.Proofs.YtmehhgfbnfbnaaaGreat.Zl
open Go.RowKit Zq Meta
theorem qj{j i g pp:Nat}{P:Nat->Prop}{w0 w:World}{bv bm b bj c:Nat}{x:Meta.Mem}{m:Meta.Met}{be:Value}{A:Option Addr}{dead:Bool}{at_:Int->Sx}{there:Int->Bool}{n:Nat}(h:VM P w0 w bv bm x m (ZZ j i g pp b bj be A c dead) at_ there n):
  qaa Tryz.prog 46 #[.pointer bv] w fun e w'=>e=.returned (.int .i64 n)/\w=w':=by
 obtain⟨c0,c1,c2,c3,c4⟩:=h.vs.cells
 have hlen:=h.map.len Tryz.underlying125 3
 clear h
 go_enter Tryz.func46,Tryz.ntmps46
 go_wp2
 go_ret
 exact⟨rfl,rfl⟩
end Go.Proofs.YtmehhgfbnfbnaaaGreat.Zl

namespace Go.Proofs.YtmehhgfbnfbnaaaGreat.Zl
open Go.RowKit Zq Meta
theorem UJ{P:Nat->Prop}{w:World}{bv bm:Nat}{x:Meta.Mem}{m:Meta.Met}{rest:List Value}(h:Vs P w bv x m bm rest)(a:Int):
  qaa Tryz.prog 90 #[.pointer bv,a] w fun e w'=>e=.returned (.bool (decide (0<=a/\a<(m.ino.length:Int))))/\w=w':=by
 obtain⟨c0,c1,c2,c3,c4⟩:=h.cells
 clear h
 generalize m.ino.length=I at*
 generalize hd:decide (0<=a/\a<(I:Int))=d at*
 by_cases h0:0<=a
 ·by_cases h1:a<(I:Int)
  ·have hdd:d=true:=by rw[<-hd];exact decide_eq_true ⟨h0,h1⟩
   exact zqq0
  ·have hdd:d=false:=by rw[<-hd];exact decide_eq_false (fun h=>h1 h.2)
   exact zqq0
 ·have hdd:d=false:=by rw[<-hd];exact decide_eq_false (fun h=>h0 h.1)
  exact zqq0
end Go.Proofs.YtmehhgfbnfbnaaaGreat.Zl

namespace Go.Proofs.YtmehhgfbnfbnaaaGreat.Zl
open Go.RowKit Zq Meta
theorem xE{j i g pp:Nat}{P:Nat->Prop}{w0 w:World}{bv bm b bj c:Nat}{x:Meta.Mem}{m:Meta.Met}{be:Value}{A:Option Addr}{dead:Bool}{at_:Int->Sx}{there:Int->Bool}{n:Nat}(h:VM P w0 w bv bm x m (ZZ j i g pp b bj be A c dead) at_ there n)(a:Int)(ha:¬ (0<=a/\a<(m.ino.length:Int))):
  qaa Tryz.prog 28 #[.pointer bv,a] w fun e w'=>e=.returned (.tuple #[.agg #["","",(),(),(),(),(),(),(),(),(),(),(),()],.int .u16 0,.int .i64 1])/\VM P w0 w' bv bm x m (ZZ j i g pp b bj be A c dead) at_ there n:=by
 have hb:=Bk.new w 40 ["","",(),(),(),(),(),(),(),(),(),(),(),()]
 have hal:=Z0 w (.cells #["","",(),(),(),(),(),(),(),(),(),(),(),()] 40)
 have hv:=h.below hal
 have HV:=χ hv
 have Zk:=χ hb
 have fz:=fun q=>hb.frozen q
 obtain⟨z0,z1,z2,z3,z4,z5,z6,z7,z8,z9,YJ,YI,z12,XE⟩:=ZY hb
 have HH:Hid (qaa Tryz.prog 90 #[.pointer bv,a] (w.alloc (.cells #["","",(),(),(),(),(),(),(),(),(),(),(),()] 40)) fun e w'=>e=.returned (.bool false)/\w.alloc (.cells #["","",(),(),(),(),(),(),(),(),(),(),(),()] 40)=w'):=χ (by
  have:=UJ hv.vs a
  rwa[decide_eq_false ha]at this)
 clear h hb hal hv ha
 go_enter Tryz.func28,Tryz.ntmps28
 go_wp2_with (go_at_call 90;go_must (with_reducible refine HH.out.mono ?_);rintro e w1 ⟨he,hb⟩;obtain rfl:=he;subst hb)
 refine bodyPost_ret (v:=.tuple #[.agg #["","",(),(),(),(),(),(),(),(),(),(),(),()],.int .u16 0,.int .i64 1]) (by simp[results,Tryz.results28,go_sem,z0,z1,z2,z3,z4,z5,z6,z7,z8,z9,YJ,YI,z12,XE]) rfl ⟨rfl,HV.out⟩
end Go.Proofs.YtmehhgfbnfbnaaaGreat.Zl

namespace Go.Proofs.YtmehhgfbnfbnaaaGreat.Zl
open Go.RowKit Zq Meta
section
variable {g:Nat}{u:World}{e:TypeId}{a0 a1 a2 a3 a4 a5 a6 a7 a8 a9 R9 R8 a12 R7:Value}
theorem AU(h:Bk u g e [a0,a1,a2,a3,a4,a5,a6,a7,a8,a9,R9,R8,a12,R7])(v0 v1 v2 v3 v4 v5 v6 v7 v8 v9 v10 v11 v12 v13:Value):Bk (u.setCells g 0 [v0,v1,v2,v3,v4,v5,v6,v7,v8,v9,v10,v11,v12,v13]) g e [v0,v1,v2,v3,v4,v5,v6,v7,v8,v9,v10,v11,v12,v13]:=((((((((((((((h.set 0 v0).set 1 v1).set 2 v2).set 3 v3).set 4 v4).set 5 v5).set 6 v6).set 7 v7).set 8 v8).set 9 v9).set 10 v10).set 11 v11).set 12 v12).set 13 v13)
theorem Jc(h:Bk u g e [a0,a1,a2,a3,a4,a5,a6,a7,a8,a9,R9,R8,a12,R7]):u.there g 0 14:=fun j hj=>
 ⟨by rw[Nat.zero_add,h.cell j,List.getElem?_eq_getElem (by simpa using hj)];rfl,h.frozen _⟩
theorem Y9:(Tryz.prog.info? 40).map (·.size)=some 14:=by kernel_rfl
theorem CX{j i pp:Nat}{P:Nat->Prop}{w0 w:World}{bv bm b bj c:Nat}{x:Meta.Mem}{m:Meta.Met}{be:Value}{A:Option Addr}{dead:Bool}{at_:Int->Sx}{there:Int->Bool}{n:Nat}(h:VM P w0 w bv bm x m (ZZ j i g pp b bj be A c dead) at_ there n)(a:Nat)(nd:Z9.ZC)(ha:m.ino[a]? =some nd)(hk:nd.k=0)(ho:∀y∈m.ino,Z9.YP y)(hl:m.ino.length<=64):
  qaa Tryz.prog 28 #[.pointer bv,a] w fun e w'=>e=.returned (.tuple #[.agg #["","",(),(),(),(),(),(),(),(),(),(),(),()],.int .u16 0,.int .i64 2])/\VM P w0 w' bv bm x m (ZZ j i g pp b bj be A c dead) at_ there n:=by
 have hb:=Bk.new w 40 ["","",(),(),(),(),(),(),(),(),(),(),(),()]
 have hal:=Z0 w (.cells #["","",(),(),(),(),(),(),(),(),(),(),(),()] 40)
 have hv:=h.below hal
 have HV:=χ h
 have Zk:=χ hb
 have HB:=χ hal
 have halt:=(List.getElem?_eq_some_iff.1 ha).1
 have hon:=ho nd (List.mem_of_getElem? ha)
 have HH:Hid (qaa Tryz.prog 90 #[.pointer bv,a] (w.alloc (.cells #["","",(),(),(),(),(),(),(),(),(),(),(),()] 40)) fun e w'=>e=.returned (.bool true)/\w.alloc (.cells #["","",(),(),(),(),(),(),(),(),(),(),(),()] 40)=w'):=χ (by
  have:=UJ hv.vs (a:Int)
  rwa[decide_eq_true ⟨by omega,by omega⟩]at this)
 have HF:Hid (∀u:World,qaa Tryz.prog 91 #[.agg (Z9.ZX nd).toArray] u fun e w'=>e=.returned (.bool true)/\Below u.heap.size u w'):=χ (fun u=>by
  have:=YO nd hon u
  rwa[show(nd.k==0)=true by simp[hk]]at this)
 obtain⟨c0,c1,c2,c3,c4⟩:=hv.vs.cells
 have X6:=hv.vs.met.lies.ino
 obtain⟨bi,oi,hA,-⟩:=YU X6 (by rw[Y8 ho];omega)
 rw[hA]at X6 c3
 have Mw:=χ (Yi X6 ho ha)
 have TW:=χ (Yu nd hon)
 have ha0:(0:Int)<=(a:Int):=by omega
 have ha1:(a:Int)<(m.ino.length:Int):=by omega
 clear h hb hal hv ha hk ho hl halt hon X6 hA
 generalize Z9.ZX nd=cx at*
 go_enter Tryz.func28,Tryz.ntmps28
 go_upto_region 1 with fail
 generalize w.alloc (.cells #["","",(),(),(),(),(),(),(),(),(),(),(),()] 40)=U at*
 go_upto_region 6 with(first|(refine wpList_load_mid rfl 40 (.tmp 28) rfl bi (oi+a*14) rfl cx _ Mw.out Tryz.underlying40 rfl TW.out ?_)|(go_at_call 90;go_must (with_reducible refine HH.out.mono ?_);rintro e w1 ⟨he,hb⟩;obtain rfl:=he;subst hb)|(go_at_call 91;go_must (with_reducible refine(HF.out _).mono ?_);rintro e w2 ⟨he,hb⟩;obtain rfl:=he;replace HB:=χ (HB.out.trans (hb.mono HB.out.size));replace Zk:=χ (Zk.out.below hb Zk.out.lt);clear hb c0 c1 c2 c3 c4 Mw))
 have Rq:Hid ((#["","",(),(),(),(),(),(),(),(),(),(),(),()]:Array Value).all (·.oneCell')=true):=χ (by kernel_rfl)
 have L9:=χ (Jc Zk.out)
 have iK:=χ (AU Zk.out (.int .u8 0) (.int .u8 0) (.int .i64 0) (.int .i64 0) (.int .i64 0) (.int .i64 0) (.int .i64 0) (.int .i64 0) (.int .i64 0) (.int .i64 0) (.int .i64 0) (.int .i64 0) (.int .i64 0) (.int .i64 0))
 have Yt:Hid (Below w.heap.size w (w2.setCells w.heap.size 0 ["","",(),(),(),(),(),(),(),(),(),(),(),()])):=χ (below_setCells (Nat.le_refl _) _ 0 _ HB.out)
 go_wp2_with (refine wpList_store_mid rfl 40 (.tmp 4) (.tmp 31) rfl w.heap.size 0 #["","",(),(),(),(),(),(),(),(),(),(),(),()] rfl rfl L9.out Y9 Rq.out ?_;generalize w2.setCells w.heap.size 0 [.int .u8 0,.int .u8 0,.int .i64 0,.int .i64 0,.int .i64 0,.int .i64 0,.int .i64 0,.int .i64 0,.int .i64 0,.int .i64 0,.int .i64 0,.int .i64 0,.int .i64 0,.int .i64 0]=w3 at*)
 skip
 obtain⟨z0,z1,z2,z3,z4,z5,z6,z7,z8,z9,YJ,YI,z12,XE⟩:=ZY iK.out
 refine bodyPost_ret (v:=.tuple #[.agg #["","",(),(),(),(),(),(),(),(),(),(),(),()],.int .u16 0,.int .i64 2]) (by simp[results,Tryz.results28,go_sem,z0,z1,z2,z3,z4,z5,z6,z7,z8,z9,YJ,YI,z12,XE]) rfl ⟨rfl,HV.out.below Yt.out⟩
end
end Go.Proofs.YtmehhgfbnfbnaaaGreat.Zl

namespace Go.Proofs.YtmehhgfbnfbnaaaGreat.Zl
open Go.RowKit Zq Meta
theorem nX{j i g pp:Nat}{P:Nat->Prop}{w0 w:World}{bv bm b bj c:Nat}{x:Meta.Mem}{m:Meta.Met}{be:Value}{A:Option Addr}{dead:Bool}{at_:Int->Sx}{there:Int->Bool}{n:Nat}(h:VM P w0 w bv bm x m (ZZ j i g pp b bj be A c dead) at_ there n)(ho:Rc m)(hlen:m.rows.length<=65536/\m.own.length<=65536/\m.used.length<=65536/\m.ino.length<=65536):
  qaa Tryz.prog 35 #[.pointer bv] w fun e w'=>∃y:Meta.Mem,e=.returned (.agg #[.slice y.rA m.rows.length y.rc,.slice y.oA m.own.length y.oc,.slice y.uA m.used.length y.uc,.slice y.iA m.ino.length y.ic])/\Y1 w' w.heap.size y m/\VM P w0 w' bv bm x m (ZZ j i g pp b bj be A c dead) at_ there n/\Below w.heap.size w w':=by
 have hb:=Bk.new w 60 [.slice none 0 0,.slice none 0 0,.slice none 0 0,.slice none 0 0]
 have hal:=Z0 w (.cells #[.slice none 0 0,.slice none 0 0,.slice none 0 0,.slice none 0 0] 60)
 have hv:=h.below hal
 have HH:=χ h
 have Zk:=χ hb
 have HB:=χ hal
 have HC:Hid (qaa Tryz.prog 96 #[.agg #[.slice x.rA m.rows.length x.rc,.slice x.oA m.own.length x.oc,.slice x.uA m.used.length x.uc,.slice x.iA m.ino.length x.ic]] (w.alloc (.cells #[.slice none 0 0,.slice none 0 0,.slice none 0 0,.slice none 0 0] 60)) fun e w'=>∃y:Meta.Mem,e=.returned (.agg #[.slice y.rA m.rows.length y.rc,.slice y.oA m.own.length y.oc,.slice y.uA m.used.length y.uc,.slice y.iA m.ino.length y.ic])/\Y1 w' (w.alloc (.cells #[.slice none 0 0,.slice none 0 0,.slice none 0 0,.slice none 0 0] 60)).heap.size y m/\Below (w.alloc (.cells #[.slice none 0 0,.slice none 0 0,.slice none 0 0,.slice none 0 0] 60)).heap.size (w.alloc (.cells #[.slice none 0 0,.slice none 0 0,.slice none 0 0,.slice none 0 0] 60)) w'):=χ (by
  exact FM m ho x _ hv.vs.met.lies hlen)
 obtain⟨c0,c1,c2,c3,c4⟩:=hv.vs.cells
 clear h hb hal hv ho hlen
 go_enter Tryz.func35,Tryz.ntmps35
 go_upto_region 1 with fail
 have HZ:Hid (w.heap.size<=(w.alloc (.cells #[.slice none 0 0,.slice none 0 0,.slice none 0 0,.slice none 0 0] 60)).heap.size):=χ (by simp)
 generalize w.alloc (.cells #[.slice none 0 0,.slice none 0 0,.slice none 0 0,.slice none 0 0] 60)=U at*
 go_wp2_with (go_at_call 96;go_must (with_reducible refine HC.out.mono ?_);rintro e w1 ⟨y,he,hy,hb⟩;obtain rfl:=he;replace HB:=χ (HB.out.trans (hb.mono HB.out.size));replace Zk:=χ (Zk.out.below hb Zk.out.lt);have HY:=χ (hy.base HZ.out);clear hb hy c0 c1 c2 c3 c4;obtain⟨z0,z1,z2,z3⟩:=Z7 Zk.out;have fz:=fun q=>Zk.out.frozen q)
 obtain⟨u4,hu4,hb4,hw4,hg4⟩:=uW Zk.out (.slice y.rA m.rows.length y.rc) (.slice y.oA m.own.length y.oc) (.slice y.uA m.used.length y.uc) (.slice y.iA m.ino.length y.ic)
 rw[hu4]
 obtain⟨d0,d1,d2,d3⟩:=Z7 hb4
 refine bodyPost_ret (v:=.agg #[.slice y.rA m.rows.length y.rc,.slice y.oA m.own.length y.oc,.slice y.uA m.used.length y.uc,.slice y.iA m.ino.length y.ic]) (by simp[results,Tryz.results35,go_sem,d0,d1,d2,d3]) rfl ⟨y,rfl,?_,?_,?_⟩
 ·exact Y1.other Zk.out (fun i hi hne=>hg4.block i hi (fun e=>hne (Option.some.inj e))) HY.out
 ·exact HH.out.below (HB.out.trans (hw4 _ (Nat.le_refl _)))
 ·exact HB.out.trans (hw4 _ (Nat.le_refl _))
end Go.Proofs.YtmehhgfbnfbnaaaGreat.Zl
