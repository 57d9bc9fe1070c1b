import Derived.Test.YtmehhgfbnfbnaaaGreatQVolG
import Derived.Test.YtmehhgfbnfbnaaaGreatQTk
import Derived.Deep.MidRow
import Derived.Lib.LazyBuf
import Derived.Test.YtmehhgfbnfbnaaaGreatQMetaX4
set_option maxRecDepth 100000
set_option maxHeartbeats 25600000
namespace Go.Proofs.YtmehhgfbnfbnaaaGreat.Y7
open Go.RowKit Zc Meta
end Go.Proofs.YtmehhgfbnfbnaaaGreat.Y7

namespace Go.Proofs.YtmehhgfbnfbnaaaGreat.Y7
open Go.RowKit Zc Meta
theorem VJ{P:Nat->Prop}{w:World}{bv bm:Nat}{x:Meta.Mem}{m:Meta.Met}{rest:List Value}(h:Vs P w bv x m bm rest)(a:Int):
  Calls Tryz.prog 90 #[.pointer bv,a] w fun e w'=>e=.returned (.bool (decide (0<=a/\a<(m.ino.length:Int))))/\w=w':=by
 obtain⟨c0,c1,c2,c3,c4⟩:=h.cells
 clear h
 generalize m.ino.length=I at*
 generalize hd:decide (0<=a/\a<(I:Int))=d at*
 by_cases h0:0<=a
 ·by_cases h1:a<(I:Int)
  ·have hdd:d=true:=by rw[<-hd];exact decide_eq_true ⟨h0,h1⟩
   subst hdd
   clear hd
   go_enter Tryz.func90,Tryz.ntmps90
   go_wp2
   go_ret
   exact⟨rfl,rfl⟩
  ·have hdd:d=false:=by rw[<-hd];exact decide_eq_false (fun h=>h1 h.2)
   subst hdd
   clear hd
   go_enter Tryz.func90,Tryz.ntmps90
   go_wp2
   go_ret
   exact⟨rfl,rfl⟩
 ·have hdd:d=false:=by rw[<-hd];exact decide_eq_false (fun h=>h0 h.1)
  subst hdd
  clear hd
  go_enter Tryz.func90,Tryz.ntmps90
  go_wp2
  go_ret
  exact⟨rfl,rfl⟩
end Go.Proofs.YtmehhgfbnfbnaaaGreat.Y7

namespace Go.Proofs.YtmehhgfbnfbnaaaGreat.Y7
open Go.RowKit Zc Meta
theorem DY{j i g pp:Nat}{P:Nat->Prop}{w0 w:World}{bv bm b bj c:Nat}{x:Meta.Mem}{m:Meta.Met}{be:Value}{A:Option Addr}{dead:Bool}{at_:Int->Sx}{there:Int->Bool}{n:Nat}(h:VM P w0 w bv bm x m (ZY j i g pp b bj be A c dead) at_ there n)(a:Int)(ha:¬ (0<=a/\a<(m.ino.length:Int))):
  Calls Tryz.prog 28 #[.pointer bv,a] w fun e w'=>e=.returned (.tuple #[.agg #["","",(),(),(),(),(),(),(),(),(),(),(),()],.int .u16 0,.int .i64 1])/\VM P w0 w' bv bm x m (ZY j i g pp b bj be A c dead) at_ there n:=by
 have hb:=Bk.new w 40 ["","",(),(),(),(),(),(),(),(),(),(),(),()]
 have hal:=ZZ w (.cells #["","",(),(),(),(),(),(),(),(),(),(),(),()] 40)
 have hv:=h.below hal
 have HV:=χ hv
 have Zl:=χ hb
 have fz:=fun q=>hb.frozen q
 obtain⟨z0,z1,z2,z3,z4,z5,z6,z7,z8,z9,X5,X4,z12,X3⟩:=Z0 hb
 have HH:Hid (Calls Tryz.prog 90 #[.pointer bv,a] (w.alloc (.cells #["","",(),(),(),(),(),(),(),(),(),(),(),()] 40)) fun e w'=>e=.returned (.bool false)/\w.alloc (.cells #["","",(),(),(),(),(),(),(),(),(),(),(),()] 40)=w'):=χ (by
  have:=VJ hv.vs a
  rwa[decide_eq_false ha]at this)
 clear h hb hal hv ha
 go_enter Tryz.func28,Tryz.ntmps28
 go_wp2_with (go_at_call 90;go_must (with_reducible refine HH.out.mono ?_);rintro e w1 ⟨he,hb⟩;obtain rfl:=he;subst hb)
 refine bodyPost_ret (v:=.tuple #[.agg #["","",(),(),(),(),(),(),(),(),(),(),(),()],.int .u16 0,.int .i64 1]) (by simp[results,Tryz.results28,go_sem,z0,z1,z2,z3,z4,z5,z6,z7,z8,z9,X5,X4,z12,X3]) rfl ⟨rfl,HV.out⟩
end Go.Proofs.YtmehhgfbnfbnaaaGreat.Y7

namespace Go.Proofs.YtmehhgfbnfbnaaaGreat.Y7
open Go.RowKit Zc Meta
section
variable {g:Nat}{u:World}{e:TypeId}{a0 a1 a2 a3 a4 a5 a6 a7 a8 a9 Tz Ty a12 Tx:Value}
theorem FC(h:Bk u g e [a0,a1,a2,a3,a4,a5,a6,a7,a8,a9,Tz,Ty,a12,Tx])(v0 v1 v2 v3 v4 v5 v6 v7 v8 v9 v10 v11 v12 v13:Value):Bk (u.setCells g 0 [v0,v1,v2,v3,v4,v5,v6,v7,v8,v9,v10,v11,v12,v13]) g e [v0,v1,v2,v3,v4,v5,v6,v7,v8,v9,v10,v11,v12,v13]:=((((((((((((((h.set 0 v0).set 1 v1).set 2 v2).set 3 v3).set 4 v4).set 5 v5).set 6 v6).set 7 v7).set 8 v8).set 9 v9).set 10 v10).set 11 v11).set 12 v12).set 13 v13)
theorem MI(h:Bk u g e [a0,a1,a2,a3,a4,a5,a6,a7,a8,a9,Tz,Ty,a12,Tx]):u.there g 0 14:=fun j hj=>
 ⟨by rw[Nat.zero_add,h.cell j,List.getElem?_eq_getElem (by simpa using hj)];rfl,h.frozen _⟩
theorem Zj:(Tryz.prog.info? 40).map (·.size)=some 14:=by kernel_rfl
theorem Iq{j i pp:Nat}{P:Nat->Prop}{w0 w:World}{bv bm b bj c:Nat}{x:Meta.Mem}{m:Meta.Met}{be:Value}{A:Option Addr}{dead:Bool}{at_:Int->Sx}{there:Int->Bool}{n:Nat}(h:VM P w0 w bv bm x m (ZY j i g pp b bj be A c dead) at_ there n)(a:Nat)(nd:Z9.Zz)(ha:m.ino[a]? =some nd)(hk:nd.k=0)(ho:∀y∈m.ino,Z9.YS y)(hl:m.ino.length<=64):
  Calls Tryz.prog 28 #[.pointer bv,a] w fun e w'=>e=.returned (.tuple #[.agg #["","",(),(),(),(),(),(),(),(),(),(),(),()],.int .u16 0,.int .i64 2])/\VM P w0 w' bv bm x m (ZY j i g pp b bj be A c dead) at_ there n:=by
 have hb:=Bk.new w 40 ["","",(),(),(),(),(),(),(),(),(),(),(),()]
 have hal:=ZZ w (.cells #["","",(),(),(),(),(),(),(),(),(),(),(),()] 40)
 have hv:=h.below hal
 have HV:=χ h
 have Zl:=χ hb
 have HB:=χ hal
 have halt:=(List.getElem?_eq_some_iff.1 ha).1
 have hon:=ho nd (List.mem_of_getElem? ha)
 have HH:Hid (Calls Tryz.prog 90 #[.pointer bv,a] (w.alloc (.cells #["","",(),(),(),(),(),(),(),(),(),(),(),()] 40)) fun e w'=>e=.returned (.bool true)/\w.alloc (.cells #["","",(),(),(),(),(),(),(),(),(),(),(),()] 40)=w'):=χ (by
  have:=VJ hv.vs (a:Int)
  rwa[decide_eq_true ⟨by omega,by omega⟩]at this)
 have HF:Hid (∀u:World,Calls Tryz.prog 91 #[.agg (Z9.ZX nd).toArray] u fun e w'=>e=.returned (.bool true)/\Below u.heap.size u w'):=χ (fun u=>by
  have:=YU nd hon u
  rwa[show(nd.k==0)=true by simp[hk]]at this)
 obtain⟨c0,c1,c2,c3,c4⟩:=hv.vs.cells
 have Yc:=hv.vs.met.lies.ino
 obtain⟨bi,oi,hA,-⟩:=Y3 Yc (by rw[Y2 ho];omega)
 rw[hA]at Yc c3
 have OE:=χ (Yo Yc ho ha)
 have UU:=χ (YI nd hon)
 have ha0:(0:Int)<=(a:Int):=by omega
 have ha1:(a:Int)<(m.ino.length:Int):=by omega
 clear h hb hal hv ha hk ho hl halt hon Yc hA
 generalize Z9.ZX nd=cx at*
 go_enter Tryz.func28,Tryz.ntmps28
 go_upto_region 1 with fail
 generalize w.alloc (.cells #["","",(),(),(),(),(),(),(),(),(),(),(),()] 40)=U at*
 go_upto_region 6 with(first|(refine wpList_load_mid rfl 40 (.tmp 28) rfl bi (oi+a*14) rfl cx _ OE.out Tryz.underlying40 rfl UU.out ?_)|(go_at_call 90;go_must (with_reducible refine HH.out.mono ?_);rintro e w1 ⟨he,hb⟩;obtain rfl:=he;subst hb)|(go_at_call 91;go_must (with_reducible refine(HF.out _).mono ?_);rintro e w2 ⟨he,hb⟩;obtain rfl:=he;replace HB:=χ (HB.out.trans (hb.mono HB.out.size));replace Zl:=χ (Zl.out.below hb Zl.out.lt);clear hb c0 c1 c2 c3 c4 OE))
 have Tm:Hid ((#["","",(),(),(),(),(),(),(),(),(),(),(),()]:Array Value).all (·.oneCell')=true):=χ (by kernel_rfl)
 have Oz:=χ (MI Zl.out)
 have fw:=χ (FC Zl.out (.int .u8 0) (.int .u8 0) (.int .i64 0) (.int .i64 0) (.int .i64 0) (.int .i64 0) (.int .i64 0) (.int .i64 0) (.int .i64 0) (.int .i64 0) (.int .i64 0) (.int .i64 0) (.int .i64 0) (.int .i64 0))
 have Yz:Hid (Below w.heap.size w (w2.setCells w.heap.size 0 ["","",(),(),(),(),(),(),(),(),(),(),(),()])):=χ (below_setCells (Nat.le_refl _) _ 0 _ HB.out)
 go_wp2_with (refine wpList_store_mid rfl 40 (.tmp 4) (.tmp 31) rfl w.heap.size 0 #["","",(),(),(),(),(),(),(),(),(),(),(),()] rfl rfl Oz.out Zj Tm.out ?_;generalize w2.setCells w.heap.size 0 [.int .u8 0,.int .u8 0,.int .i64 0,.int .i64 0,.int .i64 0,.int .i64 0,.int .i64 0,.int .i64 0,.int .i64 0,.int .i64 0,.int .i64 0,.int .i64 0,.int .i64 0,.int .i64 0]=w3 at*)
 skip
 obtain⟨z0,z1,z2,z3,z4,z5,z6,z7,z8,z9,X5,X4,z12,X3⟩:=Z0 fw.out
 refine bodyPost_ret (v:=.tuple #[.agg #["","",(),(),(),(),(),(),(),(),(),(),(),()],.int .u16 0,.int .i64 2]) (by simp[results,Tryz.results28,go_sem,z0,z1,z2,z3,z4,z5,z6,z7,z8,z9,X5,X4,z12,X3]) rfl ⟨rfl,HV.out.below Yz.out⟩
end
end Go.Proofs.YtmehhgfbnfbnaaaGreat.Y7

namespace Go.Proofs.YtmehhgfbnfbnaaaGreat.Y7
open Go.RowKit Zc Meta
end Go.Proofs.YtmehhgfbnfbnaaaGreat.Y7
