import Derived.Test.YtmehhgfbnfbnaaaGreatQVolI
import Derived.Test.YtmehhgfbnfbnaaaGreatQVolN
import Derived.Test.YtmehhgfbnfbnaaaGreatQTk
import Derived.Test.YtmehhgfbnfbnaaaGreatQInodeB
set_option maxRecDepth 100000
set_option maxHeartbeats 25600000
open List renaming setIfInBounds_toArray->qaa,set_cons_zero->qab,set_cons_succ->qac,length_set->qak,getElem?_eq_some_iff->qan,take_of_length_le->qao
open Go.IntKind renaming wrap_i64->qad,i64->qag
open Go.Act renaming put->qae
open Go.Value.slice renaming inj->qaf
open Go renaming Calls->qah,World->qaj
open Go.RowKit.Below renaming refl->qai
open Go.Value renaming slice->qal
open Int renaming tdiv_eq_ediv_of_nonneg->qam
namespace Go.Proofs.YtmehhgfbnfbnaaaGreat
theorem zyq0{P:Prop}(h:P:=by
 go_wp2_with (go_at_call 161;go_must (with_reducible refine Wz.out.mono ?_);rintro e w1 ⟨he,hb⟩;obtain rfl:=he;subst hb)
 go_ret
 exact⟨rfl,rfl⟩):P:=h
theorem zyq1{P:Prop}(h:P:=by
 obtain⟨c4,c5,c6,c7,c8,c9⟩:=h.rv.cells
 clear h c4 c5 c6 c7 c9
 go_enter Tryz.func86,Tryz.ntmps86
 go_wp2
 go_ret
 exact⟨rfl,rfl⟩):P:=h
theorem zyq2{P:Prop}(h:P:=by
 obtain⟨c4,c5,c6,c7,c8,c9⟩:=h.rv.cells
 clear h c4 c5 c6 c7 c9
 go_enter Tryz.func85,Tryz.ntmps85
 go_wp2
 go_ret
 exact⟨rfl,rfl⟩):P:=h
theorem zyq3{P:Prop}(h:P:=by
 have:=Qt h.box ho hvb hk (by decide)
 unfold xc at this⊢
 simp only[qak]
 exact this):P:=h
theorem zyq4{P:Prop}(h:P:=by
 clear hk
 go_enter Tryz.func92,Tryz.ntmps92
 go_wp2
 go_ret
 exact⟨rfl,rfl⟩):P:=h
theorem zyq5{P:Prop}(h:P:=by
 clear ha
 go_enter Tryz.func92,Tryz.ntmps92
 go_wp2
 go_ret
 exact⟨rfl,rfl⟩):P:=h
theorem zyq6{P:Prop}(h:P:=by
 (rintro u ⟨c4,c5,co⟩;go_simp<;>with_reducible rfl)):P:=h
end Go.Proofs.YtmehhgfbnfbnaaaGreat
namespace Go.Proofs.YtmehhgfbnfbnaaaGreat.Zl
open Go.RowKit Zq Meta
structure Rm where
 x:Meta.Mem
 bA:Option Addr
 bc:Nat
 dA:Option Addr
 dc:Nat
def TJ(b:List UInt8):Value:=.string ⟨b.toArray⟩
def Qu(l:List (List UInt8)):List Value:=l.map TJ
def Ud(l:List (Option Nat)):List Value:=l.map (fun d=>.bool d.isSome)
theorem xe(l:List (List UInt8))(a:Nat)(b:List UInt8):(Qu l).set a (TJ b)=Qu (l.set a b):=by unfold Qu;rw[List.map_set]
theorem CO(l:List (Option Nat))(a t:Nat):(Ud l).set a (.bool true)=Ud (l.set a (some t)):=by unfold Ud;rw[List.map_set];rfl
def xc(j i g pp:Nat)(y:Rm)(s:PS):List Value:=
 [j,i,g,pp,.slice y.x.rA s.m.rows.length y.x.rc,.slice y.x.oA s.m.own.length y.x.oc,.slice y.x.uA s.m.used.length y.x.uc,.slice y.x.iA s.m.ino.length y.x.ic,.slice y.bA s.B.length y.bc,.slice y.dA s.D.length y.dc]
structure Rv(j i g pp:Nat)(P:Nat->Prop)(w:qaj)(bw:Nat)(y:Rm)(s:PS):Prop where
 box:Bk w bw 122 (xc j i g pp y s)
 met:Y1 w 0 y.x s.m
 bs:w.ownsRow 0 9 1 (.slice y.bA s.B.length y.bc) s.B.length (Qu s.B)
 ds:w.ownsRow 0 4 1 (.slice y.dA s.D.length y.dc) s.D.length (Ud s.D)
 pw:P bw
 pr:At P y.x.rA
 po:At P y.x.oA
 pu:At P y.x.uA
 pi:At P y.x.iA
 pb:At P y.bA
 pd:At P y.dA
theorem Qt{w w':qaj}{bv e b2 e2 k2 n2 g:Nat}{v2:Value}{xs ys:List Value}(h:Bk w bv e xs)(h2:w.ownsRow b2 e2 k2 v2 n2 ys)(hv:v2.ownBlock=some g)(hg:Kept (· =g) w w')(he:e≠e2):Bk w' bv e xs:=
 (hg.block bv h.lt (fun hq=>by
  have hq:bv=g:=hq
  subst hq
  rcases h2.2 with⟨h4,_⟩|⟨q2,cap2,JF,h4,_,hc2,_⟩
  ·subst h4;cases hv
  ·subst h4
   injection hv with hv
   subst hv
   have hB:w.heap[q2]? =_:=h
   rw[hc2]at hB
   cases hB
   exact he rfl)).trans h
section
variable {j i g pp:Nat}{P Q:Nat->Prop}{w w':qaj}{bw:Nat}{y:Rm}{s:PS}
section
variable {A:Option Addr}{c:Nat}
theorem Rv.below (h:Rv j i g pp P w bw y s)(hb:Below w.heap.size w w'):Rv j i g pp P w' bw y s:=
 ⟨h.box.below hb h.box.lt,h.met.below hb,own_below h.bs hb,own_below h.ds hb,h.pw,h.pr,h.po,h.pu,h.pi,h.pb,h.pd⟩
theorem Rv.mono (h:Rv j i g pp P w bw y s)(hQ:∀i,P i->Q i):Rv j i g pp Q w bw y s:=
 ⟨h.box,h.met,h.bs,h.ds,hQ _ h.pw,h.pr.mono hQ,h.po.mono hQ,h.pu.mono hQ,h.pi.mono hQ,h.pb.mono hQ,h.pd.mono hQ⟩
theorem Rv.YV (h:Rv j i g pp P w bw y s):w.cell? ⟨bw,0,none⟩=some (.int .i64 j)/\w.cell? ⟨bw,1,none⟩=some (.int .i64 i)/\w.cell? ⟨bw,2,none⟩=some (.int .i64 g)/\w.cell? ⟨bw,3,none⟩=some (.int .i64 pp):=
 ⟨h.box.cell 0,h.box.cell 1,h.box.cell 2,h.box.cell 3⟩
theorem Rv.cells (h:Rv j i g pp P w bw y s):w.cell? ⟨bw,4,none⟩=some (.slice y.x.rA s.m.rows.length y.x.rc)/\w.cell? ⟨bw,5,none⟩=some (.slice y.x.oA s.m.own.length y.x.oc)/\w.cell? ⟨bw,6,none⟩=some (.slice y.x.uA s.m.used.length y.x.uc)/\w.cell? ⟨bw,7,none⟩=some (.slice y.x.iA s.m.ino.length y.x.ic)/\w.cell? ⟨bw,8,none⟩=some (.slice y.bA s.B.length y.bc)/\w.cell? ⟨bw,9,none⟩=some (.slice y.dA s.D.length y.dc):=
 ⟨h.box.cell 4,h.box.cell 5,h.box.cell 6,h.box.cell 7,h.box.cell 8,h.box.cell 9⟩
theorem Rv.used (h:Rv j i g pp P w bw y s){l:List UInt8}(hw:w.ownsRow 0 5 1 (.slice A l.length c) l.length (Z6 l))(hA:At Q A)(hP:∀i,P i->Q i):
  Rv j i g pp Q (w.setCell ⟨bw,6,none⟩ (.slice A l.length c)) bw {y with x:={y.x with uA:=A,uc:=c}} {s with m:={s.m with used:=l}}:=
 have hs:=Xp w bw 6 (.slice A l.length c)
 have hm:=Y1.other h.box hs h.met
 ⟨h.box.set 6 _,⟨hm.rows,hm.own,YR h.box hs hw (by decide),hm.ino⟩,YR h.box hs h.bs (by decide),YR h.box hs h.ds (by decide),hP _ h.pw,h.pr.mono hP,h.po.mono hP,hA,h.pi.mono hP,h.pb.mono hP,h.pd.mono hP⟩
theorem Rv.rows (h:Rv j i g pp P w bw y s){l:List Z8.Rw}(hw:w.ownsRow 0 68 2 (.slice A l.length c) l.length (Z8.ZV l))(hA:At Q A)(hP:∀i,P i->Q i):
  Rv j i g pp Q (w.setCell ⟨bw,4,none⟩ (.slice A l.length c)) bw {y with x:={y.x with rA:=A,rc:=c}} {s with m:={s.m with rows:=l}}:=
 have hs:=Xp w bw 4 (.slice A l.length c)
 have hm:=Y1.other h.box hs h.met
 ⟨h.box.set 4 _,⟨YR h.box hs hw (by decide),hm.own,hm.used,hm.ino⟩,YR h.box hs h.bs (by decide),YR h.box hs h.ds (by decide),hP _ h.pw,hA,h.po.mono hP,h.pu.mono hP,h.pi.mono hP,h.pb.mono hP,h.pd.mono hP⟩
theorem Rv.owner (h:Rv j i g pp P w bw y s){go:Nat}(hx:y.x.oA=some ⟨go,0,none⟩)(a:Nat)(v:Int):
  Rv j i g pp P (w.setCell ⟨go,a,none⟩ (.int .i64 v)) bw y {s with m:={s.m with own:=s.m.own.set a v}}/\P go:=by
 have ho:=h.met.own
 rw[hx]at ho
 have hk:=YY w go a (.int .i64 v)
 obtain⟨h1,-⟩:=ho.stored a (.int .i64 v)
 rw[Z9.PY]at h1
 have hvb:(qal go s.m.own.length y.x.oc).ownBlock=some go:=rfl
 refine⟨⟨?_,⟨Zw h.met.rows ho hvb hk (by decide),by rw[hx];simpa using h1,Zw h.met.used ho hvb hk (by decide),Zw h.met.ino ho hvb hk (by decide)⟩,Zw h.bs ho hvb hk (by decide),Zw h.ds ho hvb hk (by decide),h.pw,h.pr,h.po,h.pu,h.pi,h.pb,h.pd⟩,h.po _ hx⟩
 exact zyq3
theorem Rv.inode (h:Rv j i g pp P w bw y s)(hok:∀n∈s.m.ino,Z9.YP n){gi:Nat}(hx:y.x.iA=some ⟨gi,0,none⟩){a:Nat}(ha:a<s.m.ino.length){nd:Z9.ZC}(hn:Z9.YP nd):
  Rv j i g pp P (w.setCells gi (a*14) (Z9.ZX nd)) bw y {s with m:={s.m with ino:=s.m.ino.set a nd}}/\P gi/\Kept (· =gi) w (w.setCells gi (a*14) (Z9.ZX nd)):=by
 have ho:=h.met.ino
 rw[hx]at ho
 obtain⟨h1,hg⟩:=Tu (Z9.ZX nd) w (a*14) _ ho
 rw[Lv hok hn ha]at h1
 have hk:Kept (· =gi) w (w.setCells gi (a*14) (Z9.ZX nd)):=Kept.Y4 hg (fun k hk=>by cases hk;rfl)
 have hvb:(qal gi s.m.ino.length y.x.ic).ownBlock=some gi:=rfl
 refine⟨⟨?_,⟨Zw h.met.rows ho hvb hk (by decide),Zw h.met.own ho hvb hk (by decide),Zw h.met.used ho hvb hk (by decide),by rw[hx];simpa using h1⟩,Zw h.bs ho hvb hk (by decide),Zw h.ds ho hvb hk (by decide),h.pw,h.pr,h.po,h.pu,h.pi,h.pb,h.pd⟩,h.pi _ hx,hk⟩
 exact zyq3
theorem Rv.str (h:Rv j i g pp P w bw y s){gb:Nat}(hx:y.bA=some ⟨gb,0,none⟩)(a:Nat)(b:List UInt8):
  Rv j i g pp P (w.setCell ⟨gb,a,none⟩ (TJ b)) bw y {s with B:=s.B.set a b}/\P gb:=by
 have ho:=h.bs
 rw[hx]at ho
 have hk:=YY w gb a (TJ b)
 obtain⟨h1,-⟩:=ho.stored a (TJ b)
 rw[xe]at h1
 have hvb:(qal gb s.B.length y.bc).ownBlock=some gb:=rfl
 refine⟨⟨?_,⟨Zw h.met.rows ho hvb hk (by decide),Zw h.met.own ho hvb hk (by decide),Zw h.met.used ho hvb hk (by decide),Zw h.met.ino ho hvb hk (by decide)⟩,by rw[hx];simpa using h1,Zw h.ds ho hvb hk (by decide),h.pw,h.pr,h.po,h.pu,h.pi,h.pb,h.pd⟩,h.pb _ hx⟩
 exact zyq3
theorem Rv.flag (h:Rv j i g pp P w bw y s){gd:Nat}(hx:y.dA=some ⟨gd,0,none⟩)(a t:Nat):
  Rv j i g pp P (w.setCell ⟨gd,a,none⟩ (.bool true)) bw y {s with D:=s.D.set a (some t)}/\P gd:=by
 have ho:=h.ds
 rw[hx]at ho
 have hk:=YY w gd a (.bool true)
 obtain⟨h1,-⟩:=ho.stored a (.bool true)
 rw[CO s.D a t]at h1
 have hvb:(qal gd s.D.length y.dc).ownBlock=some gd:=rfl
 refine⟨⟨?_,⟨Zw h.met.rows ho hvb hk (by decide),Zw h.met.own ho hvb hk (by decide),Zw h.met.used ho hvb hk (by decide),Zw h.met.ino ho hvb hk (by decide)⟩,Zw h.bs ho hvb hk (by decide),by rw[hx];simpa using h1,h.pw,h.pr,h.po,h.pu,h.pi,h.pb,h.pd⟩,h.pd _ hx⟩
 exact zyq3
end
end
structure RM(j i g pp:Nat)(P:Nat->Prop)(w u:qaj)(bw:Nat)(y:Rm)(s:PS):Prop where
 rv:Rv j i g pp (fun i=>P i\/w.heap.size<=i) u bw y s
 kept:Kept P w u
section
variable {j i g pp:Nat}{P:Nat->Prop}{w u u':qaj}{bw:Nat}{y:Rm}{s:PS}
section
variable {A:Option Addr}{c:Nat}
theorem RM.start (h:Rv j i g pp P w bw y s):RM j i g pp P w w bw y s:=⟨h.mono (fun _ h=>.inl h),Kept.refl _ _⟩
theorem RM.below (h:RM j i g pp P w u bw y s)(hb:Below u.heap.size u u'):RM j i g pp P w u' bw y s:=⟨h.rv.below hb,h.kept.trans (Kept.of_below (S:=P) hb) (fun _ h=>.inl h)⟩
theorem RM.used (h:RM j i g pp P w u bw y s){l:List UInt8}(hw:u.ownsRow 0 5 1 (.slice A l.length c) l.length (Z6 l))(hA:At (w.heap.size<=·) A):
  RM j i g pp P w (u.setCell ⟨bw,6,none⟩ (.slice A l.length c)) bw {y with x:={y.x with uA:=A,uc:=c}} {s with m:={s.m with used:=l}}:=
 ⟨h.rv.used hw (hA.mono fun _ h=>.inr h) (fun _ h=>h),h.kept.trans (YY _ _ _ _) (fun i hi=>by have hi:i=bw:=hi;subst hi;exact h.rv.pw)⟩
theorem RM.rows (h:RM j i g pp P w u bw y s){l:List Z8.Rw}(hw:u.ownsRow 0 68 2 (.slice A l.length c) l.length (Z8.ZV l))(hA:At (w.heap.size<=·) A):
  RM j i g pp P w (u.setCell ⟨bw,4,none⟩ (.slice A l.length c)) bw {y with x:={y.x with rA:=A,rc:=c}} {s with m:={s.m with rows:=l}}:=
 ⟨h.rv.rows hw (hA.mono fun _ h=>.inr h) (fun _ h=>h),h.kept.trans (YY _ _ _ _) (fun i hi=>by have hi:i=bw:=hi;subst hi;exact h.rv.pw)⟩
theorem RM.owner (h:RM j i g pp P w u bw y s){go:Nat}(hx:y.x.oA=some ⟨go,0,none⟩)(a:Nat)(v:Int):
  RM j i g pp P w (u.setCell ⟨go,a,none⟩ (.int .i64 v)) bw y {s with m:={s.m with own:=s.m.own.set a v}}:=by
 obtain⟨h1,h2⟩:=h.rv.owner hx a v
 exact⟨h1,h.kept.trans (YY _ _ _ _) (fun i hi=>by have hi:i=go:=hi;subst hi;exact h2)⟩
theorem RM.inode (h:RM j i g pp P w u bw y s)(hok:∀n∈s.m.ino,Z9.YP n){gi:Nat}(hx:y.x.iA=some ⟨gi,0,none⟩){a:Nat}(ha:a<s.m.ino.length){nd:Z9.ZC}(hn:Z9.YP nd):
  RM j i g pp P w (u.setCells gi (a*14) (Z9.ZX nd)) bw y {s with m:={s.m with ino:=s.m.ino.set a nd}}:=by
 obtain⟨h1,h2,h3⟩:=h.rv.inode hok hx ha hn
 exact⟨h1,h.kept.trans h3 (fun i hi=>by have hi:i=gi:=hi;subst hi;exact h2)⟩
theorem RM.str (h:RM j i g pp P w u bw y s){gb:Nat}(hx:y.bA=some ⟨gb,0,none⟩)(a:Nat)(b:List UInt8):
  RM j i g pp P w (u.setCell ⟨gb,a,none⟩ (TJ b)) bw y {s with B:=s.B.set a b}:=by
 obtain⟨h1,h2⟩:=h.rv.str hx a b
 exact⟨h1,h.kept.trans (YY _ _ _ _) (fun i hi=>by have hi:i=gb:=hi;subst hi;exact h2)⟩
theorem RM.flag (h:RM j i g pp P w u bw y s){gd:Nat}(hx:y.dA=some ⟨gd,0,none⟩)(a t:Nat):
  RM j i g pp P w (u.setCell ⟨gd,a,none⟩ (.bool true)) bw y {s with D:=s.D.set a (some t)}:=by
 obtain⟨h1,h2⟩:=h.rv.flag hx a t
 exact⟨h1,h.kept.trans (YY _ _ _ _) (fun i hi=>by have hi:i=gd:=hi;subst hi;exact h2)⟩
end
end
end Go.Proofs.YtmehhgfbnfbnaaaGreat.Zl

namespace Go.Proofs.YtmehhgfbnfbnaaaGreat.Zl
open Go.RowKit Zq Meta
section
variable {j i g pp bw:Nat}{P:Nat->Prop}{w0 w:qaj}{y:Rm}{s:PS}
theorem Qr(h:RM j i g pp P w0 w bw y s)(hl:s.m.used.length=64)(a:Nat)(ha:a<512)(on:Bool):
  qah Tryz.prog 162 #[.pointer bw,a,on] w fun e w'=>e=.returned (.tuple #[])/\∃A2 c2,RM j i g pp P w0 w' bw {y with x:={y.x with uA:=A2,uc:=c2}} {s with m:={s.m with used:=Bits.wb s.m.used a on}}:=by
 have HW:Hid (qah Tryz.prog 228 #[.slice y.x.uA s.m.used.length y.x.uc,a,on] w fun e w'=>∃v,e=.returned (.tuple #[v,()])/\Bits.Made w (Bits.wb s.m.used a on) v w'):=χ (Bits.qp s.m.used y.x.uA _ y.x.uc a on w rfl h.rv.met.lies.used (by omega) (by omega))
 have H:=χ h
 obtain⟨c4,c5,c6,c7,c8,c9⟩:=h.rv.cells
 clear h hl ha
 go_enter Tryz.func162,Tryz.ntmps162
 go_wp2_with (go_at_call 228;go_must (with_reducible refine HW.out.mono ?_);rintro e w1 ⟨v,he,hm,hb⟩;obtain rfl:=he;obtain⟨A,c,hv,hA⟩:=YT hm;subst hv;have HV:=χ (H.out.below hb);have HM:=χ hm;have HA:Hid (At (w0.heap.size<=·) A):=χ (hA.mono fun _ h=>Nat.le_trans H.out.kept.size h);clear hm hb hA c4 c5 c6 c7 c8 c9;obtain⟨c4,c5,c6,c7,c8,c9⟩:=HV.out.rv.cells;have fz:=HV.out.rv.box.frozen 6)
 go_end0
 exact⟨rfl,A,c,HV.out.used (ZL HM.out (Nat.zero_le _)) HA.out⟩
theorem Fp(h:RM j i g pp P w0 w bw y s)(a:Int)(ha:¬ (0<=a/\a<(s.m.ino.length:Int))):
  qah Tryz.prog 92 #[.pointer bw,a] w fun e w'=>e=.returned (.int .i64 1)/\w=w':=by
 obtain⟨c4,c5,c6,c7,c8,c9⟩:=h.rv.cells
 clear h c4 c5 c6 c8 c9
 by_cases h0:a<0
 ·exact zyq5
 ·have h1:(s.m.ino.length:Int)<=a:=by omega
  exact zyq5
theorem SE(h:RM j i g pp P w0 w bw y s)(a:Nat)(nd:Z9.ZC)(ha:s.m.ino[a]? =some nd)(ho:∀y∈s.m.ino,Z9.YP y)(hl:s.m.ino.length<=64):
  qah Tryz.prog 92 #[.pointer bw,a] w fun e w'=>e=.returned (.int .i64 (if nd.k=0 then 2 else 0))/\w=w':=by
 have halt:=(qan.1 ha).1
 obtain⟨c4,c5,c6,c7,c8,c9⟩:=h.rv.cells
 obtain⟨bi,ci,Wo,hci⟩:=Zp h.rv.met.ino (by omega)
 have hA:=(qaf Wo).1
 clear Wo hci
 have X6:=h.rv.met.lies.ino
 rw[hA]at X6 c7
 have y0:=Yi X6 ho ha 0 _ (show(Z9.ZX nd)[0]? =some (.int .u8 nd.k)from rfl)
 simp only[Nat.zero_add,Nat.add_zero]at y0
 have h0:¬ (a:Int)<0:=by omega
 have h00:(0:Int)<=(a:Int):=by omega
 have h1:(a:Int)<(s.m.ino.length:Int):=by omega
 have h2:¬ (s.m.ino.length:Int)<=(a:Int):=by omega
 clear h ha ho hl halt c4 c5 c6 c8 c9 X6 hA
 by_cases hk:nd.k=0
 ·rw[if_pos hk]
  rw[hk]at y0
  exact zyq4
 ·rw[if_neg hk]
  have e1:((nd.k:Int)==0)=false:=by simp;omega
  have e2:¬ (nd.k:Int)=0:=by omega
  exact zyq4
end
end Go.Proofs.YtmehhgfbnfbnaaaGreat.Zl

namespace Go.Proofs.YtmehhgfbnfbnaaaGreat.Zl
open Go.RowKit Zq Meta
section
variable {j i g pp bw:Nat}{P:Nat->Prop}{w0 w:qaj}{y:Rm}{s:PS}
theorem Cy(h:RM j i g pp P w0 w bw y s)(a:Int)(B0:Option Addr)(bn bc:Nat)(h0:a<0):
  qah Tryz.prog 86 #[.pointer bw,a,.slice B0 bn bc] w fun e w'=>e=.returned (.int .i64 1)/\w=w':=by
 exact zyq1
theorem Cx(h:RM j i g pp P w0 w bw y s)(a:Int)(B0:Option Addr)(bn bc:Nat)(h0:¬ a<0)(h1:(s.B.length:Int)<=a):
  qah Tryz.prog 86 #[.pointer bw,a,.slice B0 bn bc] w fun e w'=>e=.returned (.int .i64 1)/\w=w':=by
 exact zyq1
theorem Cz(h:RM j i g pp P w0 w bw y s)(a:Nat)(B0:Option Addr)(bn bc:Nat)(ha:a<s.B.length)(hn:bn≠64):
  qah Tryz.prog 86 #[.pointer bw,a,.slice B0 bn bc] w fun e w'=>e=.returned (.int .i64 1)/\w=w':=by
 obtain⟨c4,c5,c6,c7,c8,c9⟩:=h.rv.cells
 clear h c4 c5 c6 c7 c9
 have h0:¬ (a:Int)<0:=by omega
 have h1:¬ (s.B.length:Int)<=(a:Int):=by omega
 have h2:((bn:Int) != 64)=true:=by simp;omega
 have h3:¬ (bn:Int)=64:=by omega
 clear ha hn
 go_enter Tryz.func86,Tryz.ntmps86
 go_wp2
 go_ret
 exact⟨rfl,rfl⟩
theorem Fq(h:RM j i g pp P w0 w bw y s)(a:Nat)(B0:Option Addr)(bc:Nat)(ha:a<s.B.length)(pg:a<512)(hu:s.m.used.length=64)(hbit:Bits.hb s.m.used a=false):
  qah Tryz.prog 86 #[.pointer bw,a,.slice B0 64 bc] w fun e w'=>e=.returned (.int .i64 2)/\w=w':=by
 have h0:¬ (a:Int)<0:=by omega
 have h00:(0:Int)<=(a:Int):=by omega
 have h1:¬ (s.B.length:Int)<=(a:Int):=by omega
 have h11:(a:Int)<(s.B.length:Int):=by omega
 have Wz:Hid (qah Tryz.prog 161 #[.slice y.x.uA s.m.used.length y.x.uc,a] w fun e w'=>e=.returned (.bool false)/\w=w'):=χ (by
  have:=Bits.XP s.m.used y.x.uA s.m.used.length y.x.uc w.heap.size (a:Int) w rfl h.rv.met.lies.used (by omega)
  rwa[Bits.Ym,hbit]at this)
 obtain⟨c4,c5,c6,c7,c8,c9⟩:=h.rv.cells
 clear h ha hu pg hbit c4 c5 c7 c9
 go_enter Tryz.func86,Tryz.ntmps86
 exact zyq0
theorem wX(h:RM j i g pp P w0 w bw y s)(a:Nat)(B0:Option Addr)(bc:Nat)(ha:a<s.B.length)(pg:a<512)(hu:s.m.used.length=64)(hd:a<s.D.length)(hbit:Bits.hb s.m.used a=true)(t:Nat)(b:List UInt8)(abr:b.length=64)(hr:Rd w w.heap.size B0 (Z6 b)):
  qah Tryz.prog 86 #[.pointer bw,a,.slice B0 64 bc] w fun e w'=>e=.returned (.int .i64 0)/\RM j i g pp P w0 w' bw y {s with B:=s.B.set a b,D:=s.D.set a (some t)}:=by
 have h0:¬ (a:Int)<0:=by omega
 have h00:(0:Int)<=(a:Int):=by omega
 have h1:¬ (s.B.length:Int)<=(a:Int):=by omega
 have h11:(a:Int)<(s.B.length:Int):=by omega
 have Wz:Hid (qah Tryz.prog 161 #[.slice y.x.uA s.m.used.length y.x.uc,a] w fun e w'=>e=.returned (.bool true)/\w=w'):=χ (by
  have:=Bits.XP s.m.used y.x.uA s.m.used.length y.x.uc w.heap.size (a:Int) w rfl h.rv.met.lies.used (by omega)
  rwa[Bits.Ym,hbit]at this)
 obtain⟨c4,c5,c6,c7,c8,c9⟩:=h.rv.cells
 have h12:(a:Int)<(s.D.length:Int):=by omega
 obtain⟨gb,cb,Wo,hcb⟩:=Zp h.rv.bs (by omega)
 have hA:=(qaf Wo).1
 obtain⟨gd,cd,hD0,hcd⟩:=Zp h.rv.ds (by omega)
 have hD:=(qaf hD0).1
 clear Wo hcb hD0 hcd
 rw[hA]at c8
 rw[hD]at c9
 have HX:Hid (∀u:qaj,Below w.heap.size w u->(convert 37 9 (.slice B0 64 bc)).run Tryz.prog u=.ok (TJ b) u):=χ (fun u hu=>Z9.VB abr (hr.below hu))
 have abt:Hid (∀u:qaj,RM j i g pp P w0 u bw y s->RM j i g pp P w0 (u.setCell ⟨gb,a,none⟩ (TJ b)) bw y {s with B:=s.B.set a b}):=χ (fun u hu=>hu.str hA a b)
 have bz:Hid (∀u:qaj,RM j i g pp P w0 u bw y {s with B:=s.B.set a b}->RM j i g pp P w0 (u.setCell ⟨gd,a,none⟩ (.bool true)) bw y {s with B:=s.B.set a b,D:=s.D.set a (some t)}):=χ (fun u hu=>hu.flag hD a t)
 have HTB:Hid (∀u:qaj,RM j i g pp P w0 u bw y s->(∃v,u.cell? ⟨gb,a,none⟩=some v)/\u.frozen? ⟨gb,a,none⟩=false):=χ (fun u hu=>Xo (by have:=hu.rv.bs;rw[hA]at this;exact this) a (by omega))
 have HTD:Hid (∀u:qaj,RM j i g pp P w0 u bw y {s with B:=s.B.set a b}->(∃v,u.cell? ⟨gd,a,none⟩=some v)/\u.frozen? ⟨gd,a,none⟩=false/\u.cell? ⟨bw,9,none⟩=some (.slice gd s.D.length y.dc)):=χ (fun u hu=>by
  obtain⟨h1,h2⟩:=Xo (by have:=hu.rv.ds;rw[hD]at this;exact this) a (by simp only;omega)
  obtain⟨c4,c5,c6,c7,c8,c9⟩:=hu.rv.cells
  rw[hD]at c9
  exact⟨h1,h2,c9⟩)
 have HV:=χ h
 clear h ha hu pg hbit c4 c5 c7 c9 hd abr hr hA hD
 obtain⟨sv,hsv⟩:∃sv,TJ b=.string sv:=⟨_,rfl⟩
 rw[hsv]at HX abt
 clear hsv
 go_enter Tryz.func86,Tryz.ntmps86
 go_upto_region 5 with(go_at_call 161;go_must (with_reducible refine Wz.out.mono ?_);rintro e w1 ⟨he,hb⟩;obtain rfl:=he;subst hb)
 have Uv:=χ (HV.out.below (qai _ w).drew)
 have hcv:=HX.out w.drew (qai _ w).drew
 obtain⟨⟨zv,hz⟩,hfz⟩:=HTB.out _ Uv.out
 have wD:Hid (RM j i g pp P w0 (w.setCell ⟨gb,a,none⟩ (.string sv)).drew bw y {s with B:=s.B.set a b}):=χ (abt.out _ Uv.out)
 go_region
 clear c8 hcv hz hfz
 generalize (w.setCell ⟨gb,a,none⟩ (.string sv)).drew=w5 at*
 obtain⟨⟨zv,hz⟩,hfz,c9⟩:=HTD.out _ wD.out
 go_wp2
 go_ret
 exact⟨rfl,bz.out _ wD.out⟩
end
end Go.Proofs.YtmehhgfbnfbnaaaGreat.Zl

namespace Go.Proofs.YtmehhgfbnfbnaaaGreat.Zl
open Go.RowKit Zq Meta
section
variable {j i g pp bw:Nat}{P:Nat->Prop}{w0 w:qaj}{y:Rm}{s:PS}
theorem wZ(h:RM j i g pp P w0 w bw y s)(a:Int)(h0:a<0):
  qah Tryz.prog 85 #[.pointer bw,a] w fun e w'=>e=.returned (.int .i64 1)/\w=w':=by
 exact zyq2
theorem wY(h:RM j i g pp P w0 w bw y s)(a:Int)(h0:¬ a<0)(h1:(s.B.length:Int)<=a):
  qah Tryz.prog 85 #[.pointer bw,a] w fun e w'=>e=.returned (.int .i64 1)/\w=w':=by
 exact zyq2
theorem CB(h:RM j i g pp P w0 w bw y s)(a:Nat)(ha:a<s.B.length)(pg:a<512)(hu:s.m.used.length=64)(hbit:Bits.hb s.m.used a=false):
  qah Tryz.prog 85 #[.pointer bw,a] w fun e w'=>e=.returned (.int .i64 2)/\w=w':=by
 have h0:¬ (a:Int)<0:=by omega
 have h00:(0:Int)<=(a:Int):=by omega
 have h1:¬ (s.B.length:Int)<=(a:Int):=by omega
 have h11:(a:Int)<(s.B.length:Int):=by omega
 have Wz:Hid (qah Tryz.prog 161 #[.slice y.x.uA s.m.used.length y.x.uc,a] w fun e w'=>e=.returned (.bool false)/\w=w'):=χ (by
  have:=Bits.XP s.m.used y.x.uA s.m.used.length y.x.uc w.heap.size (a:Int) w rfl h.rv.met.lies.used (by omega)
  rwa[Bits.Ym,hbit]at this)
 obtain⟨c4,c5,c6,c7,c8,c9⟩:=h.rv.cells
 clear h ha hu pg hbit c4 c5 c7 c9
 go_enter Tryz.func85,Tryz.ntmps85
 exact zyq0
theorem CF(h:RM j i g pp P w0 w bw y s)(a:Nat)(ha:a<s.B.length)(pg:a<512)(hu:s.m.used.length=64)(hd:a<s.D.length)(hbit:Bits.hb s.m.used a=true)(t q:Nat)(OT:0<pp)(hq:a/pp=q)(EZ:(q:Int)*(pp:Int)+(pp:Int)<=512)(iR:X4 pp (Bits.wb s.m.used a false) q=true):
  qah Tryz.prog 85 #[.pointer bw,a] w fun e w'=>e=.returned (.int .i64 0)/\∃y',RM j i g pp P w0 w' bw y' {s with m:={s.m with used:=Bits.wb s.m.used a false},B:=s.B.set a ZF,D:=s.D.set a (some t)}:=by
 have h0:¬ (a:Int)<0:=by omega
 have h00:(0:Int)<=(a:Int):=by omega
 have h1:¬ (s.B.length:Int)<=(a:Int):=by omega
 have h11:(a:Int)<(s.B.length:Int):=by omega
 have Wz:Hid (qah Tryz.prog 161 #[.slice y.x.uA s.m.used.length y.x.uc,a] w fun e w'=>e=.returned (.bool true)/\w=w'):=χ (by
  have:=Bits.XP s.m.used y.x.uA s.m.used.length y.x.uc w.heap.size (a:Int) w rfl h.rv.met.lies.used (by omega)
  rwa[Bits.Ym,hbit]at this)
 obtain⟨c4,c5,c6,c7,c8,c9⟩:=h.rv.cells
 have hqn:0<=(q:Int)*(pp:Int):=Int.mul_nonneg (by omega) (by omega)
 have pE:(a:Int)/(pp:Int)=(q:Int):=by rw[<-hq];exact(Int.natCast_ediv a pp).symm
 have htd:Int.tdiv (a:Int) (pp:Int)=(q:Int):=by rw[qam h00];exact pE
 have hp0:¬ (pp:Int)=0:=by omega
 have hq5:(q:Int)<=512:=by have:=Nat.div_le_self a pp;omega
 have hmul:((q:Int)+1)*(pp:Int)=(q:Int)*(pp:Int)+(pp:Int):=by rw[Int.add_mul,Int.one_mul]
 have hw1:qag.wrap ((q:Int)*(pp:Int))=(q:Int)*(pp:Int):=by rw[qad];omega
 have hw2:qag.wrap ((q:Int)+1)=(q:Int)+1:=by rw[qad];omega
 have hw3:qag.wrap (((q:Int)+1)*(pp:Int))=(q:Int)*(pp:Int)+(pp:Int):=by rw[hmul,qad];omega
 have hw4:qag.wrap (q:Int)=(q:Int):=by rw[qad];omega
 have MC:=χ (Qr h hu a pg false)
 obtain⟨gb,cb,Wo,hcb⟩:=Zp h.rv.bs (by omega)
 have hA:=(qaf Wo).1
 obtain⟨gd,cd,hD0,hcd⟩:=Zp h.rv.ds (by omega)
 have hD:=(qaf hD0).1
 clear Wo hcb hD0 hcd
 have L8:=χ hA
 have bT:=χ hD
 have hun:(Bits.wb s.m.used a false).length=64:=by rw[Bits.XK];exact hu
 have OX:=χ hun
 have HCN:Hid (∀(u:qaj)(y2:Rm)(s2:PS),RM j i g pp P w0 u bw y2 s2->s2.m.used=Bits.wb s.m.used a false->qah Tryz.prog 164 #[.slice y2.x.uA 64 y2.x.uc,.int .i64 ((q:Int)*(pp:Int)),.int .i64 ((q:Int)*(pp:Int)+(pp:Int))] u fun e w'=>e=.returned (.int .i64 ((Bits.cnt (Bits.wb s.m.used a false) ((q:Int)*(pp:Int)) ((q:Int)*(pp:Int)+(pp:Int)) (8*(Bits.wb s.m.used a false).length):Nat):Int))/\u=w'):=χ (fun u y2 s2 hu2 he=>by
  have hr:=hu2.rv.met.lies.used
  rw[he]at hr
  exact Bits.Nn _ y2.x.uA 64 y2.x.uc u.heap.size _ _ u hun hr (by decide))
 unfold X4 at iR
 generalize Bits.cnt (Bits.wb s.m.used a false) ((q:Int)*(pp:Int)) ((q:Int)*(pp:Int)+(pp:Int)) (8*(Bits.wb s.m.used a false).length)=cn at*
 have Oo:Hid (s.B.length=(s.B.set a ZF).length):=χ (by simp)
 have hcn:((cn:Int)==0)=false:=by simp at iR;simp;omega
 have aew:¬ (cn:Int)=0:=by simp at iR;omega
 have HV:=χ h
 have h12:(a:Int)<(s.D.length:Int):=by omega
 have jT:=χ ha
 have Cg:=χ hd
 clear h ha hu pg hbit c4 c5 c7 c9 hd hA hD hq EZ hqn iR hun hq5 hmul OT
 go_enter Tryz.func85,Tryz.ntmps85
 go_upto_region 6 with(first|(go_at_call 161;go_must (with_reducible refine Wz.out.mono ?_);rintro e w1 ⟨he,hb⟩;obtain rfl:=he;subst hb)|(go_at_call 162;go_must (with_reducible refine MC.out.mono ?_);rintro e w2 ⟨he,A2,c2,hv⟩;obtain rfl:=he;have XT:=χ hv;clear hv c6 c8))
 have Uv:=χ (XT.out.below (qai _ w2).drew)
 obtain⟨c4,c5,c6,c7,c8,c9⟩:=Uv.out.rv.cells
 clear c4 c5 c6 c7 c9
 simp only at c8
 rw[L8.out]at c8
 obtain⟨Z,hZ⟩:∃Z:Array Value,Z=(Z6 ZF).toArray:=⟨_,rfl⟩
 have hmk:(Instr.makeSlice 37 (.int .i64 64) (.int .i64 64)).run Tryz.prog w2.drew=.ok (.slice w2.drew.heap.size 64 64) (w2.drew.alloc (.cells Z 5)):=by
  rw[hZ]
  exact YD 64 (by decide) w2.drew
 have hal:=Z0 w2.drew (.cells Z 5)
 have kE:=χ (Uv.out.below hal)
 have hcv:(convert 37 9 (.slice w2.heap.size 64 64)).run Tryz.prog (w2.alloc (.cells Z 5)).drew=.ok (TJ ZF) (w2.alloc (.cells Z 5)).drew:=by
  have hb:Bk (w2.drew.alloc (.cells Z 5)) w2.drew.heap.size 5 (Z6 ZF):=by rw[hZ];exact Bk.new _ _ _
  have:=hb.rd 64 0
  rw[List.drop_zero,qao (by rw[Z4];exact Nat.le_refl 64)]at this
  exact Z9.VB (l:=ZF) rfl this
 clear hZ hal
 obtain⟨c4,c5,c6,c7,kD,c9⟩:=kE.out.rv.cells
 clear c4 c5 c6 c7 c9
 simp only at kD
 rw[L8.out]at kD
 obtain⟨⟨zv,hz⟩,hfz⟩:=Xo (by have:=kE.out.rv.bs;rw[L8.out]at this;exact this) a (by have:=jT.out;simp only;omega)
 have c8b:(w2.alloc (.cells Z 5)).cell? ⟨bw,8,none⟩=some (.slice gb s.B.length y.bc):=kD
 have hz2:(w2.alloc (.cells Z 5)).cell? ⟨gb,a,none⟩=some zv:=hz
 have bR:(w2.alloc (.cells Z 5)).frozen? ⟨gb,a,none⟩=false:=hfz
 clear kD hz hfz
 have wD:Hid (RM j i g pp P w0 ((w2.alloc (.cells Z 5)).setCell ⟨gb,a,none⟩ (TJ ZF)).drew bw {y with x:={y.x with uA:=A2,uc:=c2}} {s with m:={s.m with used:=Bits.wb s.m.used a false},B:=s.B.set a ZF}):=χ (kE.out.str L8.out a ZF)
 obtain⟨sv,hsv⟩:∃sv,TJ ZF=.string sv:=⟨_,rfl⟩
 rw[hsv]at hcv wD
 clear hsv
 go_region
 clear c8 c8b hcv hz2 bR hmk Uv kE
 generalize ((w2.alloc (.cells Z 5)).setCell ⟨gb,a,none⟩ (.string sv)).drew=w5 at*
 have hfl:=wD.out.flag bT.out a t
 obtain⟨⟨zv,hz⟩,hfz⟩:=Xo (by have:=wD.out.rv.ds;rw[bT.out]at this;exact this) a (by have:=Cg.out;simp only;omega)
 obtain⟨c4,c5,c6,c7,c8,c9⟩:=wD.out.rv.cells
 rw[bT.out]at c9
 have Qo:=χ hfl
 clear c4 c5 c6 c7 c8 hfl
 go_upto_region 8 with fail
 generalize w5.setCell ⟨gd,a,none⟩ (.bool true)=w6 at*
 clear hz hfz c9
 obtain⟨g0,g1,g2,g3⟩:=Qo.out.rv.YV
 obtain⟨c4,c5,c6,c7,c8,c9⟩:=Qo.out.rv.cells
 simp only at c6
 rw[OX.out]at c6
 clear c4 c5 c7 c8 c9 g0 g1 g2
 go_upto_region 9 with fail
 have HCQ:Hid (∀k:Nat,qah Tryz.prog 164 #[.slice A2 64 c2,.int .i64 ((q:Int)*(pp:Int)),.int .i64 ((q:Int)*(pp:Int)+(pp:Int))] (w6.drewN k) fun e w'=>e=.returned (.int .i64 ((cn:Nat):Int))/\w'=w6.drewN k):=χ (fun k=>by
  refine(HCN.out _ _ _ (Qo.out.below (below_drewN (qai _ w6) k)) rfl).mono ?_
  rintro e w' ⟨he,hw⟩
  exact⟨he,hw.symm⟩)
 go_quiet ((go_at_call 164;exact qah.quiet_of_same (HCQ.out _)))
 go_wp2
 go_ret
 exact⟨rfl,_,Qo.out.below (below_drewN (qai _ _) nq)⟩
theorem CE(h:RM j i g pp P w0 w bw y s)(a:Nat)(ha:a<s.B.length)(pg:a<512)(hu:s.m.used.length=64)(hd:a<s.D.length)(hbit:Bits.hb s.m.used a=true)(t q:Nat)(OT:0<pp)(hq:a/pp=q)(EZ:(q:Int)*(pp:Int)+(pp:Int)<=512)(iR:X4 pp (Bits.wb s.m.used a false) q=false)(r:Nat)(ho:s.m.own[q]? =some ((r:Int)+1))(hrel:(Z8.YH s.m.rows (r:Int)).err=0)(hrl:s.m.rows.length=16)(Kg:r<16):
  qah Tryz.prog 85 #[.pointer bw,a] w fun e w'=>e=.returned (.int .i64 0)/\∃y',RM j i g pp P w0 w' bw y' {s with m:={s.m with used:=Bits.wb s.m.used a false,rows:=(Z8.YH s.m.rows (r:Int)).rows,own:=s.m.own.set q 0},B:=s.B.set a ZF,D:=s.D.set a (some t)}:=by
 have h0:¬ (a:Int)<0:=by omega
 have h00:(0:Int)<=(a:Int):=by omega
 have h1:¬ (s.B.length:Int)<=(a:Int):=by omega
 have h11:(a:Int)<(s.B.length:Int):=by omega
 have Wz:Hid (qah Tryz.prog 161 #[.slice y.x.uA s.m.used.length y.x.uc,a] w fun e w'=>e=.returned (.bool true)/\w=w'):=χ (by
  have:=Bits.XP s.m.used y.x.uA s.m.used.length y.x.uc w.heap.size (a:Int) w rfl h.rv.met.lies.used (by omega)
  rwa[Bits.Ym,hbit]at this)
 obtain⟨c4,c5,c6,c7,c8,c9⟩:=h.rv.cells
 have hqn:0<=(q:Int)*(pp:Int):=Int.mul_nonneg (by omega) (by omega)
 have pE:(a:Int)/(pp:Int)=(q:Int):=by rw[<-hq];exact(Int.natCast_ediv a pp).symm
 have htd:Int.tdiv (a:Int) (pp:Int)=(q:Int):=by rw[qam h00];exact pE
 have hp0:¬ (pp:Int)=0:=by omega
 have hq5:(q:Int)<=512:=by have:=Nat.div_le_self a pp;omega
 have hmul:((q:Int)+1)*(pp:Int)=(q:Int)*(pp:Int)+(pp:Int):=by rw[Int.add_mul,Int.one_mul]
 have hw1:qag.wrap ((q:Int)*(pp:Int))=(q:Int)*(pp:Int):=by rw[qad];omega
 have hw2:qag.wrap ((q:Int)+1)=(q:Int)+1:=by rw[qad];omega
 have hw3:qag.wrap (((q:Int)+1)*(pp:Int))=(q:Int)*(pp:Int)+(pp:Int):=by rw[hmul,qad];omega
 have hw4:qag.wrap (q:Int)=(q:Int):=by rw[qad];omega
 have MC:=χ (Qr h hu a pg false)
 obtain⟨gb,cb,Wo,hcb⟩:=Zp h.rv.bs (by omega)
 have hA:=(qaf Wo).1
 obtain⟨gd,cd,hD0,hcd⟩:=Zp h.rv.ds (by omega)
 have hD:=(qaf hD0).1
 clear Wo hcb hD0 hcd
 have L8:=χ hA
 have bT:=χ hD
 have hun:(Bits.wb s.m.used a false).length=64:=by rw[Bits.XK];exact hu
 have OX:=χ hun
 have HCN:Hid (∀(u:qaj)(y2:Rm)(s2:PS),RM j i g pp P w0 u bw y2 s2->s2.m.used=Bits.wb s.m.used a false->qah Tryz.prog 164 #[.slice y2.x.uA 64 y2.x.uc,.int .i64 ((q:Int)*(pp:Int)),.int .i64 ((q:Int)*(pp:Int)+(pp:Int))] u fun e w'=>e=.returned (.int .i64 ((Bits.cnt (Bits.wb s.m.used a false) ((q:Int)*(pp:Int)) ((q:Int)*(pp:Int)+(pp:Int)) (8*(Bits.wb s.m.used a false).length):Nat):Int))/\u=w'):=χ (fun u y2 s2 hu2 he=>by
  have hr:=hu2.rv.met.lies.used
  rw[he]at hr
  exact Bits.Nn _ y2.x.uA 64 y2.x.uc u.heap.size _ _ u hun hr (by decide))
 unfold X4 at iR
 generalize Bits.cnt (Bits.wb s.m.used a false) ((q:Int)*(pp:Int)) ((q:Int)*(pp:Int)+(pp:Int)) (8*(Bits.wb s.m.used a false).length)=cn at*
 have Oo:Hid (s.B.length=(s.B.set a ZF).length):=χ (by simp)
 have hcn:cn=0:=by simp at iR;omega
 subst hcn
 have xw:Hid (∀(u:qaj)(y2:Rm)(s2:PS),RM j i g pp P w0 u bw y2 s2->s2.m.rows=s.m.rows->qah Tryz.prog 165 #[.slice y2.x.rA 16 y2.x.rc,r] u fun e w'=>∃v,e=.returned (.tuple #[v,()])/\Z8.Given u w' v (Z8.YH s.m.rows (r:Int)).rows):=χ (fun u y2 s2 hu2 he=>by
  have hr:=hu2.rv.met.lies.rows
  rw[he]at hr
  have:=Z8.G5 s.m.rows y2.x.rA 16 y2.x.rc (r:Int) u hrl hr
  unfold Z8.Yh at this
  rwa[hrel]at this)
 have HO:=χ ho
 have aC:=χ hrl
 have hwr:qag.wrap ((r:Int)+1-1)=(r:Int):=by rw[qad];omega
 have hwr2:qag.wrap (r:Int)=(r:Int):=by rw[qad];omega
 have acR:=(qan.1 ho).1
 have hq0:(0:Int)<=(q:Int):=by omega
 have hq1:(q:Int)<(s.m.own.length:Int):=by omega
 have HV:=χ h
 have h12:(a:Int)<(s.D.length:Int):=by omega
 have jT:=χ ha
 have Cg:=χ hd
 clear h ha hu pg hbit c4 c5 c7 c9 hd hA hD hq EZ hqn iR hun hq5 hmul OT ho hrel hrl Kg acR
 go_enter Tryz.func85,Tryz.ntmps85
 go_upto_region 6 with(first|(go_at_call 161;go_must (with_reducible refine Wz.out.mono ?_);rintro e w1 ⟨he,hb⟩;obtain rfl:=he;subst hb)|(go_at_call 162;go_must (with_reducible refine MC.out.mono ?_);rintro e w2 ⟨he,A2,c2,hv⟩;obtain rfl:=he;have XT:=χ hv;clear hv c6 c8))
 have Uv:=χ (XT.out.below (qai _ w2).drew)
 obtain⟨c4,c5,c6,c7,c8,c9⟩:=Uv.out.rv.cells
 clear c4 c5 c6 c7 c9
 simp only at c8
 rw[L8.out]at c8
 obtain⟨Z,hZ⟩:∃Z:Array Value,Z=(Z6 ZF).toArray:=⟨_,rfl⟩
 have hmk:(Instr.makeSlice 37 (.int .i64 64) (.int .i64 64)).run Tryz.prog w2.drew=.ok (.slice w2.drew.heap.size 64 64) (w2.drew.alloc (.cells Z 5)):=by
  rw[hZ]
  exact YD 64 (by decide) w2.drew
 have hal:=Z0 w2.drew (.cells Z 5)
 have kE:=χ (Uv.out.below hal)
 have hcv:(convert 37 9 (.slice w2.heap.size 64 64)).run Tryz.prog (w2.alloc (.cells Z 5)).drew=.ok (TJ ZF) (w2.alloc (.cells Z 5)).drew:=by
  have hb:Bk (w2.drew.alloc (.cells Z 5)) w2.drew.heap.size 5 (Z6 ZF):=by rw[hZ];exact Bk.new _ _ _
  have:=hb.rd 64 0
  rw[List.drop_zero,qao (by rw[Z4];exact Nat.le_refl 64)]at this
  exact Z9.VB (l:=ZF) rfl this
 clear hZ hal
 obtain⟨c4,c5,c6,c7,kD,c9⟩:=kE.out.rv.cells
 clear c4 c5 c6 c7 c9
 simp only at kD
 rw[L8.out]at kD
 obtain⟨⟨zv,hz⟩,hfz⟩:=Xo (by have:=kE.out.rv.bs;rw[L8.out]at this;exact this) a (by have:=jT.out;simp only;omega)
 have c8b:(w2.alloc (.cells Z 5)).cell? ⟨bw,8,none⟩=some (.slice gb s.B.length y.bc):=kD
 have hz2:(w2.alloc (.cells Z 5)).cell? ⟨gb,a,none⟩=some zv:=hz
 have bR:(w2.alloc (.cells Z 5)).frozen? ⟨gb,a,none⟩=false:=hfz
 clear kD hz hfz
 have wD:Hid (RM j i g pp P w0 ((w2.alloc (.cells Z 5)).setCell ⟨gb,a,none⟩ (TJ ZF)).drew bw {y with x:={y.x with uA:=A2,uc:=c2}} {s with m:={s.m with used:=Bits.wb s.m.used a false},B:=s.B.set a ZF}):=χ (kE.out.str L8.out a ZF)
 obtain⟨sv,hsv⟩:∃sv,TJ ZF=.string sv:=⟨_,rfl⟩
 rw[hsv]at hcv wD
 clear hsv
 go_region
 clear c8 c8b hcv hz2 bR hmk Uv kE
 generalize ((w2.alloc (.cells Z 5)).setCell ⟨gb,a,none⟩ (.string sv)).drew=w5 at*
 have hfl:=wD.out.flag bT.out a t
 obtain⟨⟨zv,hz⟩,hfz⟩:=Xo (by have:=wD.out.rv.ds;rw[bT.out]at this;exact this) a (by have:=Cg.out;simp only;omega)
 obtain⟨c4,c5,c6,c7,c8,c9⟩:=wD.out.rv.cells
 rw[bT.out]at c9
 have Qo:=χ hfl
 clear c4 c5 c6 c7 c8 hfl
 go_upto_region 8 with fail
 generalize w5.setCell ⟨gd,a,none⟩ (.bool true)=w6 at*
 clear hz hfz c9
 obtain⟨g0,g1,g2,g3⟩:=Qo.out.rv.YV
 obtain⟨c4,c5,c6,c7,c8,c9⟩:=Qo.out.rv.cells
 simp only at c6
 rw[OX.out]at c6
 clear c4 c5 c7 c8 c9 g0 g1 g2
 go_upto_region 9 with fail
 have HCQ:Hid (∀k:Nat,qah Tryz.prog 164 #[.slice A2 64 c2,.int .i64 ((q:Int)*(pp:Int)),.int .i64 ((q:Int)*(pp:Int)+(pp:Int))] (w6.drewN k) fun e w'=>e=.returned (.int .i64 ((0:Nat):Int))/\w'=w6.drewN k):=χ (fun k=>by
  refine(HCN.out _ _ _ (Qo.out.below (below_drewN (qai _ w6) k)) rfl).mono ?_
  rintro e w' ⟨he,hw⟩
  exact⟨he,hw.symm⟩)
 go_quiet ((go_at_call 164;exact qah.quiet_of_same (HCQ.out _)))
 go_upto_region 10 with fail
 obtain⟨go,co,hO0,hco⟩:=Zp Qo.out.rv.met.own (by simp only;omega)
 have hO:y.x.oA=some ⟨go,0,none⟩:=(qaf hO0).1
 have wF:=χ hO
 clear hO0 hco hO g3 c6
 have HF:Hid (∀u:qaj,RM j i g pp P w0 u bw {y with x:={y.x with uA:=A2,uc:=c2}} {s with m:={s.m with used:=Bits.wb s.m.used a false},B:=s.B.set a ZF,D:=s.D.set a (some t)}->u.cell? ⟨bw,4,none⟩=some (.slice y.x.rA 16 y.x.rc)/\u.cell? ⟨bw,5,none⟩=some (.slice go s.m.own.length y.x.oc)/\u.cell? ⟨go,q,none⟩=some (.int .i64 ((r:Int)+1))):=χ (fun u hu=>by
  obtain⟨c4,c5,c6,c7,c8,c9⟩:=hu.rv.cells
  simp only at c4 c5
  rw[wF.out]at c5
  rw[aC.out]at c4
  have hlo:=hu.rv.met.lies.own
  simp only at hlo
  rw[wF.out]at hlo
  have:=Yf hlo HO.out
  rw[Nat.zero_add]at this
  exact⟨c4,c5,this⟩)
 have Uv:=χ ((Qo.out.below (below_drewN (qai _ w6) nq)).below (qai _ _).drew)
 have hS0:=HF.out _ Uv.out
 refine wp_region_held_drew (S:=fun u=>u.cell? ⟨bw,4,none⟩=some (.slice y.x.rA 16 y.x.rc)/\u.cell? ⟨bw,5,none⟩=some (.slice go s.m.own.length y.x.oc)/\u.cell? ⟨go,q,none⟩=some (.int .i64 ((r:Int)+1))) (by kernel_rfl) hS0 (fun hHeld=>?_)
 clear hS0
 generalize hu0:(w6.drewN nq).drew=IX at*
 clear hu0
 refine tk 0 ?_ (y:=.inl ⟨by rfl,?hya0⟩) (s:=by exact hHeld) (h:=?V6)
 case hya0=>exact zyq6
 try simp only[qae,qaa,qab,qac]
 refine tk 1 ?_ (y:=.inl ⟨by rfl,?hya1⟩) (s:=by exact hHeld) (h:=?V5)
 case hya1=>exact zyq6
 try simp only[qae,qaa,qab,qac]
 refine tk 2 ?_ (y:=.inl ⟨by rfl,?hya2⟩) (s:=by exact hHeld) (h:=?V4)
 case hya2=>exact zyq6
 try simp only[qae,qaa,qab,qac]
 refine tk 3 ?_ (y:=.inl ⟨by rfl,?hya3⟩) (s:=by exact hHeld) (h:=?TD)
 case hya3=>exact zyq6
 try simp only[qae,qaa,qab,qac]
 refine tk 4 ?_ (y:=.inl ⟨by rfl,?hya4⟩) (s:=by exact hHeld) (h:=?TN)
 case hya4=>exact zyq6
 try simp only[qae,qaa,qab,qac]
 refine tk 5 ?_ (y:=.inl ⟨by rfl,?hya5⟩) (s:=by exact hHeld) (h:=?Vi)
 case hya5=>exact zyq6
 try simp only[qae,qaa,qab,qac]
 refine tk 6 ?_ (y:=.inl ⟨by rfl,?hya6⟩) (s:=by exact hHeld) (h:=?UR)
 case hya6=>exact zyq6
 try simp only[qae,qaa,qab,qac]
 refine tk 7 ?_ (y:=.inl ⟨by rfl,?hya7⟩) (s:=by exact hHeld) (h:=?RU)
 case hya7=>exact zyq6
 try simp only[qae,qaa,qab,qac]
 refine tk 8 ?_ (y:=.inl ⟨by rfl,?hya8⟩) (s:=by exact hHeld) (h:=?RS)
 case hya8=>exact zyq6
 try simp only[qae,qaa,qab,qac]
 refine tk 9 ?_ (y:=.inl ⟨by rfl,?hya9⟩) (s:=by exact hHeld) (h:=?OW)
 case hya9=>exact zyq6
 try simp only[qae,qaa,qab,qac]
 refine tk 10 ?_ (y:=.inl ⟨by rfl,?hya10⟩) (s:=by exact hHeld) (h:=?Vb)
 case hya10=>exact zyq6
 try simp only[qae,qaa,qab,qac]
 refine tk 11 ?_ (y:=.inl ⟨by rfl,?hya11⟩) (s:=by exact hHeld) (h:=?Rb)
 case hya11=>exact zyq6
 try simp only[qae,qaa,qab,qac]
 refine tk 12 ?_ (y:=.inl ⟨by rfl,?hya12⟩) (s:=by exact hHeld) (h:=?Ra)
 case hya12=>exact zyq6
 try simp only[qae,qaa,qab,qac]
 refine tk 13 ?_ (y:=.inl ⟨by rfl,?hya13⟩) (s:=by exact hHeld) (h:=?LQ)
 case hya13=>exact zyq6
 try simp only[qae,qaa,qab,qac]
 have HRZ:Hid (qah Tryz.prog 165 #[.slice y.x.rA 16 y.x.rc,r] IX fun e w'=>∃v,e=.returned (.tuple #[v,()])/\Z8.Given IX w' v (Z8.YH s.m.rows (r:Int)).rows):=χ (by have hz:=xw.out _ _ _ Uv.out rfl;exact hz)
 refine rd 14 (h:=fun K hK=>?_)
 go_simp
 (with_reducible refine HRZ.out.mono ?_)
 rintro e w8 ⟨v,he,hm,hb⟩;obtain rfl:=he;obtain⟨A3,c3,hv,hA⟩:=YT hm;subst hv
 have kC:=χ (Uv.out.below hb)
 have HM:=χ hm
 have I6:Hid (At (w0.heap.size<=·) A3):=χ (hA.mono fun _ h=>Nat.le_trans Uv.out.kept.size h)
 clear hm hb hA
 have hS:=HF.out _ kC.out
 go_simp
 refine hK.out _ _ hS (fun Z5=>?_)
 clear hK K hHeld hS
 have hHeld:=Z5
 clear Z5
 try simp only[qae,qaa,qab,qac]
 refine tk 15 ?_ (y:=.inl ⟨by rfl,?hya15⟩) (s:=by exact hHeld) (h:=?jC)
 case hya15=>exact zyq6
 try simp only[qae,qaa,qab,qac]
 refine tk 16 ?_ (y:=.inl ⟨by rfl,?hya16⟩) (s:=by exact hHeld) (h:=?uP)
 case hya16=>exact zyq6
 try simp only[qae,qaa,qab,qac]
 refine tk 17 ?_ (y:=.inl ⟨by rfl,?hya17⟩) (s:=by exact hHeld) (h:=?uO)
 case hya17=>exact zyq6
 try simp only[qae,qaa,qab,qac]
 refine tk 18 ?_ (y:=.inl ⟨by rfl,?hya18⟩) (s:=by exact hHeld) (h:=?uN)
 case hya18=>exact zyq6
 try simp only[qae,qaa,qab,qac]
 refine tk 19 ?_ (y:=.inl ⟨by rfl,?hya19⟩) (s:=by exact hHeld) (h:=?iW)
 case hya19=>exact zyq6
 try simp only[qae,qaa,qab,qac]
 refine wpAnyH_done (by kernel_rfl) ?_ _
 clear hHeld
 obtain⟨d4,d5,d6,d7,d8,d9⟩:=kC.out.rv.cells
 clear d5 d6 d7 d8 d9
 have fz:=kC.out.rv.box.frozen 4
 go_upto_region 12 with fail
 have Sb:Hid (RM j i g pp P w0 (w8.setCell ⟨bw,4,none⟩ (.slice A3 (Z8.YH s.m.rows (r:Int)).rows.length c3)) bw {y with x:={y.x with uA:=A2,uc:=c2,rA:=A3,rc:=c3}} {s with m:={s.m with used:=Bits.wb s.m.used a false,rows:=(Z8.YH s.m.rows (r:Int)).rows},B:=s.B.set a ZF,D:=s.D.set a (some t)}):=χ (kC.out.rows (ZL HM.out (Nat.zero_le _)) I6.out)
 clear d4 fz
 generalize w8.setCell ⟨bw,4,none⟩ (.slice A3 (Z8.YH s.m.rows (r:Int)).rows.length c3)=w9 at*
 obtain⟨c4,c5,c6,c7,c8,c9⟩:=Sb.out.rv.cells
 simp only at c5
 rw[wF.out]at c5
 obtain⟨⟨zo,hzo⟩,hfo⟩:=Xo (by have:=Sb.out.rv.met.own;simp only at this;rw[wF.out]at this;exact this) q (by omega)
 clear c4 c6 c7 c8 c9
 go_wp2
 go_ret
 exact⟨rfl,_,Sb.out.owner wF.out q 0⟩
end
end Go.Proofs.YtmehhgfbnfbnaaaGreat.Zl
