import Derived.Test.YtmehhgfbnfbnaaaGreatQVolL
import Derived.Test.YtmehhgfbnfbnaaaGreatQInodeA
import Derived.Test.YtmehhgfbnfbnaaaGreatQTk
import Derived.Test.YtmehhgfbnfbnaaaGreatQMetaN2
set_option maxRecDepth 100000
set_option maxHeartbeats 25600000
open List renaming setIfInBounds_toArray->qaa,replicate->qab,set_cons_zero->qac,set_cons_succ->qad,length_replicate->qaq
open Go.Value.slice renaming inj->qae
open Go renaming World->qaf,Calls->qag
open Go.Act renaming put->qah
open Nat renaming zero_add->qai,add_zero->qaj,zero_le->qal
open Go.RowKit.Below renaming refl->qak
open Go.Value renaming slice->qam
open Go.RowKit renaming Below->qan,Hid->qao
open Go.Region renaming wanted->qap
namespace Go.Proofs.YtmehhgfbnfbnaaaGreat
theorem zsq0{P:Prop}(h:P:=by
 generalize od.k=ok at*
 generalize od.r=or at*
 go_enter Tryz.func89,Tryz.ntmps89
 go_upto_region 1 with fail
 generalize w.alloc (.cells #[.int .u8 k,.int .u8 rr,l,s_,p0,p1,p2,p3,p4,p5,p6,p7,p8,p9] 40)=U at*
 obtain⟨z0,z1,z2,z3,z4,z5,z6,z7,z8,z9,YJ,YI,z12,XE⟩:=ZY Zk.out
 go_upto_region 3 with(first|(go_at_call 166;go_must (with_reducible refine(HR.out _).mono ?_);rintro e w2 ⟨he,hb⟩;obtain rfl:=he;replace HB:=χ (HB.out.trans (hb.mono HB.out.size));replace Zk:=χ (Zk.out.below hb Zk.out.lt);clear hb;clear z0 z1 z2 z3 z4 z5 z6 z7 z8 z9 YJ YI z12 XE;obtain⟨z0,z1,z2,z3,z4,z5,z6,z7,z8,z9,YJ,YI,z12,XE⟩:=ZY Zk.out;clear c7;obtain⟨-,-,-,c7,-,-⟩:=(HV.out.below HB.out).rv.cells;rw[Wz.out]at c7))
 obtain⟨y0,y1⟩:=Ro.out _ (HV.out.below HB.out)
 go_quiet (fail)
 have o8:=χ ((HV.out.below HB.out).below (below_drewN (qak _ _) nq))
 go_wp2
 go_ret
 exact⟨rfl,o8.out⟩):P:=h
theorem zsq1{P:Prop}(h:P:=by
 have hal:=Z0 w (.cells #[.int .u8 k,.int .u8 rr,l,s_,p0,p1,p2,p3,p4,p5,p6,p7,p8,p9] 40)
 have HB:=χ hal
 have Zk:qao (Bk (w.alloc (.cells #[.int .u8 k,.int .u8 rr,l,s_,p0,p1,p2,p3,p4,p5,p6,p7,p8,p9] 40)) w.heap.size 40 [.int .u8 k,.int .u8 rr,l,s_,p0,p1,p2,p3,p4,p5,p6,p7,p8,p9]):=χ (Bk.new w 40 [.int .u8 k,.int .u8 rr,l,s_,p0,p1,p2,p3,p4,p5,p6,p7,p8,p9])
 have HV:=χ h
 have hv:=h.below hal
 obtain⟨-,-,-,c7,-,-⟩:=hv.rv.cells
 clear h hal hv
 go_enter Tryz.func89,Tryz.ntmps89
 go_upto_region 1 with fail
 generalize w.alloc (.cells #[.int .u8 k,.int .u8 rr,l,s_,p0,p1,p2,p3,p4,p5,p6,p7,p8,p9] 40)=U at*
 obtain⟨z0,z1,z2,z3,z4,z5,z6,z7,z8,z9,YJ,YI,z12,XE⟩:=ZY Zk.out
 go_wp2_with (fail)
 go_ret
 exact⟨rfl,HV.out.below HB.out⟩):P:=h
theorem zsq2{P:Prop}(h:P:=by
 go_enter Tryz.func89,Tryz.ntmps89
 go_upto_region 1 with fail
 generalize w.alloc (.cells #[.int .u8 k,.int .u8 rr,l,s_,p0,p1,p2,p3,p4,p5,p6,p7,p8,p9] 40)=U at*
 obtain⟨z0,z1,z2,z3,z4,z5,z6,z7,z8,z9,YJ,YI,z12,XE⟩:=ZY Zk.out
 go_wp2_with (first|(go_at_call 166;go_must (with_reducible refine(HR.out _).mono ?_);rintro e w2 ⟨he,hb⟩;obtain rfl:=he;replace HB:=χ (HB.out.trans (hb.mono HB.out.size));replace Zk:=χ (Zk.out.below hb Zk.out.lt);clear hb;clear z0 z1 z2 z3 z4 z5 z6 z7 z8 z9 YJ YI z12 XE;obtain⟨z0,z1,z2,z3,z4,z5,z6,z7,z8,z9,YJ,YI,z12,XE⟩:=ZY Zk.out;clear c7;obtain⟨-,-,-,c7,-,-⟩:=(HV.out.below HB.out).rv.cells))
 go_ret
 exact⟨rfl,HV.out.below HB.out⟩):P:=h
theorem zsq3{P:Prop}(h:P:=by
 (rintro u ⟨c7,Yr⟩;clear Yr;go_simp<;>with_reducible rfl)):P:=h
end Go.Proofs.YtmehhgfbnfbnaaaGreat
namespace Go.Proofs.YtmehhgfbnfbnaaaGreat.Zl
open Go.RowKit Zq Meta
section
variable {j i g pp bw:Nat}{P:Nat->Prop}{w0 w:qaf}{y:Rm}{s:PS}
theorem pG(h:RM j i g pp P w0 w bw y s)(k rr:Nat)(l s_ p0 p1 p2 p3 p4 p5 p6 p7 p8 p9:Int)(a:Int)(h0:a<0):
  qag Tryz.prog 89 #[.pointer bw,a,.agg #[.int .u8 k,.int .u8 rr,l,s_,p0,p1,p2,p3,p4,p5,p6,p7,p8,p9]] w fun e w'=>e=.returned (.int .i64 1)/\RM j i g pp P w0 w' bw y s:=by
 exact zsq1
theorem pF(h:RM j i g pp P w0 w bw y s)(k rr:Nat)(l s_ p0 p1 p2 p3 p4 p5 p6 p7 p8 p9:Int)(a:Int)(h0:¬ a<0)(h1:(s.m.ino.length:Int)<=a):
  qag Tryz.prog 89 #[.pointer bw,a,.agg #[.int .u8 k,.int .u8 rr,l,s_,p0,p1,p2,p3,p4,p5,p6,p7,p8,p9]] w fun e w'=>e=.returned (.int .i64 1)/\RM j i g pp P w0 w' bw y s:=by
 exact zsq1
theorem pI(h:RM j i g pp P w0 w bw y s)(k rr:Nat)(l s_ p0 p1 p2 p3 p4 p5 p6 p7 p8 p9:Int)(hnd:Z9.YP ⟨k,rr,l,s_,[p0,p1,p2,p3,p4,p5,p6,p7,p8,p9]⟩)(a:Nat)(ha:a<s.m.ino.length)(hn:¬ Z9.Right ⟨k,rr,l,s_,[p0,p1,p2,p3,p4,p5,p6,p7,p8,p9]⟩):
  qag Tryz.prog 89 #[.pointer bw,a,.agg #[.int .u8 k,.int .u8 rr,l,s_,p0,p1,p2,p3,p4,p5,p6,p7,p8,p9]] w fun e w'=>e=.returned (.int .i64 1)/\RM j i g pp P w0 w' bw y s:=by
 have hal:=Z0 w (.cells #[.int .u8 k,.int .u8 rr,l,s_,p0,p1,p2,p3,p4,p5,p6,p7,p8,p9] 40)
 have HB:=χ hal
 have Zk:qao (Bk (w.alloc (.cells #[.int .u8 k,.int .u8 rr,l,s_,p0,p1,p2,p3,p4,p5,p6,p7,p8,p9] 40)) w.heap.size 40 [.int .u8 k,.int .u8 rr,l,s_,p0,p1,p2,p3,p4,p5,p6,p7,p8,p9]):=χ (Bk.new w 40 [.int .u8 k,.int .u8 rr,l,s_,p0,p1,p2,p3,p4,p5,p6,p7,p8,p9])
 have HV:=χ h
 have hv:=h.below hal
 have h0:¬ (a:Int)<0:=by omega
 have h1:¬ (s.m.ino.length:Int)<=(a:Int):=by omega
 have HR:qao (∀u:qaf,qag Tryz.prog 166 #[.agg #[.int .u8 k,.int .u8 rr,l,s_,p0,p1,p2,p3,p4,p5,p6,p7,p8,p9]] u fun e w'=>e=.returned (.bool false)/\qan u.heap.size u w'):=χ (fun u=>by
  have:=Z9.Xv ⟨k,rr,l,s_,[p0,p1,p2,p3,p4,p5,p6,p7,p8,p9]⟩ hnd u
  rw[Z9.ZN hn]at this
  exact this)
 obtain⟨-,-,-,c7,-,-⟩:=hv.rv.cells
 clear h hal hv hnd ha hn
 exact zsq2
theorem wV(h:RM j i g pp P w0 w bw y s)(k rr:Nat)(l s_ p0 p1 p2 p3 p4 p5 p6 p7 p8 p9:Int)(hnd:Z9.YP ⟨k,rr,l,s_,[p0,p1,p2,p3,p4,p5,p6,p7,p8,p9]⟩)(a:Nat)(ha:a<s.m.ino.length)(hn:Z9.Right ⟨k,rr,l,s_,[p0,p1,p2,p3,p4,p5,p6,p7,p8,p9]⟩)(hk:k=0):
  qag Tryz.prog 89 #[.pointer bw,a,.agg #[.int .u8 k,.int .u8 rr,l,s_,p0,p1,p2,p3,p4,p5,p6,p7,p8,p9]] w fun e w'=>e=.returned (.int .i64 1)/\RM j i g pp P w0 w' bw y s:=by
 have hal:=Z0 w (.cells #[.int .u8 k,.int .u8 rr,l,s_,p0,p1,p2,p3,p4,p5,p6,p7,p8,p9] 40)
 have HB:=χ hal
 have Zk:qao (Bk (w.alloc (.cells #[.int .u8 k,.int .u8 rr,l,s_,p0,p1,p2,p3,p4,p5,p6,p7,p8,p9] 40)) w.heap.size 40 [.int .u8 k,.int .u8 rr,l,s_,p0,p1,p2,p3,p4,p5,p6,p7,p8,p9]):=χ (Bk.new w 40 [.int .u8 k,.int .u8 rr,l,s_,p0,p1,p2,p3,p4,p5,p6,p7,p8,p9])
 have HV:=χ h
 have hv:=h.below hal
 have h0:¬ (a:Int)<0:=by omega
 have h1:¬ (s.m.ino.length:Int)<=(a:Int):=by omega
 have HR:qao (∀u:qaf,qag Tryz.prog 166 #[.agg #[.int .u8 k,.int .u8 rr,l,s_,p0,p1,p2,p3,p4,p5,p6,p7,p8,p9]] u fun e w'=>e=.returned (.bool true)/\qan u.heap.size u w'):=χ (fun u=>by
  have:=Z9.Xv ⟨k,rr,l,s_,[p0,p1,p2,p3,p4,p5,p6,p7,p8,p9]⟩ hnd u
  rw[Z9.ZW hn]at this
  exact this)
 have kz:((k:Int)==0)=true:=by simp;omega
 obtain⟨-,-,-,c7,-,-⟩:=hv.rv.cells
 clear h hal hv hnd ha hn hk
 exact zsq2
theorem wU(h:RM j i g pp P w0 w bw y s)(k rr:Nat)(l s_ p0 p1 p2 p3 p4 p5 p6 p7 p8 p9:Int)(hnd:Z9.YP ⟨k,rr,l,s_,[p0,p1,p2,p3,p4,p5,p6,p7,p8,p9]⟩)(a:Nat)(ha:a<s.m.ino.length)(hn:Z9.Right ⟨k,rr,l,s_,[p0,p1,p2,p3,p4,p5,p6,p7,p8,p9]⟩)(hk:k≠0)(od:Z9.ZC)(hod:s.m.ino[a]? =some od)(Xf:∀y∈s.m.ino,Z9.YP y)(hok:od.k=0):
  qag Tryz.prog 89 #[.pointer bw,a,.agg #[.int .u8 k,.int .u8 rr,l,s_,p0,p1,p2,p3,p4,p5,p6,p7,p8,p9]] w fun e w'=>e=.returned (.int .i64 2)/\RM j i g pp P w0 w' bw y s:=by
 have hal:=Z0 w (.cells #[.int .u8 k,.int .u8 rr,l,s_,p0,p1,p2,p3,p4,p5,p6,p7,p8,p9] 40)
 have HB:=χ hal
 have Zk:qao (Bk (w.alloc (.cells #[.int .u8 k,.int .u8 rr,l,s_,p0,p1,p2,p3,p4,p5,p6,p7,p8,p9] 40)) w.heap.size 40 [.int .u8 k,.int .u8 rr,l,s_,p0,p1,p2,p3,p4,p5,p6,p7,p8,p9]):=χ (Bk.new w 40 [.int .u8 k,.int .u8 rr,l,s_,p0,p1,p2,p3,p4,p5,p6,p7,p8,p9])
 have HV:=χ h
 have hv:=h.below hal
 have h0:¬ (a:Int)<0:=by omega
 have h1:¬ (s.m.ino.length:Int)<=(a:Int):=by omega
 have HR:qao (∀u:qaf,qag Tryz.prog 166 #[.agg #[.int .u8 k,.int .u8 rr,l,s_,p0,p1,p2,p3,p4,p5,p6,p7,p8,p9]] u fun e w'=>e=.returned (.bool true)/\qan u.heap.size u w'):=χ (fun u=>by
  have:=Z9.Xv ⟨k,rr,l,s_,[p0,p1,p2,p3,p4,p5,p6,p7,p8,p9]⟩ hnd u
  rw[Z9.ZW hn]at this
  exact this)
 have bQ:¬ (k:Int)=0:=by omega
 have kz:((k:Int)==0)=false:=by simp;omega
 obtain⟨bi,ci,Wo,hci⟩:=Zp hv.rv.met.ino (by omega)
 have hA:=(qae Wo).1
 clear Wo hci
 have Wz:=χ hA
 have Ro:qao (∀(u:qaf),RM j i g pp P w0 u bw y s->u.cell? ⟨bi,a*14,none⟩=some (.int .u8 od.k)/\u.cell? ⟨bi,a*14+1,none⟩=some (.int .u8 od.r)):=χ (fun u hu=>by
  have h1:=Yi (by have:=hu.rv.met.lies.ino;rw[hA]at this;exact this) Xf hod
  have h2:=h1 0 _ (show(Z9.ZX od)[0]? =some (.int .u8 od.k)from rfl)
  have h3:=h1 1 _ (show(Z9.ZX od)[1]? =some (.int .u8 od.r)from rfl)
  simp only[qai,qaj]at h2 h3
  exact⟨h2,h3⟩)
 have ha0:(0:Int)<=(a:Int):=by omega
 have ha1:(a:Int)<(s.m.ino.length:Int):=by omega
 rw[hok]at Ro
 obtain⟨-,-,-,c7,-,-⟩:=hv.rv.cells
 rw[hA]at c7
 clear h hal hv hnd ha hn hk hod Xf hok hA
 generalize od.r=or at*
 go_enter Tryz.func89,Tryz.ntmps89
 go_upto_region 1 with fail
 generalize w.alloc (.cells #[.int .u8 k,.int .u8 rr,l,s_,p0,p1,p2,p3,p4,p5,p6,p7,p8,p9] 40)=U at*
 obtain⟨z0,z1,z2,z3,z4,z5,z6,z7,z8,z9,YJ,YI,z12,XE⟩:=ZY Zk.out
 go_upto_region 3 with(first|(go_at_call 166;go_must (with_reducible refine(HR.out _).mono ?_);rintro e w2 ⟨he,hb⟩;obtain rfl:=he;replace HB:=χ (HB.out.trans (hb.mono HB.out.size));replace Zk:=χ (Zk.out.below hb Zk.out.lt);clear hb;clear z0 z1 z2 z3 z4 z5 z6 z7 z8 z9 YJ YI z12 XE;obtain⟨z0,z1,z2,z3,z4,z5,z6,z7,z8,z9,YJ,YI,z12,XE⟩:=ZY Zk.out;clear c7;obtain⟨-,-,-,c7,-,-⟩:=(HV.out.below HB.out).rv.cells;rw[Wz.out]at c7))
 obtain⟨y0,y1⟩:=Ro.out _ (HV.out.below HB.out)
 go_quiet (fail)
 have o8:=χ ((HV.out.below HB.out).below (below_drewN (qak _ _) nq))
 obtain⟨-,-,-,c7q,-,-⟩:=o8.out.rv.cells
 rw[Wz.out]at c7q
 obtain⟨y0q,y1q⟩:=Ro.out _ o8.out
 go_wp2
 go_ret
 exact⟨rfl,o8.out⟩
theorem wT(h:RM j i g pp P w0 w bw y s)(k rr:Nat)(l s_ p0 p1 p2 p3 p4 p5 p6 p7 p8 p9:Int)(hnd:Z9.YP ⟨k,rr,l,s_,[p0,p1,p2,p3,p4,p5,p6,p7,p8,p9]⟩)(a:Nat)(ha:a<s.m.ino.length)(hn:Z9.Right ⟨k,rr,l,s_,[p0,p1,p2,p3,p4,p5,p6,p7,p8,p9]⟩)(hk:k≠0)(od:Z9.ZC)(hod:s.m.ino[a]? =some od)(Xf:∀y∈s.m.ino,Z9.YP y)(hok:od.k≠0)(hkk:k≠od.k):
  qag Tryz.prog 89 #[.pointer bw,a,.agg #[.int .u8 k,.int .u8 rr,l,s_,p0,p1,p2,p3,p4,p5,p6,p7,p8,p9]] w fun e w'=>e=.returned (.int .i64 1)/\RM j i g pp P w0 w' bw y s:=by
 have hal:=Z0 w (.cells #[.int .u8 k,.int .u8 rr,l,s_,p0,p1,p2,p3,p4,p5,p6,p7,p8,p9] 40)
 have HB:=χ hal
 have Zk:qao (Bk (w.alloc (.cells #[.int .u8 k,.int .u8 rr,l,s_,p0,p1,p2,p3,p4,p5,p6,p7,p8,p9] 40)) w.heap.size 40 [.int .u8 k,.int .u8 rr,l,s_,p0,p1,p2,p3,p4,p5,p6,p7,p8,p9]):=χ (Bk.new w 40 [.int .u8 k,.int .u8 rr,l,s_,p0,p1,p2,p3,p4,p5,p6,p7,p8,p9])
 have HV:=χ h
 have hv:=h.below hal
 have h0:¬ (a:Int)<0:=by omega
 have h1:¬ (s.m.ino.length:Int)<=(a:Int):=by omega
 have HR:qao (∀u:qaf,qag Tryz.prog 166 #[.agg #[.int .u8 k,.int .u8 rr,l,s_,p0,p1,p2,p3,p4,p5,p6,p7,p8,p9]] u fun e w'=>e=.returned (.bool true)/\qan u.heap.size u w'):=χ (fun u=>by
  have:=Z9.Xv ⟨k,rr,l,s_,[p0,p1,p2,p3,p4,p5,p6,p7,p8,p9]⟩ hnd u
  rw[Z9.ZW hn]at this
  exact this)
 have bQ:¬ (k:Int)=0:=by omega
 have kz:((k:Int)==0)=false:=by simp;omega
 obtain⟨bi,ci,Wo,hci⟩:=Zp hv.rv.met.ino (by omega)
 have hA:=(qae Wo).1
 clear Wo hci
 have Wz:=χ hA
 have Ro:qao (∀(u:qaf),RM j i g pp P w0 u bw y s->u.cell? ⟨bi,a*14,none⟩=some (.int .u8 od.k)/\u.cell? ⟨bi,a*14+1,none⟩=some (.int .u8 od.r)):=χ (fun u hu=>by
  have h1:=Yi (by have:=hu.rv.met.lies.ino;rw[hA]at this;exact this) Xf hod
  have h2:=h1 0 _ (show(Z9.ZX od)[0]? =some (.int .u8 od.k)from rfl)
  have h3:=h1 1 _ (show(Z9.ZX od)[1]? =some (.int .u8 od.r)from rfl)
  simp only[qai,qaj]at h2 h3
  exact⟨h2,h3⟩)
 have ha0:(0:Int)<=(a:Int):=by omega
 have ha1:(a:Int)<(s.m.ino.length:Int):=by omega
 have hoz:((od.k:Int) != 0)=true:=by simp;omega
 have ky:¬ (od.k:Int)=0:=by omega
 have kv:((od.k:Int)==0)=false:=by simp;omega
 have hkq:((k:Int) != (od.k:Int))=true:=by simp;omega
 have aex:¬ (k:Int)=(od.k:Int):=by omega
 obtain⟨-,-,-,c7,-,-⟩:=hv.rv.cells
 rw[hA]at c7
 clear h hal hv hnd ha hn hk hod Xf hok hA hkk
 exact zsq0
theorem pJ(h:RM j i g pp P w0 w bw y s)(k rr:Nat)(l s_ p0 p1 p2 p3 p4 p5 p6 p7 p8 p9:Int)(hnd:Z9.YP ⟨k,rr,l,s_,[p0,p1,p2,p3,p4,p5,p6,p7,p8,p9]⟩)(a:Nat)(ha:a<s.m.ino.length)(hn:Z9.Right ⟨k,rr,l,s_,[p0,p1,p2,p3,p4,p5,p6,p7,p8,p9]⟩)(hk:k≠0)(od:Z9.ZC)(hod:s.m.ino[a]? =some od)(Xf:∀y∈s.m.ino,Z9.YP y)(hok:od.k≠0)(hkk:k=od.k)(hrr:rr≠od.r):
  qag Tryz.prog 89 #[.pointer bw,a,.agg #[.int .u8 k,.int .u8 rr,l,s_,p0,p1,p2,p3,p4,p5,p6,p7,p8,p9]] w fun e w'=>e=.returned (.int .i64 1)/\RM j i g pp P w0 w' bw y s:=by
 have hal:=Z0 w (.cells #[.int .u8 k,.int .u8 rr,l,s_,p0,p1,p2,p3,p4,p5,p6,p7,p8,p9] 40)
 have HB:=χ hal
 have Zk:qao (Bk (w.alloc (.cells #[.int .u8 k,.int .u8 rr,l,s_,p0,p1,p2,p3,p4,p5,p6,p7,p8,p9] 40)) w.heap.size 40 [.int .u8 k,.int .u8 rr,l,s_,p0,p1,p2,p3,p4,p5,p6,p7,p8,p9]):=χ (Bk.new w 40 [.int .u8 k,.int .u8 rr,l,s_,p0,p1,p2,p3,p4,p5,p6,p7,p8,p9])
 have HV:=χ h
 have hv:=h.below hal
 have h0:¬ (a:Int)<0:=by omega
 have h1:¬ (s.m.ino.length:Int)<=(a:Int):=by omega
 have HR:qao (∀u:qaf,qag Tryz.prog 166 #[.agg #[.int .u8 k,.int .u8 rr,l,s_,p0,p1,p2,p3,p4,p5,p6,p7,p8,p9]] u fun e w'=>e=.returned (.bool true)/\qan u.heap.size u w'):=χ (fun u=>by
  have:=Z9.Xv ⟨k,rr,l,s_,[p0,p1,p2,p3,p4,p5,p6,p7,p8,p9]⟩ hnd u
  rw[Z9.ZW hn]at this
  exact this)
 have bQ:¬ (k:Int)=0:=by omega
 have kz:((k:Int)==0)=false:=by simp;omega
 obtain⟨bi,ci,Wo,hci⟩:=Zp hv.rv.met.ino (by omega)
 have hA:=(qae Wo).1
 clear Wo hci
 have Wz:=χ hA
 have Ro:qao (∀(u:qaf),RM j i g pp P w0 u bw y s->u.cell? ⟨bi,a*14,none⟩=some (.int .u8 od.k)/\u.cell? ⟨bi,a*14+1,none⟩=some (.int .u8 od.r)):=χ (fun u hu=>by
  have h1:=Yi (by have:=hu.rv.met.lies.ino;rw[hA]at this;exact this) Xf hod
  have h2:=h1 0 _ (show(Z9.ZX od)[0]? =some (.int .u8 od.k)from rfl)
  have h3:=h1 1 _ (show(Z9.ZX od)[1]? =some (.int .u8 od.r)from rfl)
  simp only[qai,qaj]at h2 h3
  exact⟨h2,h3⟩)
 have ha0:(0:Int)<=(a:Int):=by omega
 have ha1:(a:Int)<(s.m.ino.length:Int):=by omega
 have hoz:((od.k:Int) != 0)=true:=by simp;omega
 have ky:¬ (od.k:Int)=0:=by omega
 have kv:((od.k:Int)==0)=false:=by simp;omega
 rw[<-hkk]at Ro hoz ky kv
 have hrq:((rr:Int) != (od.r:Int))=true:=by simp;omega
 have aey:¬ (rr:Int)=(od.r:Int):=by omega
 obtain⟨-,-,-,c7,-,-⟩:=hv.rv.cells
 rw[hA]at c7
 clear h hal hv hnd ha hn hk hod Xf hok hA hkk hrr
 exact zsq0
theorem kH(h:RM j i g pp P w0 w bw y s)(k rr:Nat)(l s_ p0 p1 p2 p3 p4 p5 p6 p7 p8 p9:Int)(hnd:Z9.YP ⟨k,rr,l,s_,[p0,p1,p2,p3,p4,p5,p6,p7,p8,p9]⟩)(a:Nat)(ha:a<s.m.ino.length)(hn:Z9.Right ⟨k,rr,l,s_,[p0,p1,p2,p3,p4,p5,p6,p7,p8,p9]⟩)(hk:k≠0)(od:Z9.ZC)(hod:s.m.ino[a]? =some od)(Xf:∀y∈s.m.ino,Z9.YP y)(hok:od.k≠0)(hkk:k=od.k)(hrr:rr=od.r):
  qag Tryz.prog 89 #[.pointer bw,a,.agg #[.int .u8 k,.int .u8 rr,l,s_,p0,p1,p2,p3,p4,p5,p6,p7,p8,p9]] w fun e w'=>e=.returned (.int .i64 0)/\RM j i g pp P w0 w' bw y {s with m:={s.m with ino:=s.m.ino.set a ⟨k,rr,l,s_,[p0,p1,p2,p3,p4,p5,p6,p7,p8,p9]⟩}}:=by
 have hal:=Z0 w (.cells #[.int .u8 k,.int .u8 rr,l,s_,p0,p1,p2,p3,p4,p5,p6,p7,p8,p9] 40)
 have HB:=χ hal
 have Zk:qao (Bk (w.alloc (.cells #[.int .u8 k,.int .u8 rr,l,s_,p0,p1,p2,p3,p4,p5,p6,p7,p8,p9] 40)) w.heap.size 40 [.int .u8 k,.int .u8 rr,l,s_,p0,p1,p2,p3,p4,p5,p6,p7,p8,p9]):=χ (Bk.new w 40 [.int .u8 k,.int .u8 rr,l,s_,p0,p1,p2,p3,p4,p5,p6,p7,p8,p9])
 have HV:=χ h
 have hv:=h.below hal
 have h0:¬ (a:Int)<0:=by omega
 have h1:¬ (s.m.ino.length:Int)<=(a:Int):=by omega
 have HR:qao (∀u:qaf,qag Tryz.prog 166 #[.agg #[.int .u8 k,.int .u8 rr,l,s_,p0,p1,p2,p3,p4,p5,p6,p7,p8,p9]] u fun e w'=>e=.returned (.bool true)/\qan u.heap.size u w'):=χ (fun u=>by
  have:=Z9.Xv ⟨k,rr,l,s_,[p0,p1,p2,p3,p4,p5,p6,p7,p8,p9]⟩ hnd u
  rw[Z9.ZW hn]at this
  exact this)
 have bQ:¬ (k:Int)=0:=by omega
 have kz:((k:Int)==0)=false:=by simp;omega
 obtain⟨bi,ci,Wo,hci⟩:=Zp hv.rv.met.ino (by omega)
 have hA:=(qae Wo).1
 clear Wo hci
 have Wz:=χ hA
 have Ro:qao (∀(u:qaf),RM j i g pp P w0 u bw y s->u.cell? ⟨bi,a*14,none⟩=some (.int .u8 od.k)/\u.cell? ⟨bi,a*14+1,none⟩=some (.int .u8 od.r)):=χ (fun u hu=>by
  have h1:=Yi (by have:=hu.rv.met.lies.ino;rw[hA]at this;exact this) Xf hod
  have h2:=h1 0 _ (show(Z9.ZX od)[0]? =some (.int .u8 od.k)from rfl)
  have h3:=h1 1 _ (show(Z9.ZX od)[1]? =some (.int .u8 od.r)from rfl)
  simp only[qai,qaj]at h2 h3
  exact⟨h2,h3⟩)
 have ha0:(0:Int)<=(a:Int):=by omega
 have ha1:(a:Int)<(s.m.ino.length:Int):=by omega
 have hoz:((od.k:Int) != 0)=true:=by simp;omega
 have ky:¬ (od.k:Int)=0:=by omega
 have kv:((od.k:Int)==0)=false:=by simp;omega
 rw[<-hkk]at Ro hoz ky kv
 rw[<-hrr]at Ro
 have KH:qao (∀(u:qaf),RM j i g pp P w0 u bw y s->RM j i g pp P w0 (u.setCells bi (a*14) [.int .u8 k,.int .u8 rr,l,s_,p0,p1,p2,p3,p4,p5,p6,p7,p8,p9]) bw y {s with m:={s.m with ino:=s.m.ino.set a ⟨k,rr,l,s_,[p0,p1,p2,p3,p4,p5,p6,p7,p8,p9]⟩}}):=χ (fun u hu=>by
  have hcell:Z9.ZX ⟨k,rr,l,s_,[p0,p1,p2,p3,p4,p5,p6,p7,p8,p9]⟩=[.int .u8 k,.int .u8 rr,.int .i64 l,.int .i64 s_,.int .i64 p0,.int .i64 p1,.int .i64 p2,.int .i64 p3,.int .i64 p4,.int .i64 p5,.int .i64 p6,.int .i64 p7,.int .i64 p8,.int .i64 p9]:=rfl
  rw[<-hcell]
  exact hu.inode Xf hA ha hnd)
 have L9:=χ (fun(u:qaf) (hu:RM j i g pp P w0 u bw y s)=>WU (by have:=hu.rv.met.ino;rw[hA]at this;exact this) ha)
 obtain⟨-,-,-,c7,-,-⟩:=hv.rv.cells
 rw[hA]at c7
 clear h hal hv hnd ha hn hk hod Xf hok hA hkk hrr
 generalize od.k=ok at*
 generalize od.r=or at*
 go_enter Tryz.func89,Tryz.ntmps89
 go_upto_region 1 with fail
 have jD:qao (w.heap.size≠bi):=χ (by
  intro e
  have:=(HV.out.rv.met.ino).lt bi (by rw[Wz.out];rfl)
  omega)
 generalize w.alloc (.cells #[.int .u8 k,.int .u8 rr,l,s_,p0,p1,p2,p3,p4,p5,p6,p7,p8,p9] 40)=U at*
 obtain⟨z0,z1,z2,z3,z4,z5,z6,z7,z8,z9,YJ,YI,z12,XE⟩:=ZY Zk.out
 go_upto_region 3 with(first|(go_at_call 166;go_must (with_reducible refine(HR.out _).mono ?_);rintro e w2 ⟨he,hb⟩;obtain rfl:=he;replace HB:=χ (HB.out.trans (hb.mono HB.out.size));replace Zk:=χ (Zk.out.below hb Zk.out.lt);clear hb;clear z0 z1 z2 z3 z4 z5 z6 z7 z8 z9 YJ YI z12 XE;obtain⟨z0,z1,z2,z3,z4,z5,z6,z7,z8,z9,YJ,YI,z12,XE⟩:=ZY Zk.out;clear c7;obtain⟨-,-,-,c7,-,-⟩:=(HV.out.below HB.out).rv.cells;rw[Wz.out]at c7))
 obtain⟨y0,y1⟩:=Ro.out _ (HV.out.below HB.out)
 go_quiet (fail)
 have o8:=χ ((HV.out.below HB.out).below (below_drewN (qak _ _) nq))
 obtain⟨-,-,-,c7q,-,-⟩:=o8.out.rv.cells
 rw[Wz.out]at c7q
 obtain⟨y0q,y1q⟩:=Ro.out _ o8.out
 go_upto_region 7 with fail
 obtain⟨cx,hcx⟩:∃cx:List Value,cx=[.int .u8 k,.int .u8 rr,.int .i64 l,.int .i64 s_,.int .i64 p0,.int .i64 p1,.int .i64 p2,.int .i64 p3,.int .i64 p4,.int .i64 p5,.int .i64 p6,.int .i64 p7,.int .i64 p8,.int .i64 p9]:=⟨_,rfl⟩
 have dz:qao (Bk w2 w.heap.size 40 cx):=χ (by rw[hcx];exact Zk.out)
 have HL:qao (cx.length=14):=χ (by rw[hcx];rfl)
 have H1:qao (∀v∈cx,v.oneCell'=true):=χ (by rw[hcx];exact Yj ⟨k,rr,l,s_,[p0,p1,p2,p3,p4,p5,p6,p7,p8,p9]⟩)
 have HIY:qao (∀(u:qaf),RM j i g pp P w0 u bw y s->RM j i g pp P w0 (u.setCells bi (a*14) cx) bw y {s with m:={s.m with ino:=s.m.ino.set a ⟨k,rr,l,s_,[p0,p1,p2,p3,p4,p5,p6,p7,p8,p9]⟩}}):=χ (by rw[hcx];exact KH.out)
 have HTY:qao (∀(u:qaf),RM j i g pp P w0 u bw y s->u.there bi (a*14) cx.toArray.size):=χ (fun u hu=>by rw[show cx.toArray.size=14 by simp[HL.out]];exact L9.out u hu)
 have HSL:qao ((Tryz.prog.info? 40).map (·.size)=some cx.length):=χ (by rw[HL.out];exact Y9)
 have HSA:=χ (Qn cx HL.out)
 clear hcx KH L9 Zk
 have Uv:=χ (o8.out.below (qak _ _).drew)
 have Dx:qao (Bk (w2.drewN nq).drew w.heap.size 40 cx):=χ dz.out
 obtain⟨-,-,-,e3,-,-⟩:=Uv.out.rv.cells
 rw[Wz.out]at e3
 have hS0:(w2.drewN nq).drew.cell? ⟨bw,7,none⟩=some (.slice bi s.m.ino.length y.x.ic)/\Bk (w2.drewN nq).drew w.heap.size 40 cx:=⟨e3,Dx.out⟩
 refine wp_region_held_drew (S:=fun u=>u.cell? ⟨bw,7,none⟩=some (.slice bi s.m.ino.length y.x.ic)/\Bk u w.heap.size 40 cx) (by kernel_rfl) hS0 (fun hHeld=>?_)
 clear hS0 dz HB y0 y1 c7 e3 c7q y0q y1q z0 z1 z2 z3 z4 z5 z6 z7 z8 z9 YJ YI z12 XE
 generalize hu0:(w2.drewN nq).drew=IX at*
 clear hu0
 refine tk 0 ?_ (y:=.inl ⟨by rfl,?hya0⟩) (s:=by exact hHeld) (h:=?V6)
 case hya0=>exact zsq3
 try simp only[qah,qaa,qac,qad]
 refine tk 1 ?_ (y:=.inl ⟨by rfl,?hya1⟩) (s:=by exact hHeld) (h:=?V5)
 case hya1=>exact zsq3
 try simp only[qah,qaa,qac,qad]
 refine tk 2 ?_ (y:=.inl ⟨by rfl,?hya2⟩) (s:=by exact hHeld) (h:=?V4)
 case hya2=>exact zsq3
 try simp only[qah,qaa,qac,qad]
 refine tk 3 ?_ (y:=.inl ⟨by rfl,?hya3⟩) (s:=by exact hHeld) (h:=?TD)
 case hya3=>exact zsq3
 try simp only[qah,qaa,qac,qad]
 refine tk 4 ?_ (y:=.inl ⟨by rfl,?hya4⟩) (s:=by exact hHeld) (h:=?TN)
 case hya4=>exact zsq3
 try simp only[qah,qaa,qac,qad]
 refine tk 5 ?_ (y:=.inl ⟨by rfl,?hya5⟩) (s:=by exact hHeld) (h:=?Vi)
 case hya5=>exact zsq3
 try simp only[qah,qaa,qac,qad]
 refine tk 6 _ (y:=(yieldsIf_load_mid (by rfl) 40 _ rfl w.heap.size 0 rfl cx _ (fun u hu=>Yo hu.2) Tryz.underlying40 rfl HSL.out)) (s:=by exact hHeld) (h:=?_)
 try simp only[qah,qaa,qac,qad]
 refine tk 7 ?_ (y:=.inl ⟨by rfl,?hya7⟩) (s:=by exact hHeld) (h:=?RU)
 case hya7=>exact zsq3
 try simp only[qah,qaa,qac,qad]
 refine rd 8 (h:=fun K hK=>?_)
 rw[if_pos (by rfl)]
 refine wp_store_mid 40 _ _ rfl bi (a*14) cx.toArray rfl rfl (HTY.out _ Uv.out) HSA.out (all_oneCell_toArray H1.out) ?_
 simp only[qah]
 have Qo:=χ (HIY.out _ Uv.out)
 obtain⟨-,-,-,e3,-,-⟩:=Qo.out.rv.cells
 rw[Wz.out]at e3
 simp only[List.length_set]at e3
 refine hK.out _ _ ⟨e3,QA jD.out cx (a*14) Dx.out⟩ (fun Z5=>?_)
 clear hK K hHeld Z5 e3
 try simp only[qah,qaa,qac,qad]
 refine wpAnyH_done (by kernel_rfl) ?_ _
 go_wp2
 go_ret
 exact⟨rfl,Qo.out⟩
end
end Go.Proofs.YtmehhgfbnfbnaaaGreat.Zl

namespace Go.Proofs.YtmehhgfbnfbnaaaGreat.Zl
open Go.RowKit Zq Meta
section
variable {ops:Array Oper}{o:Oper}{a:Act}{w:qaf}{Q:Exit->Act->qaf->Prop}
theorem oZ:(Tryz.prog.info? 9).map (fun i=>(i.zero,i.size,i.bytes))=some (some (.string .empty),1,16):=by kernel_rfl
theorem wS:(Tryz.prog.info? 4).map (fun i=>(i.zero,i.size,i.bytes))=some (some (.bool false),1,1):=by kernel_rfl
theorem oW{K:Act->qaf->Prop}{E:Prop}(hgd:o.guard=none)(s x:Operand)(t:TypeId)(ho:o.op=.call {callee:=.builtin .append,args:=#[s,x],argTypes:=#[t,t]})(v xv:Value)(hs:a.eval s=v)(hx:a.eval x=xv)(v':Value)(w':qaf)(hrun:(Builtin.append_ #[t,t] o.type #[v,xv]).run Tryz.prog w=.ok v' w')(h:K (a.put o.dst v') w'):
  if qap o (yielded ops a.tmps)=true then Oper.wp Tryz.prog o a w K Q else E:=by
 have hw:qap o (yielded ops a.tmps)=true:=by simp[qap,hgd]
 rw[if_pos hw]
 unfold Oper.wp execOp
 simp only[ho,resolve,invoke,builtin,Sem.run_bind,Sem.run_pure,Result.andThen_ok,List.map_toArray,List.map_cons,List.map_nil,hs,hx,hrun]
 exact h
theorem MG{rest:List Oper}(hgd:o.guard=none)(s x:Operand)(t:TypeId)(ho:o.op=.call {callee:=.builtin .append,args:=#[s,x],argTypes:=#[t,t]})(v xv:Value)(hs:a.eval s=v)(hx:a.eval x=xv)(v':Value)(w':qaf)(hrun:(Builtin.append_ #[t,t] o.type #[v,xv]).run Tryz.prog w=.ok v' w')(h:wpList Tryz.prog ops Q rest (a.put o.dst v') w'):
  wpList Tryz.prog ops Q (o::rest) a w:=by
 refine wpList_plain hgd fun K hK=>?_
 unfold Oper.wp execOp
 simp only[ho,resolve,invoke,builtin,Sem.run_bind,Sem.run_pure,Result.andThen_ok,List.map_toArray,List.map_cons,List.map_nil,hs,hx,hrun]
 exact hK _ _ h
def Co(j i g pp:Nat)(x:Meta.Mem)(m:Meta.Met)(bA:Option Addr)(k bc:Nat)(dA:Option Addr)(kd dc:Nat):List Value:=
 [j,i,g,pp,.slice x.rA m.rows.length x.rc,.slice x.oA m.own.length x.oc,.slice x.uA m.used.length x.uc,.slice x.iA m.ino.length x.ic,.slice bA k bc,.slice dA kd dc]
structure NB(j i g pp:Nat)(w u:qaf)(bw:Nat)(x:Meta.Mem)(m:Meta.Met)(bA:Option Addr)(k bc:Nat)(dA:Option Addr)(kd dc:Nat):Prop where
 YV:Bk u w.heap.size 29 [j,i,g,pp]
 box:Bk u bw 122 (Co j i g pp x m bA k bc dA kd dc)
 met:Y1 u w.heap.size x m
 bs:u.ownsRow w.heap.size 9 1 (.slice bA k bc) k (Qu (qab k ZF))
 ds:u.ownsRow w.heap.size 4 1 (.slice dA kd dc) kd (Ud (qab kd none))
 below:qan w.heap.size w u
 lo:w.heap.size<bw
end
section
variable {j i g pp:Nat}{w u u':qaf}{bw:Nat}{x:Meta.Mem}{m:Meta.Met}{bA:Option Addr}{k bc:Nat}{dA:Option Addr}{kd dc:Nat}
section
variable {v:Value}
theorem NB.next (h:NB j i g pp w u bw x m bA k bc dA kd dc)(hb:qan u.heap.size u u'):NB j i g pp w u' bw x m bA k bc dA kd dc:=
 ⟨h.YV.below hb h.YV.lt,h.box.below hb h.box.lt,h.met.below hb,own_below h.bs hb,own_below h.ds hb,h.below.trans (hb.mono h.below.size),h.lo⟩
theorem NB.str (h:NB j i g pp w u bw x m bA k bc dA kd dc)(hv:u'.ownsRow w.heap.size 9 1 v (k+1) (Qu (qab k ZF++[ZF])))(hg:u.grownBy u' (qam bA k bc).ownBlock):
  ∃A2 c2,v=.slice A2 (k+1) c2/\NB j i g pp w (u'.setCell ⟨bw,8,none⟩ v) bw x m A2 (k+1) c2 dA kd dc/\NB j i g pp w u' bw x m A2 (k+1) c2 dA kd dc=NB j i g pp w u' bw x m A2 (k+1) c2 dA kd dc/\u'.cell? ⟨bw,8,none⟩=some (.slice bA k bc)/\u'.frozen? ⟨bw,8,none⟩=false:=by
 obtain⟨A2,c2,rfl,hA2⟩:=YT hv
 have hbx:Bk u' bw 122 (Co j i g pp x m bA k bc dA kd dc):=h.box.grown hg (R6 h.box h.bs (by decide))
 have hge:Bk u' w.heap.size 29 [j,i,g,pp]:=h.YV.grown hg (R6 h.YV h.bs (by decide))
 have hm:Y1 u' w.heap.size x m:=⟨h.met.rows.kept hg (own_ne h.met.rows h.bs (by decide)),h.met.own.kept hg (own_ne h.met.own h.bs (by decide)),h.met.used.kept hg (own_ne h.met.used h.bs (by decide)),h.met.ino.kept hg (own_ne h.met.ino h.bs (by decide))⟩
 have hd:=h.ds.kept hg (own_ne h.ds h.bs (by decide))
 have hbl:qan w.heap.size w u':=h.below.trans ((Kept.Y4 (S:=fun i=>(qam bA k bc).ownBlock=some i) hg (fun _ h=>h)).below (fun i hi=>(h.bs.lt i hi).1) h.below.size)
 have hs:=Xp u' bw 8 (.slice A2 (k+1) c2)
 rw[<-List.replicate_succ']at hv
 exact⟨A2,c2,rfl,⟨(hs _ hge.lt (by have:=h.lo;omega)).trans hge,hbx.set 8 _,Y1.other hbx hs hm,YR hbx hs hv (by decide),YR hbx hs hd (by decide),hbl.trans ((YY u' bw 8 _).below (fun i hi=>by have hi:i=bw:=hi;have:=h.lo;omega) hbl.size),h.lo⟩,rfl,hbx.cell 8,hbx.frozen 8⟩
theorem NB.flag (h:NB j i g pp w u bw x m bA k bc dA kd dc)(hv:u'.ownsRow w.heap.size 4 1 v (kd+1) (Ud (qab kd none++[none])))(hg:u.grownBy u' (qam dA kd dc).ownBlock):
  ∃A2 c2,v=.slice A2 (kd+1) c2/\NB j i g pp w (u'.setCell ⟨bw,9,none⟩ v) bw x m bA k bc A2 (kd+1) c2/\u'.cell? ⟨bw,9,none⟩=some (.slice dA kd dc)/\u'.frozen? ⟨bw,9,none⟩=false:=by
 obtain⟨A2,c2,rfl,hA2⟩:=YT hv
 have hbx:Bk u' bw 122 (Co j i g pp x m bA k bc dA kd dc):=h.box.grown hg (R6 h.box h.ds (by decide))
 have hge:Bk u' w.heap.size 29 [j,i,g,pp]:=h.YV.grown hg (R6 h.YV h.ds (by decide))
 have hm:Y1 u' w.heap.size x m:=⟨h.met.rows.kept hg (own_ne h.met.rows h.ds (by decide)),h.met.own.kept hg (own_ne h.met.own h.ds (by decide)),h.met.used.kept hg (own_ne h.met.used h.ds (by decide)),h.met.ino.kept hg (own_ne h.met.ino h.ds (by decide))⟩
 have hd:=h.bs.kept hg (own_ne h.bs h.ds (by decide))
 have hbl:qan w.heap.size w u':=h.below.trans ((Kept.Y4 (S:=fun i=>(qam dA kd dc).ownBlock=some i) hg (fun _ h=>h)).below (fun i hi=>(h.ds.lt i hi).1) h.below.size)
 have hs:=Xp u' bw 9 (.slice A2 (kd+1) c2)
 rw[<-List.replicate_succ']at hv
 exact⟨A2,c2,rfl,⟨(hs _ hge.lt (by have:=h.lo;omega)).trans hge,hbx.set 9 _,Y1.other hbx hs hm,YR hbx hs hd (by decide),YR hbx hs hv (by decide),hbl.trans ((YY u' bw 9 _).below (fun i hi=>by have hi:i=bw:=hi;have:=h.lo;omega) hbl.size),h.lo⟩,hbx.cell 9,hbx.frozen 9⟩
end
end
theorem Aj{j i g pp:Nat}(Za:VG j i g pp)(w:qaf):
  qag Tryz.prog 18 #[.agg #[j,i,g,pp]] w fun e w'=>∃bw y,e=.returned (.pointer (some ⟨bw,0,none⟩))/\Rv j i g pp (w.heap.size<=·) w' bw y ⟨XC ⟨j,i,g,pp⟩,qab (g*pp) ZF,qab (g*pp) none⟩/\qan w.heap.size w w':=by
 have V8:=Za.v.gp
 rw[<-Int.natCast_mul]at V8
 have hb:=Bk.new w 29 [j,i,g,pp]
 have hal:=Z0 w (.cells #[j,i,g,pp] 29)
 have HG:=χ hb
 have HB:=χ hal
 have HNW:qao (∀u:qaf,qag Tryz.prog 67 #[.agg #[j,i,g,pp]] u fun e w'=>∃x:Meta.Mem,e=.returned (.tuple #[.agg #[.slice x.rA (XC ⟨j,i,g,pp⟩).rows.length x.rc,.slice x.oA (XC ⟨j,i,g,pp⟩).own.length x.oc,.slice x.uA (XC ⟨j,i,g,pp⟩).used.length x.uc,.slice x.iA (XC ⟨j,i,g,pp⟩).ino.length x.ic],()])/\Y1 w' u.heap.size x (XC ⟨j,i,g,pp⟩)/\qan u.heap.size u w'):=χ (fun u=>by
  have:=qC ⟨j,i,g,pp⟩ u
  rw[FL (G:=⟨j,i,g,pp⟩) Za.v]at this
  exact this)
 obtain⟨M,hM⟩:∃M,XC ⟨(j:Int),i,g,pp⟩=M:=⟨_,rfl⟩
 rw[hM]at HNW⊢
 have wE:qao (g*pp<=512):=χ (by omega)
 obtain⟨N,hN⟩:∃N,g*pp=N:=⟨_,rfl⟩
 have hwm:IntKind.i64.wrap ((g:Int)*(pp:Int))=(N:Int):=by rw[<-Int.natCast_mul,hN,IntKind.wrap_i64];omega
 rw[hN]at wE⊢
 obtain⟨g0,g1,g2,g3⟩:=Z7 hb
 clear Za V8 hb hal hM hN
 go_enter Tryz.func18,Tryz.ntmps18
 go_upto_region 1 with fail
 have HZ:qao (w.heap.size<(w.alloc (.cells #[j,i,g,pp] 29)).heap.size):=χ (by simp)
 generalize w.alloc (.cells #[j,i,g,pp] 29)=U at*
 go_upto_region 2 with(go_at_call 67;go_must (with_reducible refine(HNW.out _).mono ?_);rintro e w1 ⟨x,he,hm,hb⟩;obtain rfl:=he;have lV:=χ (hm.base (Nat.le_of_lt HZ.out));have HB1:=χ (HB.out.trans (hb.mono HB.out.size));have aK:=χ (HG.out.below hb HG.out.lt);have HZ1:=χ (Nat.lt_of_lt_of_le HZ.out hb.size);clear hb hm g0 g1 g2 g3;obtain⟨g0,g1,g2,g3⟩:=Z7 aK.out)
 have hal:=Z0 w1 (.cells #[.slice x.rA M.rows.length x.rc,.slice x.oA M.own.length x.oc,.slice x.uA M.used.length x.uc,.slice x.iA M.ino.length x.ic] 60)
 have HB2:=χ (HB1.out.trans (hal.mono HB1.out.size))
 have HG2:=χ (aK.out.below hal aK.out.lt)
 have O5:=χ (lV.out.below hal)
 have Rj:qao (Bk (w1.alloc (.cells #[.slice x.rA M.rows.length x.rc,.slice x.oA M.own.length x.oc,.slice x.uA M.used.length x.uc,.slice x.iA M.ino.length x.ic] 60)) w1.heap.size 60 [.slice x.rA M.rows.length x.rc,.slice x.oA M.own.length x.oc,.slice x.uA M.used.length x.uc,.slice x.iA M.ino.length x.ic]):=χ (Bk.new _ _ _)
 have HZ2:=χ (Nat.lt_of_lt_of_le HZ1.out hal.size)
 clear hal g0 g1 g2 g3
 generalize w1.alloc (.cells #[.slice x.rA M.rows.length x.rc,.slice x.oA M.own.length x.oc,.slice x.uA M.used.length x.uc,.slice x.iA M.ino.length x.ic] 60)=w2 at*
 obtain⟨g0,g1,g2,g3⟩:=Z7 HG2.out
 obtain⟨m0,m1,m2,m3⟩:=Z7 Rj.out
 go_upto_region 3 with fail
 have hal:=Z0 w2 (.cells #[j,i,g,pp,.slice x.rA M.rows.length x.rc,.slice x.oA M.own.length x.oc,.slice x.uA M.used.length x.uc,.slice x.iA M.ino.length x.ic,.slice none 0 0,.slice none 0 0] 122)
 have HN:qao (NB j i g pp w (w2.alloc (.cells #[j,i,g,pp,.slice x.rA M.rows.length x.rc,.slice x.oA M.own.length x.oc,.slice x.uA M.used.length x.uc,.slice x.iA M.ino.length x.ic,.slice none 0 0,.slice none 0 0] 122)) w2.heap.size x M none 0 0 none 0 0):=χ ⟨HG2.out.below hal HG2.out.lt,Bk.new w2 122 [j,i,g,pp,.slice x.rA M.rows.length x.rc,.slice x.oA M.own.length x.oc,.slice x.uA M.used.length x.uc,.slice x.iA M.ino.length x.ic,.slice none 0 0,.slice none 0 0],O5.out.below hal,⟨rfl,.inl ⟨rfl,rfl⟩⟩,⟨rfl,.inl ⟨rfl,rfl⟩⟩,HB2.out.trans (hal.mono HB2.out.size),HZ2.out⟩
 clear hal g0 g1 g2 g3 m0 m1 m2 m3
 generalize w2.alloc (.cells #[j,i,g,pp,.slice x.rA M.rows.length x.rc,.slice x.oA M.own.length x.oc,.slice x.uA M.used.length x.uc,.slice x.iA M.ino.length x.ic,.slice none 0 0,.slice none 0 0] 122)=w3 at*
 obtain⟨bw,hbw⟩:∃bw,w2.heap.size=bw:=⟨_,rfl⟩
 rw[hbw]at HN⊢
 clear hbw
 clear aK lV HB1 HZ1 HG2 O5 Rj HB2 HZ2 HG HB HZ HNW
 go_upto_region 4 with fail
 go_loopw [6] (fun kc wr=>∃k:Nat,kc=.int .i64 k/\k<=N/\qao (∃bA bc dA dc,NB j i g pp w wr bw x M bA k bc dA k dc)) (fun kc _=>N-(intOf kc).toNat)
 case atStart=>exact⟨0,rfl,qal _,χ ⟨_,_,_,_,HN.out⟩⟩
 case round=>
  clear HN
  obtain⟨k,rfl,hk,HN⟩:=hrel
  obtain⟨bA,bc,dA,dc,hN0⟩:=HN.out
  clear HN
  have HN:=χ hN0
  clear hN0
  obtain⟨g0,g1,g2,g3⟩:=Z7 HN.out.YV
  by_cases hlt:k<N
  ·have V7:(k:Int)<(N:Int):=by omega
   have hwk:IntKind.i64.wrap ((k:Int)+1)=((k+1:Nat):Int):=by rw[IntKind.wrap_i64];have:=wE.out;omega
   go_upto_region 6 with fail
   clear g0 g1 g2 g3
   obtain⟨Z,hZ⟩:∃Z:Array Value,Z=(Z6 ZF).toArray:=⟨_,rfl⟩
   have hmk:(Instr.makeSlice 37 (.int .i64 64) (.int .i64 64)).run Tryz.prog wr.drew=.ok (.slice wr.drew.heap.size 64 64) (wr.drew.alloc (.cells Z 5)):=by
    rw[hZ]
    exact YD 64 (by decide) wr.drew
   have hcv:(convert 37 9 (.slice wr.heap.size 64 64)).run Tryz.prog (wr.alloc (.cells Z 5)).drew=.ok (TJ ZF) (wr.alloc (.cells Z 5)).drew:=by
    have hb:Bk (wr.drew.alloc (.cells Z 5)) wr.drew.heap.size 5 (Z6 ZF):=by rw[hZ];exact Bk.new _ _ _
    have:=hb.rd 64 0
    rw[List.drop_zero,List.take_of_length_le (by rw[Z4];exact Nat.le_refl 64)]at this
    exact Z9.VB (l:=ZF) rfl this
   clear hZ
   have ha1:=Z0 wr (.cells Z 5)
   have Xr:=χ (HN.out.next ha1)
   obtain⟨sv,hsv⟩:∃sv,TJ ZF=.string sv:=⟨_,rfl⟩
   rw[hsv]at hcv
   have ha2:=Z0 (wr.alloc (.cells Z 5)) (.cells #[.string sv] 9)
   have WX:=χ (Xr.out.next ha2)
   have e8:wr.cell? ⟨bw,8,none⟩=some (.slice bA k bc):=HN.out.box.cell 8
   have e8a:(wr.alloc (.cells Z 5)).cell? ⟨bw,8,none⟩=some (.slice bA k bc):=Xr.out.box.cell 8
   have e8b:((wr.alloc (.cells Z 5)).alloc (.cells #[.string sv] 9)).cell? ⟨bw,8,none⟩=some (.slice bA k bc):=WX.out.box.cell 8
   obtain⟨i0,hi,hz0,hz1,hz2⟩:=info_parts oZ
   have hrd:Rd ((wr.alloc (.cells Z 5)).alloc (.cells #[.string sv] 9)).drew (wr.heap.size+2) (some ⟨wr.heap.size+1,0,none⟩) [.string sv]:=by
    have hb:Bk ((wr.alloc (.cells Z 5)).alloc (.cells #[.string sv] 9)) (wr.alloc (.cells Z 5)).heap.size 9 [.string sv]:=Bk.new _ _ _
    have h1:(wr.alloc (.cells Z 5)).heap.size=wr.heap.size+1:=by simp
    rw[h1]at hb
    have:=hb.rd 1 0
    exact this.more (by simp)
   have happ:=U6 (P:=Tryz.prog) ((wr.alloc (.cells Z 5)).alloc (.cells #[.string sv] 9)).drew w.heap.size 119 119 9 i0 _ 16 Tryz.underlying119 hi hz0 hz1 hz2 rfl (.slice bA k bc) k _ WX.out.bs _ _ 1 1 [.string sv] rfl hrd (by intro u hu;simp only[List.mem_singleton]at hu;subst hu;rfl) (by have:=wE.out;simp only[maxLen];omega) (by have:=wE.out;omega) WX.out.below.size
   obtain⟨v1,w1,hrun,hv1,hg1⟩:=happ
   rw[<-hsv,show Qu (qab k ZF)++[TJ ZF]=Qu (qab k ZF++[ZF])by simp[Qu]]at hv1
   obtain⟨A2,c2,rfl,hN3,-,e8c,f8c⟩:=(WX.out.next (qak _ _).drew).str hv1 hg1
   have Xj:=χ hN3
   clear hN3 hv1 hg1 hrd hi hz0 hz1 hz2 ha1 ha2 hsv
   have Sm:=χ hrun
   clear hrun
   go_region_law (refine oW rfl (.tmp 29) (.tmp 32) 119 rfl (.slice bA k bc) (.slice (some ⟨wr.heap.size+1,0,none⟩) 1 1) rfl rfl (.slice A2 (k+1) c2) w1 Sm.out ?_)
   all_goals
    clear Sm e8 e8a e8b e8c f8c hcv hmk
    generalize w1.setCell ⟨bw,8,none⟩ (.slice A2 (k+1) c2)=w5 at*
    have e9:w5.cell? ⟨bw,9,none⟩=some (.slice dA k dc):=Xj.out.box.cell 9
    have bq:=Z0 w5 (.cells #[false] 4)
    have oD:=χ (Xj.out.next bq)
    have e9a:(w5.alloc (.cells #[false] 4)).cell? ⟨bw,9,none⟩=some (.slice dA k dc):=oD.out.box.cell 9
    obtain⟨i0,hi,hz0,hz1,hz2⟩:=info_parts wS
    have hrd:Rd (w5.alloc (.cells #[false] 4)) (w5.heap.size+1) (some ⟨w5.heap.size,0,none⟩) [false]:=by
     have hb:Bk (w5.alloc (.cells #[false] 4)) w5.heap.size 4 [false]:=Bk.new _ _ _
     have:=hb.rd 1 0
     exact this.more (by simp)
    have happ:=U6 (P:=Tryz.prog) (w5.alloc (.cells #[false] 4)) w.heap.size 120 120 4 i0 _ 1 Tryz.underlying120 hi hz0 hz1 hz2 rfl (.slice dA k dc) k _ oD.out.ds _ _ 1 1 [false] rfl hrd (by intro u hu;simp only[List.mem_singleton]at hu;subst hu;rfl) (by have:=wE.out;simp only[maxLen];omega) (by have:=wE.out;omega) oD.out.below.size
    obtain⟨v5,w6,hrun,hv5,hg5⟩:=happ
    rw[show Ud (qab k none)++[.bool false]=Ud (qab k none++[none])by simp[Ud]]at hv5
    obtain⟨A5,c5,rfl,hN5,e9c,f9c⟩:=oD.out.flag hv5 hg5
    have EX:=χ hN5
    have Sm:=χ hrun
    clear hN5 hv5 hg5 hrd hi hz0 hz1 hz2 bq hrun
    go_wp2_with (refine MG rfl (.tmp 40) (.tmp 41) 120 rfl (.slice dA k dc) (.slice w5.heap.size 1 1) rfl rfl (.slice A5 (k+1) c5) w6 Sm.out ?_)
    generalize w6.setCell ⟨bw,9,none⟩ (.slice A5 (k+1) c5)=w7 at*
    go_roundw
    case rel=>exact⟨k+1,by first|rfl|(congr 1),hlt,χ ⟨_,_,_,_,EX.out⟩⟩
    case measure=>simp[intOf];omega
  ·obtain rfl:N=k:=by omega
   go_wp2
   go_ret
   have h:=HN.out
   have hb0:(qab N ZF).length=N:=qaq
   have hd0:(qab N (none:Option Nat)).length=N:=qaq
   obtain⟨A0,C0,e0,Wo⟩:=YT h.met.rows
   obtain⟨A1,C1,e1,hA1⟩:=YT h.met.own
   obtain⟨A2,C2,e2,hA2⟩:=YT h.met.used
   obtain⟨A3,C3,e3,hA3⟩:=YT h.met.ino
   obtain⟨A4,C4,e4,PW⟩:=YT h.bs
   obtain⟨A5,C5,e5,iX⟩:=YT h.ds
   rw[<-(qae e0).1]at Wo
   rw[<-(qae e1).1]at hA1
   rw[<-(qae e2).1]at hA2
   rw[<-(qae e3).1]at hA3
   rw[<-(qae e4).1]at PW
   rw[<-(qae e5).1]at iX
   refine⟨bw,⟨x,bA,bc,dA,dc⟩,rfl,⟨?_,h.met.base (qal _),?_,?_,Nat.le_of_lt h.lo,Wo,hA1,hA2,hA3,PW,iX⟩,h.below⟩
   ·unfold xc
    simp only[hb0,hd0]
    exact h.box
   ·simp only[hb0]
    exact ZL h.bs (qal _)
   ·simp only[hd0]
    exact ZL h.ds (qal _)
end Go.Proofs.YtmehhgfbnfbnaaaGreat.Zl
