import Derived.Test.YtmehhgfbnfbnaaaGreatQVolE
import Derived.Test.YtmehhgfbnfbnaaaGreatQTk
set_option maxRecDepth 100000
set_option maxHeartbeats 25600000
open Go renaming Calls->qaa,bodyPost_ret->qab,World->qac
open List renaming getElem?_eq_getElem->qad
namespace Go.Proofs.YtmehhgfbnfbnaaaGreat
theorem zN0{P:Prop}(h:P:=by
 go_wp2_with (first|(go_at_call 97;go_must (with_reducible refine(xD.out _ HV.out).mono ?_);rintro e w1 ⟨he,hb⟩;obtain rfl:=he;replace HV:=χ (HV.out.below hb);clear hb;obtain⟨c0,c1,c2,c3,c4⟩:=HV.out.vs.cells)|(go_at_call 107;go_must (with_reducible refine(Wz.out _ HV.out).mono ?_);rintro e w2 ⟨he,hb⟩;obtain rfl:=he;replace HV:=χ (HV.out.below hb);clear hb c0 c1 c2 c3 c4))
 go_ret
 exact⟨rfl,HV.out⟩):P:=h
theorem zN1{P:Prop}(h:P:=by
 go_wp2_with (go_at_call 97;(with_reducible refine xD.out.mono ?_);rintro e w1 ⟨he,hv⟩;obtain rfl:=he;have XT:=χ hv;clear hv)
 go_ret
 exact⟨rfl,XT.out⟩):P:=h
theorem zN2{P:Prop}(h:P:=by
 (intro u hu;obtain⟨⟨at3,az,n3,hu⟩,hr⟩:=hu;have hat:=run_arrayAt u ⟨gb,ob,none⟩ bc;clear hu;go_simp<;>with_reducible rfl)):P:=h
end Go.Proofs.YtmehhgfbnfbnaaaGreat
namespace Go.Proofs.YtmehhgfbnfbnaaaGreat.Zl
open Go.RowKit Zq Meta
section
variable {j i g pp bv bm b bj c n:Nat}{P:Nat->Prop}{w0 w:qac}{x:Meta.Mem}{m:Meta.Met}{be:Value}{A:Option Addr}{dead:Bool}{at_:Int->Sx}{there:Int->Bool}
theorem CV(Za:VG j i g pp)(h:VM P w0 w bv bm x m (ZZ j i g pp b bj be A c dead) at_ there n)(a:Nat)(hg:m.own.length=g)(hq:TL m.own=none):
  qaa Tryz.prog 103 #[.pointer bv,.int .u16 a] w fun e w'=>e=.returned (.tuple #[(),.int .i64 5])/\VM P w0 w' bv bm x m (ZZ j i g pp b bj be A c dead) at_ there n:=by
 have S9:g<=64:=by have:=Za.v.g2;omega
 have hg1:=Za.v.g1
 obtain⟨gb,cb,hvv,-⟩:=Zp h.vs.met.own (by omega)
 have hxo:x.oA=some ⟨gb,0,none⟩:=by injection hvv
 clear hvv
 have hlo:=h.vs.met.lies.own
 rw[hxo]at hlo
 have Qz:Hid (qaa Tryz.prog 174 #[.slice gb g x.oc,()] w fun e w'=>e=.returned (.int .i64 (-1))/\w=w'):=χ (by
  have:=MO m.own gb 0 x.oc g w hg hlo (by omega)
  rw[hq]at this
  exact this)
 have HV:=χ h
 obtain⟨c0,c1,c2,c3,c4⟩:=h.vs.cells
 rw[hxo,hg]at c1
 clear h Za hq hlo S9 hg1 hxo hg c0 c2 c3 c4
 go_enter Tryz.func103,Tryz.ntmps103
 go_wp2_with (go_at_call 174;go_must (with_reducible refine Qz.out.mono ?_);rintro e w1 ⟨he,hb⟩;obtain rfl:=he;subst hb)
 refine qab (v:=.tuple #[(),.int .i64 5]) (by simp[results,Tryz.results103,go_sem]) rfl ?_
 exact⟨rfl,HV.out⟩
theorem xA(Za:VG j i g pp)(h:VM P w0 w bv bm x m (ZZ j i g pp b bj be A c dead) at_ there n)(a:Nat)(q:Nat)(hg:m.own.length=g)(hq:TL m.own=some q)(h0:(Z8.ZH m.rows a).err≠0):
  qaa Tryz.prog 103 #[.pointer bv,.int .u16 a] w fun e w'=>e=.returned (.tuple #[(),.int .i64 ((Z8.ZH m.rows a).err:Int)])/\VM P w0 w' bv bm x m (ZZ j i g pp b bj be A c dead) at_ there n:=by
 have S9:g<=64:=by have:=Za.v.g2;omega
 have hg1:=Za.v.g1
 obtain⟨gb,cb,hvv,-⟩:=Zp h.vs.met.own (by omega)
 have hxo:x.oA=some ⟨gb,0,none⟩:=by injection hvv
 clear hvv
 have hlo:=h.vs.met.lies.own
 rw[hxo]at hlo
 have Qz:Hid (qaa Tryz.prog 174 #[.slice gb g x.oc,()] w fun e w'=>e=.returned (.int .i64 ((q:Int)))/\w=w'):=χ (by
  have:=MO m.own gb 0 x.oc g w hg hlo (by omega)
  rw[hq]at this
  exact this)
 have Sw:Hid (∀u:qac,VM P w0 u bv bm x m (ZZ j i g pp b bj be A c dead) at_ there n->qaa Tryz.prog 106 #[.pointer bv,.int .u16 a] u fun e w'=>e=.returned (.tuple #[(),.int .i64 ((Z8.ZH m.rows a).err:Int)])/\VM P w0 w' bv bm x m (ZZ j i g pp b bj be A c dead) at_ there n):=χ (fun u hv=>by
  refine(Qh hv.vs a h0).mono ?_
  rintro e w' ⟨he,hb⟩
  exact⟨he,hv.below hb⟩)
 have hne:((Z8.ZH m.rows a).err:Int)≠0:=by omega
 have hq0:¬ (q:Int)<0:=by omega
 have HV:=χ h
 obtain⟨c0,c1,c2,c3,c4⟩:=h.vs.cells
 rw[hxo,hg]at c1
 clear h Za hq hlo S9 hg1 hxo hg c0 c2 c3 c4 h0
 generalize hr:Z8.ZH m.rows a=r at*
 clear hr
 go_enter Tryz.func103,Tryz.ntmps103
 go_wp2_with (first|(go_at_call 174;go_must (with_reducible refine Qz.out.mono ?_);rintro e w1 ⟨he,hb⟩;obtain rfl:=he;subst hb)|(go_at_call 106;go_must (with_reducible refine(Sw.out _ HV.out).mono ?_);rintro e w2 ⟨he,hv⟩;obtain rfl:=he;have XT:=χ hv;clear hv))
 refine qab (v:=.tuple #[(),r.err]) (by simp[results,Tryz.results103,go_sem]) rfl ?_
 exact⟨rfl,XT.out⟩
theorem CU(Za:VG j i g pp)(h:VM P w0 w bv bm x m (ZZ j i g pp b bj be A c dead) at_ there n)(a:Nat)(hl:m.rows.length=16)(hg:m.own.length=g)(hu:m.used.length=64)(hown:∀(q:Nat)(o:Int),m.own[q]? =some o->o=0\/∃(r:Nat)(y:Z8.Rw),o=(r:Int)+1/\m.rows[r]? =some y)(hun:OZ pp m a=none)(hq:TL m.own=none):
  qaa Tryz.prog 39 #[.pointer bv,.int .u16 a] w fun e w'=>e=.returned (.tuple #[(),.int .i64 5])/\VM P w0 w' bv bm x m (ZZ j i g pp b bj be A c dead) at_ there n:=by
 have OX:Hid (qaa Tryz.prog 102 #[.pointer bv,.int .u16 a] w fun e w'=>e=.returned (.tuple #[(),false])/\Below w.heap.size w w'):=χ (by
  have:=Sr Za h.vs a hl hg hu hown
  rwa[hun]at this)
 have KC:Hid (∀u:qac,VM P w0 u bv bm x m (ZZ j i g pp b bj be A c dead) at_ there n->qaa Tryz.prog 103 #[.pointer bv,.int .u16 a] u fun e w'=>e=.returned (.tuple #[(),.int .i64 5])/\VM P w0 w' bv bm x m (ZZ j i g pp b bj be A c dead) at_ there n):=χ (fun u hv=>CV Za hv a hg hq)
 have HV:=χ h
 clear h Za hl hg hu hown hun hq
 go_enter Tryz.func39,Tryz.ntmps39
 go_wp2_with (first|(go_at_call 102;go_must (with_reducible refine OX.out.mono ?_);rintro e w1 ⟨he,hb⟩;obtain rfl:=he;replace HV:=χ (HV.out.below hb);clear hb)|(go_at_call 103;go_must (with_reducible refine(KC.out _ HV.out).mono ?_);rintro e w2 ⟨he,hv⟩;obtain rfl:=he;have XT:=χ hv;clear hv))
 refine qab (v:=.tuple #[(),.int .i64 5]) (by simp[results,Tryz.results39,go_sem]) rfl ?_
 exact⟨rfl,XT.out⟩
theorem xz(Za:VG j i g pp)(h:VM P w0 w bv bm x m (ZZ j i g pp b bj be A c dead) at_ there n)(a:Nat)(q:Nat)(hl:m.rows.length=16)(hg:m.own.length=g)(hu:m.used.length=64)(hown:∀(q:Nat)(o:Int),m.own[q]? =some o->o=0\/∃(r:Nat)(y:Z8.Rw),o=(r:Int)+1/\m.rows[r]? =some y)(hun:OZ pp m a=none)(hq:TL m.own=some q)(h0:(Z8.ZH m.rows a).err≠0):
  qaa Tryz.prog 39 #[.pointer bv,.int .u16 a] w fun e w'=>e=.returned (.tuple #[(),.int .i64 ((Z8.ZH m.rows a).err:Int)])/\VM P w0 w' bv bm x m (ZZ j i g pp b bj be A c dead) at_ there n:=by
 have OX:Hid (qaa Tryz.prog 102 #[.pointer bv,.int .u16 a] w fun e w'=>e=.returned (.tuple #[(),false])/\Below w.heap.size w w'):=χ (by
  have:=Sr Za h.vs a hl hg hu hown
  rwa[hun]at this)
 have KC:Hid (∀u:qac,VM P w0 u bv bm x m (ZZ j i g pp b bj be A c dead) at_ there n->qaa Tryz.prog 103 #[.pointer bv,.int .u16 a] u fun e w'=>e=.returned (.tuple #[(),.int .i64 ((Z8.ZH m.rows a).err:Int)])/\VM P w0 w' bv bm x m (ZZ j i g pp b bj be A c dead) at_ there n):=χ (fun u hv=>xA Za hv a q hg hq h0)
 have HV:=χ h
 have hne:((Z8.ZH m.rows a).err:Int)≠0:=by omega
 clear h Za hl hg hu hown hun hq h0
 generalize hr:Z8.ZH m.rows a=r at*
 clear hr
 go_enter Tryz.func39,Tryz.ntmps39
 go_wp2_with (first|(go_at_call 102;go_must (with_reducible refine OX.out.mono ?_);rintro e w1 ⟨he,hb⟩;obtain rfl:=he;replace HV:=χ (HV.out.below hb);clear hb)|(go_at_call 103;go_must (with_reducible refine(KC.out _ HV.out).mono ?_);rintro e w2 ⟨he,hv⟩;obtain rfl:=he;have XT:=χ hv;clear hv))
 refine qab (v:=.tuple #[(),r.err]) (by simp[results,Tryz.results39,go_sem]) rfl ?_
 exact⟨rfl,XT.out⟩
end
end Go.Proofs.YtmehhgfbnfbnaaaGreat.Zl

namespace Go.Proofs.YtmehhgfbnfbnaaaGreat.Zl
open Go.RowKit Zq Meta
section
variable {j i g pp bv bm b bj c n:Nat}{P:Nat->Prop}{w0 w:qac}{x:Meta.Mem}{m:Meta.Met}{be:Value}{A:Option Addr}{dead:Bool}{at_:Int->Sx}{there:Int->Bool}
theorem O0(Za:VG j i g pp)(h:VM P w0 w bv bm x m (ZZ j i g pp b bj be A c dead) at_ there n)(a:Int)(ha:¬ (0<=a/\a<(g:Int)*(pp:Int))):
  qaa Tryz.prog 97 #[.pointer bv,a] w fun e w'=>e=.returned (.tuple #[(),.int .i64 1])/\VM P w0 w' bv bm x m (ZZ j i g pp b bj be A c dead) at_ there n:=by
 have HG:Hid (qaa Tryz.prog 95 #[.agg #[j,i,g,pp],a] w fun e w'=>e=.returned (.tuple #[(),false])/\Below w.heap.size w w'):=χ (ZG.rU a Za.v ha w)
 obtain⟨g0,g1,g2,g3⟩:=h.vs.YV
 have HV:=χ h
 clear h Za ha
 go_enter Tryz.func97,Tryz.ntmps97
 go_wp2_with (go_at_call 95;(with_reducible refine HG.out.mono ?_);rintro e w1 ⟨he,hb⟩;obtain rfl:=he;have XT:=χ (HV.out.below hb);clear hb g0 g1 g2 g3)
 refine qab (v:=.tuple #[(),.int .i64 1]) (by simp[results,Tryz.results97,go_sem]) rfl ?_
 exact⟨rfl,XT.out⟩
theorem qg(Za:VG j i g pp)(h:VM P w0 w bv bm x m (ZZ j i g pp b bj be A c dead) at_ there n)(a:Int)(ha:¬ (0<=a/\a<(g:Int)*(pp:Int))):
  qaa Tryz.prog 42 #[.pointer bv,a] w fun e w'=>e=.returned (.int .i64 1)/\VM P w0 w' bv bm x m (ZZ j i g pp b bj be A c dead) at_ there n:=by
 have xD:=χ (O0 Za h a ha)
 clear h Za ha
 go_enter Tryz.func42,Tryz.ntmps42
 exact zN1
theorem KY(Za:VG j i g pp)(h:VM P w0 w bv bm x m (ZZ j i g pp b bj be A c dead) at_ there n)(a:Int)(B:Option Addr)(bn bc:Nat)(ha:¬ (0<=a/\a<(g:Int)*(pp:Int))):
  qaa Tryz.prog 43 #[.pointer bv,a,.slice B bn bc] w fun e w'=>e=.returned (.int .i64 1)/\VM P w0 w' bv bm x m (ZZ j i g pp b bj be A c dead) at_ there n:=by
 have xD:=χ (O0 Za h a ha)
 clear h Za ha
 go_enter Tryz.func43,Tryz.ntmps43
 exact zN1
theorem xC(Za:VG j i g pp)(h:VM P w0 w bv bm x m (ZZ j i g pp b bj be A c dead) at_ there n)(a:Nat)(ha:a<g*pp)(hbit:Bits.hb m.used a=false)(hu:m.used.length=64):
  qaa Tryz.prog 42 #[.pointer bv,a] w fun e w'=>e=.returned (.int .i64 2)/\VM P w0 w' bv bm x m (ZZ j i g pp b bj be A c dead) at_ there n:=by
 have V8:=Za.v.gp
 have xD:Hid (∀u:qac,VM P w0 u bv bm x m (ZZ j i g pp b bj be A c dead) at_ there n->qaa Tryz.prog 97 #[.pointer bv,a] u fun e w'=>e=.returned (.tuple #[.int .i64 ((a/pp:Nat):Int),()])/\Below u.heap.size u w'):=χ (fun u hv=>Vn Za hv.vs a ha)
 have Wz:Hid (∀u:qac,VM P w0 u bv bm x m (ZZ j i g pp b bj be A c dead) at_ there n->qaa Tryz.prog 107 #[.slice x.uA m.used.length x.uc,a] u fun e w'=>e=.returned (.bool false)/\Below u.heap.size u w'):=χ (fun u hv=>by
  refine(Bits.XF m.used x.uA m.used.length x.uc u.heap.size (a:Int) u rfl hv.vs.met.lies.used (by omega)).mono ?_
  rintro e w' ⟨he,k,rfl⟩
  rw[Bits.Ym,hbit]at he
  exact⟨he,below_drewN (Below.refl _ _) k⟩)
 have HV:=χ h
 clear h Za ha hbit hu V8
 go_enter Tryz.func42,Tryz.ntmps42
 exact zN0
theorem CW(Za:VG j i g pp)(h:VM P w0 w bv bm x m (ZZ j i g pp b bj be A c dead) at_ there n)(a:Nat)(B:Option Addr)(bc:Nat)(ha:a<g*pp)(hbit:Bits.hb m.used a=false)(hu:m.used.length=64):
  qaa Tryz.prog 43 #[.pointer bv,a,.slice B 64 bc] w fun e w'=>e=.returned (.int .i64 2)/\VM P w0 w' bv bm x m (ZZ j i g pp b bj be A c dead) at_ there n:=by
 have V8:=Za.v.gp
 have xD:Hid (∀u:qac,VM P w0 u bv bm x m (ZZ j i g pp b bj be A c dead) at_ there n->qaa Tryz.prog 97 #[.pointer bv,a] u fun e w'=>e=.returned (.tuple #[.int .i64 ((a/pp:Nat):Int),()])/\Below u.heap.size u w'):=χ (fun u hv=>Vn Za hv.vs a ha)
 have Wz:Hid (∀u:qac,VM P w0 u bv bm x m (ZZ j i g pp b bj be A c dead) at_ there n->qaa Tryz.prog 107 #[.slice x.uA m.used.length x.uc,a] u fun e w'=>e=.returned (.bool false)/\Below u.heap.size u w'):=χ (fun u hv=>by
  refine(Bits.XF m.used x.uA m.used.length x.uc u.heap.size (a:Int) u rfl hv.vs.met.lies.used (by omega)).mono ?_
  rintro e w' ⟨he,k,rfl⟩
  rw[Bits.Ym,hbit]at he
  exact⟨he,below_drewN (Below.refl _ _) k⟩)
 have HV:=χ h
 clear h Za ha hbit hu V8
 go_enter Tryz.func43,Tryz.ntmps43
 exact zN0
theorem xB(Za:VG j i g pp)(h:VM P w0 w bv bm x m (ZZ j i g pp b bj be A c dead) at_ there n)(a:Nat)(B:Option Addr)(bn bc:Nat)(acF:bn≠64)(ha:a<g*pp):
  qaa Tryz.prog 43 #[.pointer bv,a,.slice B bn bc] w fun e w'=>e=.returned (.int .i64 1)/\VM P w0 w' bv bm x m (ZZ j i g pp b bj be A c dead) at_ there n:=by
 have V8:=Za.v.gp
 have xD:Hid (∀u:qac,VM P w0 u bv bm x m (ZZ j i g pp b bj be A c dead) at_ there n->qaa Tryz.prog 97 #[.pointer bv,a] u fun e w'=>e=.returned (.tuple #[.int .i64 ((a/pp:Nat):Int),()])/\Below u.heap.size u w'):=χ (fun u hv=>Vn Za hv.vs a ha)
 have hne:¬ (bn:Int)=64:=by omega
 have hne2:((bn:Int)==64)=false:=by simpa using hne
 have HV:=χ h
 clear h Za ha V8 acF
 go_enter Tryz.func43,Tryz.ntmps43
 go_wp2_with (go_at_call 97;go_must (with_reducible refine(xD.out _ HV.out).mono ?_);rintro e w1 ⟨he,hb⟩;obtain rfl:=he;replace HV:=χ (HV.out.below hb);clear hb;obtain⟨c0,c1,c2,c3,c4⟩:=HV.out.vs.cells)
 go_ret
 exact⟨rfl,HV.out⟩
end
end Go.Proofs.YtmehhgfbnfbnaaaGreat.Zl

namespace Go.Proofs.YtmehhgfbnfbnaaaGreat.Zl
open Go.RowKit Zq Meta
theorem qi{j i g pp:Nat}(Za:VG j i g pp){P:Nat->Prop}{w0 w:qac}{bv bm b bj c:Nat}{x:Meta.Mem}{m:Meta.Met}{be:Value}{A:Option Addr}{dead:Bool}{at_:Int->Sx}{there:Int->Bool}{n:Nat}(h:VM P w0 w bv bm x m (ZZ j i g pp b bj be A c dead) at_ there n)(hn:n<maxLen)(a r:Nat)(y:Z8.Rw)(ha:a<g*pp)(hbit:Bits.hb m.used a=true)(hq:m.own[a/pp]? =some ((r:Int)+1))(hy:m.rows[r]? =some y)(hl:m.rows.length=16)(hg:m.own.length=g)(hu:m.used.length=64)(cx:Sx)(hct:cx.t=y.lab)(gb ob bc:Nat)(hr:w.rangeAt gb ob (Z6 cx.b)):
  qaa Tryz.prog 43 #[.pointer bv,a,.slice (some ⟨gb,ob,none⟩) 64 bc] w fun e w'=>e=.returned (.int .i64 0)/\VM P w0 w' bv bm x m (ZZ j i g pp b bj be A c dead) (fun k=>if k=(a:Int)then cx else at_ k) (fun k=>k==(a:Int)||there k) (if there (a:Int)then n else n+1):=by
 have S9:g<=64:=by have:=Za.v.g2;omega
 have V8:=Za.v.gp
 have xD:Hid (∀u:qac,VM P w0 u bv bm x m (ZZ j i g pp b bj be A c dead) at_ there n->qaa Tryz.prog 97 #[.pointer bv,a] u fun e w'=>e=.returned (.tuple #[.int .i64 ((a/pp:Nat):Int),()])/\Below u.heap.size u w'):=χ (fun u hv=>Vn Za hv.vs a ha)
 have KP:a<512:=by rw[<-Int.natCast_mul]at V8;omega
 have Wz:Hid (∀u:qac,VM P w0 u bv bm x m (ZZ j i g pp b bj be A c dead) at_ there n->qaa Tryz.prog 107 #[.slice x.uA m.used.length x.uc,a] u fun e w'=>e=.returned (.bool true)/\Below u.heap.size u w'):=χ (fun u hv=>by
  refine(Bits.XF m.used x.uA m.used.length x.uc u.heap.size (a:Int) u rfl hv.vs.met.lies.used (by omega)).mono ?_
  rintro e w' ⟨he,k,rfl⟩
  rw[Bits.Ym,hbit]at he
  exact⟨he,below_drewN (Below.refl _ _) k⟩)
 have HPU:Hid (∀u:qac,VM P w0 u bv bm x m (ZZ j i g pp b bj be A c dead) at_ there n->qaa Tryz.prog 108 #[.pointer bv,a,.int .i64 ((a/pp:Nat):Int),.agg (Z6 cx.b).toArray] u fun e w'=>e=.returned (.tuple #[])/\VM P w0 w' bv bm x m (ZZ j i g pp b bj be A c dead) (fun k=>if k=(a:Int)then cx else at_ k) (fun k=>k==(a:Int)||there k) (if there (a:Int)then n else n+1)/\Kept (· =bm) u w'):=χ (fun u hv=>by
  refine(qh hv.vs hv.map hn (a/pp) r y hq hy hl (by omega) a KP cx hct).mono ?_
  rintro e w' ⟨he,h1,h2⟩
  exact⟨he,hv.put h1 h2,h2⟩)
 generalize Xi:(fun k=>if k=(a:Int)then cx else at_ k)=at2 at*
 generalize dC:(fun k=>k==(a:Int)||there k)=WG at*
 generalize hn2:(if there (a:Int)then n else n+1)=n2 at*
 have HV:=χ h
 have HR:Hid (w.rangeAt gb ob (Z6 cx.b)):=χ hr
 have KC:Hid ((Z6 cx.b).length=64):=χ (by rw[Z4,cx.hb])
 have hlt:gb<w.heap.size:=by
  have h0:=hr 0 ((Z6 cx.b)[0]'(by rw[KC.out];decide)) (qad _)
  rcases Nat.lt_or_ge gb w.heap.size with h1|h1
  ·exact h1
  ·rw[qac.cell?]at h0
   simp[Array.getElem?_eq_none h1]at h0
 have Ol:=χ hlt
 clear h Za hn ha hbit hq hy hl hg hu hct hr V8 S9 KP hlt Xi dC hn2
 generalize a/pp=q at*
 go_enter Tryz.func43,Tryz.ntmps43
 go_upto_region 8 with(first|(go_at_call 97;go_must (with_reducible refine(xD.out _ HV.out).mono ?_);rintro e w1 ⟨he,hb⟩;obtain rfl:=he;replace HV:=χ (HV.out.below hb);replace HR:=χ (ZO HR.out (hb.block _ Ol.out));replace Ol:=χ (Nat.lt_of_lt_of_le Ol.out hb.size);clear hb;obtain⟨c0,c1,c2,c3,c4⟩:=HV.out.vs.cells)|(go_at_call 107;go_must (with_reducible refine(Wz.out _ HV.out).mono ?_);rintro e w2 ⟨he,hb⟩;obtain rfl:=he;replace HV:=χ (HV.out.below hb);replace HR:=χ (ZO HR.out (hb.block _ Ol.out));replace Ol:=χ (Nat.lt_of_lt_of_le Ol.out hb.size);clear hb c0 c1 c2 c3 c4))
 have Uv:=χ (HV.out.below (Below.refl _ w2).drew)
 have HRz:Hid (w2.drew.rangeAt gb ob (Z6 cx.b)):=χ HR.out
 have HLz:Hid (gb<w2.drew.heap.size):=Ol
 have hS0:(∃at3 MP n3,VM P w0 w2.drew bv bm x m (ZZ j i g pp b bj be A c dead) at3 MP n3)/\w2.drew.rangeAt gb ob (Z6 cx.b):=⟨⟨_,_,_,Uv.out⟩,HRz.out⟩
 refine wp_region_held_drew (S:=fun u=>(∃at3 MP n3,VM P w0 u bv bm x m (ZZ j i g pp b bj be A c dead) at3 MP n3)/\u.rangeAt gb ob (Z6 cx.b)) (by kernel_rfl) hS0 (fun hHeld=>?_)
 clear hS0 HV HR Ol
 generalize hu0:w2.drew=IX at*
 clear hu0
 refine tk 0 ?_ (y:=.inl ⟨by rfl,?hya0⟩) (s:=by exact hHeld) (h:=?V6)
 case hya0=>exact zN2
 refine tk 1 ?_ (y:=.inl ⟨by rfl,?hya1⟩) (s:=by exact hHeld) (h:=?V5)
 case hya1=>exact zN2
 refine tk 2 ?_ (y:=.inl ⟨by rfl,?hya2⟩) (s:=by exact hHeld) (h:=?V4)
 case hya2=>exact zN2
 refine tk 3 ?_ (y:=.inl ⟨by rfl,?hya3⟩) (s:=by exact hHeld) (h:=?TD)
 case hya3=>exact zN2
 refine tk 4 ?_ (y:=.inl ⟨by rfl,?hya4⟩) (s:=by exact hHeld) (h:=?TN)
 case hya4=>exact zN2
 refine tk 5 ?_ (y:=.inl ⟨by rfl,?hya5⟩) (s:=by exact hHeld) (h:=?Vi)
 case hya5=>exact zN2
 refine tk 6 ?_ (y:=.inl ⟨by rfl,?hya6⟩) (s:=by exact hHeld) (h:=?UR)
 case hya6=>exact zN2
 refine tk 7 _ (y:=(yieldsIf_load_mid (by rfl) 161 _ rfl gb ob rfl (Z6 cx.b) _ (fun u hu=>hu.2) Tryz.underlying161 rfl (by rw[FH,KC.out]))) (s:=by exact hHeld) (h:=?_)
 refine rd 8 (h:=fun K hK=>?_)
 go_simp
 (with_reducible refine(HPU.out _ Uv.out).mono ?_)
 rintro e x1 ⟨he,hv,hk⟩;obtain rfl:=he
 have hne:gb≠bm:=fun e=>by
  subst e
  obtain⟨es,cl,hM⟩:=Uv.out.map.isMap
  have h0:=HRz.out 0 ((Z6 cx.b)[0]'(by rw[KC.out];decide)) (qad _)
  rw[qac.cell?]at h0
  simp[hM]at h0
 have hS:(∃at3 MP n3,VM P w0 x1 bv bm x m (ZZ j i g pp b bj be A c dead) at3 MP n3)/\x1.rangeAt gb ob (Z6 cx.b):=⟨⟨_,_,_,hv⟩,ZO HRz.out (hk.block _ HLz.out hne)⟩
 have dB:=χ hv
 clear hv hk hne
 go_simp
 refine hK.out _ _ hS (fun Z5=>?_)
 clear hK K hHeld hS Z5
 refine wpAnyH_done (by kernel_rfl) ?_ _
 go_wp2
 go_ret
 exact⟨rfl,dB.out⟩
end Go.Proofs.YtmehhgfbnfbnaaaGreat.Zl
