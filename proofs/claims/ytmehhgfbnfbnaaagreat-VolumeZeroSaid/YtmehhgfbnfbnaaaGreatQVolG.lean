import Derived.Test.YtmehhgfbnfbnaaaGreatQVolE
import Derived.Test.YtmehhgfbnfbnaaaGreatQTk
set_option maxRecDepth 100000
set_option maxHeartbeats 25600000
open List renaming setIfInBounds_toArray->qaa,set_cons_zero->qab,set_cons_succ->qac,getElem?_eq_getElem->qah
open Go renaming Calls->qad,bodyPost_ret->qae,World->qag
open Go.Act renaming put->qaf
namespace Go.Proofs.YtmehhgfbnfbnaaaGreat.Y7
open Go.RowKit Zc Meta
section
variable {j i g pp bv bm b bj c n:Nat}{P:Nat->Prop}{w0 w:qag}{x:Meta.Mem}{m:Meta.Met}{be:Value}{A:Option Addr}{dead:Bool}{at_:Int->Sx}{there:Int->Bool}
theorem Io(Y8:VG j i g pp)(h:VM P w0 w bv bm x m (ZY j i g pp b bj be A c dead) at_ there n)(a:Nat)(hg:m.own.length=g)(hq:Vx m.own=none):
  qad Tryz.prog 103 #[.pointer bv,.int .u16 a] w fun e w'=>e=.returned (.tuple #[(),.int .i64 5])/\VM P w0 w' bv bm x m (ZY j i g pp b bj be A c dead) at_ there n:=by
 have UC:g<=64:=by have:=Y8.v.g2;omega
 have hg1:=Y8.v.g1
 obtain⟨gb,cb,hvv,-⟩:=Zv h.vs.met.own (by omega)
 have hxo:x.oA=some ⟨gb,0,none⟩:=by injection hvv
 clear hvv
 have hlo:=h.vs.met.lies.own
 rw[hxo]at hlo
 have SK:Hid (qad Tryz.prog 174 #[.slice gb g x.oc,()] w fun e w'=>e=.returned (.int .i64 (-1))/\w=w'):=χ (by
  have:=P6 m.own gb 0 x.oc g w hg hlo (by omega)
  rw[hq]at this
  exact this)
 have HV:=χ h
 obtain⟨c0,c1,c2,c3,c4⟩:=h.vs.cells
 rw[hxo,hg]at c1
 clear h Y8 hq hlo UC hg1 hxo hg c0 c2 c3 c4
 go_enter Tryz.func103,Tryz.ntmps103
 go_wp2_with (go_at_call 174;go_must (with_reducible refine SK.out.mono ?_);rintro e w1 ⟨he,hb⟩;obtain rfl:=he;subst hb)
 refine qae (v:=.tuple #[(),.int .i64 5]) (by simp[results,Tryz.results103,go_sem]) rfl ?_
 exact⟨rfl,HV.out⟩
theorem DU(Y8:VG j i g pp)(h:VM P w0 w bv bm x m (ZY j i g pp b bj be A c dead) at_ there n)(a:Nat)(q:Nat)(hg:m.own.length=g)(hq:Vx m.own=some q)(h0:(Z8.ZH m.rows a).err≠0):
  qad Tryz.prog 103 #[.pointer bv,.int .u16 a] w fun e w'=>e=.returned (.tuple #[(),.int .i64 ((Z8.ZH m.rows a).err:Int)])/\VM P w0 w' bv bm x m (ZY j i g pp b bj be A c dead) at_ there n:=by
 have UC:g<=64:=by have:=Y8.v.g2;omega
 have hg1:=Y8.v.g1
 obtain⟨gb,cb,hvv,-⟩:=Zv h.vs.met.own (by omega)
 have hxo:x.oA=some ⟨gb,0,none⟩:=by injection hvv
 clear hvv
 have hlo:=h.vs.met.lies.own
 rw[hxo]at hlo
 have SK:Hid (qad Tryz.prog 174 #[.slice gb g x.oc,()] w fun e w'=>e=.returned (.int .i64 ((q:Int)))/\w=w'):=χ (by
  have:=P6 m.own gb 0 x.oc g w hg hlo (by omega)
  rw[hq]at this
  exact this)
 have Ua:Hid (∀u:qag,VM P w0 u bv bm x m (ZY j i g pp b bj be A c dead) at_ there n->qad Tryz.prog 106 #[.pointer bv,.int .u16 a] u fun e w'=>e=.returned (.tuple #[(),.int .i64 ((Z8.ZH m.rows a).err:Int)])/\VM P w0 w' bv bm x m (ZY j i g pp b bj be A c dead) at_ there n):=χ (fun u hv=>by
  refine(RF hv.vs a h0).mono ?_
  rintro e w' ⟨he,hb⟩
  exact⟨he,hv.below hb⟩)
 have hne:((Z8.ZH m.rows a).err:Int)≠0:=by omega
 have hq0:¬ (q:Int)<0:=by omega
 have HV:=χ h
 obtain⟨c0,c1,c2,c3,c4⟩:=h.vs.cells
 rw[hxo,hg]at c1
 clear h Y8 hq hlo UC hg1 hxo hg c0 c2 c3 c4 h0
 generalize hr:Z8.ZH m.rows a=r at*
 clear hr
 go_enter Tryz.func103,Tryz.ntmps103
 go_wp2_with (first|(go_at_call 174;go_must (with_reducible refine SK.out.mono ?_);rintro e w1 ⟨he,hb⟩;obtain rfl:=he;subst hb)|(go_at_call 106;go_must (with_reducible refine(Ua.out _ HV.out).mono ?_);rintro e w2 ⟨he,hv⟩;obtain rfl:=he;have X7:=χ hv;clear hv))
 refine qae (v:=.tuple #[(),r.err]) (by simp[results,Tryz.results103,go_sem]) rfl ?_
 exact⟨rfl,X7.out⟩
theorem Im(Y8:VG j i g pp)(h:VM P w0 w bv bm x m (ZY j i g pp b bj be A c dead) at_ there n)(a:Nat)(hl:m.rows.length=16)(hg:m.own.length=g)(hu:m.used.length=64)(hown:∀(q:Nat)(o:Int),m.own[q]? =some o->o=0\/∃(r:Nat)(y:Z8.Rw),o=(r:Int)+1/\m.rows[r]? =some y)(hun:RS pp m a=none)(hq:Vx m.own=none):
  qad Tryz.prog 39 #[.pointer bv,.int .u16 a] w fun e w'=>e=.returned (.tuple #[(),.int .i64 5])/\VM P w0 w' bv bm x m (ZY j i g pp b bj be A c dead) at_ there n:=by
 have QO:Hid (qad Tryz.prog 102 #[.pointer bv,.int .u16 a] w fun e w'=>e=.returned (.tuple #[(),false])/\Below w.heap.size w w'):=χ (by
  have:=T9 Y8 h.vs a hl hg hu hown
  rwa[hun]at this)
 have Fz:Hid (∀u:qag,VM P w0 u bv bm x m (ZY j i g pp b bj be A c dead) at_ there n->qad Tryz.prog 103 #[.pointer bv,.int .u16 a] u fun e w'=>e=.returned (.tuple #[(),.int .i64 5])/\VM P w0 w' bv bm x m (ZY j i g pp b bj be A c dead) at_ there n):=χ (fun u hv=>Io Y8 hv a hg hq)
 have HV:=χ h
 clear h Y8 hl hg hu hown hun hq
 go_enter Tryz.func39,Tryz.ntmps39
 go_wp2_with (first|(go_at_call 102;go_must (with_reducible refine QO.out.mono ?_);rintro e w1 ⟨he,hb⟩;obtain rfl:=he;replace HV:=χ (HV.out.below hb);clear hb)|(go_at_call 103;go_must (with_reducible refine(Fz.out _ HV.out).mono ?_);rintro e w2 ⟨he,hv⟩;obtain rfl:=he;have X7:=χ hv;clear hv))
 refine qae (v:=.tuple #[(),.int .i64 5]) (by simp[results,Tryz.results39,go_sem]) rfl ?_
 exact⟨rfl,X7.out⟩
theorem DT(Y8:VG j i g pp)(h:VM P w0 w bv bm x m (ZY j i g pp b bj be A c dead) at_ there n)(a:Nat)(q:Nat)(hl:m.rows.length=16)(hg:m.own.length=g)(hu:m.used.length=64)(hown:∀(q:Nat)(o:Int),m.own[q]? =some o->o=0\/∃(r:Nat)(y:Z8.Rw),o=(r:Int)+1/\m.rows[r]? =some y)(hun:RS pp m a=none)(hq:Vx m.own=some q)(h0:(Z8.ZH m.rows a).err≠0):
  qad Tryz.prog 39 #[.pointer bv,.int .u16 a] w fun e w'=>e=.returned (.tuple #[(),.int .i64 ((Z8.ZH m.rows a).err:Int)])/\VM P w0 w' bv bm x m (ZY j i g pp b bj be A c dead) at_ there n:=by
 have QO:Hid (qad Tryz.prog 102 #[.pointer bv,.int .u16 a] w fun e w'=>e=.returned (.tuple #[(),false])/\Below w.heap.size w w'):=χ (by
  have:=T9 Y8 h.vs a hl hg hu hown
  rwa[hun]at this)
 have Fz:Hid (∀u:qag,VM P w0 u bv bm x m (ZY j i g pp b bj be A c dead) at_ there n->qad Tryz.prog 103 #[.pointer bv,.int .u16 a] u fun e w'=>e=.returned (.tuple #[(),.int .i64 ((Z8.ZH m.rows a).err:Int)])/\VM P w0 w' bv bm x m (ZY j i g pp b bj be A c dead) at_ there n):=χ (fun u hv=>DU Y8 hv a q hg hq h0)
 have HV:=χ h
 have hne:((Z8.ZH m.rows a).err:Int)≠0:=by omega
 clear h Y8 hl hg hu hown hun hq h0
 generalize hr:Z8.ZH m.rows a=r at*
 clear hr
 go_enter Tryz.func39,Tryz.ntmps39
 go_wp2_with (first|(go_at_call 102;go_must (with_reducible refine QO.out.mono ?_);rintro e w1 ⟨he,hb⟩;obtain rfl:=he;replace HV:=χ (HV.out.below hb);clear hb)|(go_at_call 103;go_must (with_reducible refine(Fz.out _ HV.out).mono ?_);rintro e w2 ⟨he,hv⟩;obtain rfl:=he;have X7:=χ hv;clear hv))
 refine qae (v:=.tuple #[(),r.err]) (by simp[results,Tryz.results39,go_sem]) rfl ?_
 exact⟨rfl,X7.out⟩
end
end Go.Proofs.YtmehhgfbnfbnaaaGreat.Y7

namespace Go.Proofs.YtmehhgfbnfbnaaaGreat.Y7
open Go.RowKit Zc Meta
section
variable {j i g pp bv bm b bj c n:Nat}{P:Nat->Prop}{w0 w:qag}{x:Meta.Mem}{m:Meta.Met}{be:Value}{A:Option Addr}{dead:Bool}{at_:Int->Sx}{there:Int->Bool}
theorem Rb(Y8:VG j i g pp)(h:VM P w0 w bv bm x m (ZY j i g pp b bj be A c dead) at_ there n)(a:Int)(ha:¬ (0<=a/\a<(g:Int)*(pp:Int))):
  qad Tryz.prog 97 #[.pointer bv,a] w fun e w'=>e=.returned (.tuple #[(),.int .i64 1])/\VM P w0 w' bv bm x m (ZY j i g pp b bj be A c dead) at_ there n:=by
 have HG:Hid (qad Tryz.prog 95 #[.agg #[j,i,g,pp],a] w fun e w'=>e=.returned (.tuple #[(),false])/\Below w.heap.size w w'):=χ (ZF.Aj a Y8.v ha w)
 obtain⟨g0,g1,g2,g3⟩:=h.vs.Yr
 have HV:=χ h
 clear h Y8 ha
 go_enter Tryz.func97,Tryz.ntmps97
 go_wp2_with (go_at_call 95;(with_reducible refine HG.out.mono ?_);rintro e w1 ⟨he,hb⟩;obtain rfl:=he;have X7:=χ (HV.out.below hb);clear hb g0 g1 g2 g3)
 refine qae (v:=.tuple #[(),.int .i64 1]) (by simp[results,Tryz.results97,go_sem]) rfl ?_
 exact⟨rfl,X7.out⟩
theorem Ai(Y8:VG j i g pp)(h:VM P w0 w bv bm x m (ZY j i g pp b bj be A c dead) at_ there n)(a:Int)(ha:¬ (0<=a/\a<(g:Int)*(pp:Int))):
  qad Tryz.prog 42 #[.pointer bv,a] w fun e w'=>e=.returned (.int .i64 1)/\VM P w0 w' bv bm x m (ZY j i g pp b bj be A c dead) at_ there n:=by
 have KN:=χ (Rb Y8 h a ha)
 clear h Y8 ha
 go_enter Tryz.func42,Tryz.ntmps42
 go_wp2_with (go_at_call 97;(with_reducible refine KN.out.mono ?_);rintro e w1 ⟨he,hv⟩;obtain rfl:=he;have X7:=χ hv;clear hv)
 go_ret
 exact⟨rfl,X7.out⟩
theorem NP(Y8:VG j i g pp)(h:VM P w0 w bv bm x m (ZY j i g pp b bj be A c dead) at_ there n)(a:Int)(B:Option Addr)(bn bc:Nat)(ha:¬ (0<=a/\a<(g:Int)*(pp:Int))):
  qad Tryz.prog 43 #[.pointer bv,a,.slice B bn bc] w fun e w'=>e=.returned (.int .i64 1)/\VM P w0 w' bv bm x m (ZY j i g pp b bj be A c dead) at_ there n:=by
 have KN:=χ (Rb Y8 h a ha)
 clear h Y8 ha
 go_enter Tryz.func43,Tryz.ntmps43
 go_wp2_with (go_at_call 97;(with_reducible refine KN.out.mono ?_);rintro e w1 ⟨he,hv⟩;obtain rfl:=he;have X7:=χ hv;clear hv)
 go_ret
 exact⟨rfl,X7.out⟩
theorem DX(Y8:VG j i g pp)(h:VM P w0 w bv bm x m (ZY j i g pp b bj be A c dead) at_ there n)(a:Nat)(ha:a<g*pp)(hbit:Bits.hb m.used a=false)(hu:m.used.length=64):
  qad Tryz.prog 42 #[.pointer bv,a] w fun e w'=>e=.returned (.int .i64 2)/\VM P w0 w' bv bm x m (ZY j i g pp b bj be A c dead) at_ there n:=by
 have WV:=Y8.v.gp
 have KN:Hid (∀u:qag,VM P w0 u bv bm x m (ZY j i g pp b bj be A c dead) at_ there n->qad Tryz.prog 97 #[.pointer bv,a] u fun e w'=>e=.returned (.tuple #[.int .i64 ((a/pp:Nat):Int),()])/\Below u.heap.size u w'):=χ (fun u hv=>Xw Y8 hv.vs a ha)
 have Xg:Hid (∀u:qag,VM P w0 u bv bm x m (ZY j i g pp b bj be A c dead) at_ there n->qad Tryz.prog 107 #[.slice x.uA m.used.length x.uc,a] u fun e w'=>e=.returned (.bool false)/\Below u.heap.size u w'):=χ (fun u hv=>by
  refine(Bits.X0 m.used x.uA m.used.length x.uc u.heap.size (a:Int) u rfl hv.vs.met.lies.used (by omega)).mono ?_
  rintro e w' ⟨he,k,rfl⟩
  rw[Bits.YA,hbit]at he
  exact⟨he,below_drewN (Below.refl _ _) k⟩)
 have HV:=χ h
 clear h Y8 ha hbit hu WV
 go_enter Tryz.func42,Tryz.ntmps42
 go_wp2_with (first|(go_at_call 97;go_must (with_reducible refine(KN.out _ HV.out).mono ?_);rintro e w1 ⟨he,hb⟩;obtain rfl:=he;replace HV:=χ (HV.out.below hb);clear hb;obtain⟨c0,c1,c2,c3,c4⟩:=HV.out.vs.cells)|(go_at_call 107;go_must (with_reducible refine(Xg.out _ HV.out).mono ?_);rintro e w2 ⟨he,hb⟩;obtain rfl:=he;replace HV:=χ (HV.out.below hb);clear hb c0 c1 c2 c3 c4))
 go_ret
 exact⟨rfl,HV.out⟩
theorem Ip(Y8:VG j i g pp)(h:VM P w0 w bv bm x m (ZY j i g pp b bj be A c dead) at_ there n)(a:Nat)(B:Option Addr)(bc:Nat)(ha:a<g*pp)(hbit:Bits.hb m.used a=false)(hu:m.used.length=64):
  qad Tryz.prog 43 #[.pointer bv,a,.slice B 64 bc] w fun e w'=>e=.returned (.int .i64 2)/\VM P w0 w' bv bm x m (ZY j i g pp b bj be A c dead) at_ there n:=by
 have WV:=Y8.v.gp
 have KN:Hid (∀u:qag,VM P w0 u bv bm x m (ZY j i g pp b bj be A c dead) at_ there n->qad Tryz.prog 97 #[.pointer bv,a] u fun e w'=>e=.returned (.tuple #[.int .i64 ((a/pp:Nat):Int),()])/\Below u.heap.size u w'):=χ (fun u hv=>Xw Y8 hv.vs a ha)
 have Xg:Hid (∀u:qag,VM P w0 u bv bm x m (ZY j i g pp b bj be A c dead) at_ there n->qad Tryz.prog 107 #[.slice x.uA m.used.length x.uc,a] u fun e w'=>e=.returned (.bool false)/\Below u.heap.size u w'):=χ (fun u hv=>by
  refine(Bits.X0 m.used x.uA m.used.length x.uc u.heap.size (a:Int) u rfl hv.vs.met.lies.used (by omega)).mono ?_
  rintro e w' ⟨he,k,rfl⟩
  rw[Bits.YA,hbit]at he
  exact⟨he,below_drewN (Below.refl _ _) k⟩)
 have HV:=χ h
 clear h Y8 ha hbit hu WV
 go_enter Tryz.func43,Tryz.ntmps43
 go_wp2_with (first|(go_at_call 97;go_must (with_reducible refine(KN.out _ HV.out).mono ?_);rintro e w1 ⟨he,hb⟩;obtain rfl:=he;replace HV:=χ (HV.out.below hb);clear hb;obtain⟨c0,c1,c2,c3,c4⟩:=HV.out.vs.cells)|(go_at_call 107;go_must (with_reducible refine(Xg.out _ HV.out).mono ?_);rintro e w2 ⟨he,hb⟩;obtain rfl:=he;replace HV:=χ (HV.out.below hb);clear hb c0 c1 c2 c3 c4))
 go_ret
 exact⟨rfl,HV.out⟩
theorem DV(Y8:VG j i g pp)(h:VM P w0 w bv bm x m (ZY j i g pp b bj be A c dead) at_ there n)(a:Nat)(B:Option Addr)(bn bc:Nat)(eZ:bn≠64)(ha:a<g*pp):
  qad Tryz.prog 43 #[.pointer bv,a,.slice B bn bc] w fun e w'=>e=.returned (.int .i64 1)/\VM P w0 w' bv bm x m (ZY j i g pp b bj be A c dead) at_ there n:=by
 have WV:=Y8.v.gp
 have KN:Hid (∀u:qag,VM P w0 u bv bm x m (ZY j i g pp b bj be A c dead) at_ there n->qad Tryz.prog 97 #[.pointer bv,a] u fun e w'=>e=.returned (.tuple #[.int .i64 ((a/pp:Nat):Int),()])/\Below u.heap.size u w'):=χ (fun u hv=>Xw Y8 hv.vs a ha)
 have hne:¬ (bn:Int)=64:=by omega
 have hne2:((bn:Int)==64)=false:=by simpa using hne
 have HV:=χ h
 clear h Y8 ha WV eZ
 go_enter Tryz.func43,Tryz.ntmps43
 go_wp2_with (go_at_call 97;go_must (with_reducible refine(KN.out _ HV.out).mono ?_);rintro e w1 ⟨he,hb⟩;obtain rfl:=he;replace HV:=χ (HV.out.below hb);clear hb;obtain⟨c0,c1,c2,c3,c4⟩:=HV.out.vs.cells)
 go_ret
 exact⟨rfl,HV.out⟩
end
end Go.Proofs.YtmehhgfbnfbnaaaGreat.Y7

namespace Go.Proofs.YtmehhgfbnfbnaaaGreat.Y7
open Go.RowKit Zc Meta
theorem Am{j i g pp:Nat}(Y8:VG j i g pp){P:Nat->Prop}{w0 w:qag}{bv bm b bj c:Nat}{x:Meta.Mem}{m:Meta.Met}{be:Value}{A:Option Addr}{dead:Bool}{at_:Int->Sx}{there:Int->Bool}{n:Nat}(h:VM P w0 w bv bm x m (ZY j i g pp b bj be A c dead) at_ there n)(hn:n<maxLen)(a r:Nat)(y:Z8.Rw)(ha:a<g*pp)(hbit:Bits.hb m.used a=true)(hq:m.own[a/pp]? =some ((r:Int)+1))(hy:m.rows[r]? =some y)(hl:m.rows.length=16)(hg:m.own.length=g)(hu:m.used.length=64)(cx:Sx)(hct:cx.t=y.lab)(gb ob bc:Nat)(hr:w.rangeAt gb ob (Z7 cx.b)):
  qad Tryz.prog 43 #[.pointer bv,a,.slice (some ⟨gb,ob,none⟩) 64 bc] w fun e w'=>e=.returned (.int .i64 0)/\VM P w0 w' bv bm x m (ZY j i g pp b bj be A c dead) (fun k=>if k=(a:Int)then cx else at_ k) (fun k=>k==(a:Int)||there k) (if there (a:Int)then n else n+1):=by
 have UC:g<=64:=by have:=Y8.v.g2;omega
 have WV:=Y8.v.gp
 have KN:Hid (∀u:qag,VM P w0 u bv bm x m (ZY j i g pp b bj be A c dead) at_ there n->qad Tryz.prog 97 #[.pointer bv,a] u fun e w'=>e=.returned (.tuple #[.int .i64 ((a/pp:Nat):Int),()])/\Below u.heap.size u w'):=χ (fun u hv=>Xw Y8 hv.vs a ha)
 have NQ:a<512:=by rw[<-Int.natCast_mul]at WV;omega
 have Xg:Hid (∀u:qag,VM P w0 u bv bm x m (ZY j i g pp b bj be A c dead) at_ there n->qad Tryz.prog 107 #[.slice x.uA m.used.length x.uc,a] u fun e w'=>e=.returned (.bool true)/\Below u.heap.size u w'):=χ (fun u hv=>by
  refine(Bits.X0 m.used x.uA m.used.length x.uc u.heap.size (a:Int) u rfl hv.vs.met.lies.used (by omega)).mono ?_
  rintro e w' ⟨he,k,rfl⟩
  rw[Bits.YA,hbit]at he
  exact⟨he,below_drewN (Below.refl _ _) k⟩)
 have fu:Hid (∀u:qag,VM P w0 u bv bm x m (ZY j i g pp b bj be A c dead) at_ there n->qad Tryz.prog 108 #[.pointer bv,a,.int .i64 ((a/pp:Nat):Int),.agg (Z7 cx.b).toArray] u fun e w'=>e=.returned (.tuple #[])/\VM P w0 w' bv bm x m (ZY j i g pp b bj be A c dead) (fun k=>if k=(a:Int)then cx else at_ k) (fun k=>k==(a:Int)||there k) (if there (a:Int)then n else n+1)/\Kept (· =bm) u w'):=χ (fun u hv=>by
  refine(Al hv.vs hv.map hn (a/pp) r y hq hy hl (by omega) a NQ cx hct).mono ?_
  rintro e w' ⟨he,h1,h2⟩
  exact⟨he,hv.put h1 h2,h2⟩)
 generalize Xv:(fun k=>if k=(a:Int)then cx else at_ k)=at2 at*
 generalize qc:(fun k=>k==(a:Int)||there k)=Xo at*
 generalize hn2:(if there (a:Int)then n else n+1)=n2 at*
 have HV:=χ h
 have HR:Hid (w.rangeAt gb ob (Z7 cx.b)):=χ hr
 have Fz:Hid ((Z7 cx.b).length=64):=χ (by rw[Z5,cx.hb])
 have hlt:gb<w.heap.size:=by
  have h0:=hr 0 ((Z7 cx.b)[0]'(by rw[Fz.out];decide)) (qah _)
  rcases Nat.lt_or_ge gb w.heap.size with h1|h1
  ·exact h1
  ·rw[qag.cell?]at h0
   simp[Array.getElem?_eq_none h1]at h0
 have Ak:=χ hlt
 clear h Y8 hn ha hbit hq hy hl hg hu hct hr WV UC NQ hlt Xv qc hn2
 generalize a/pp=q at*
 go_enter Tryz.func43,Tryz.ntmps43
 go_upto_region 8 with(first|(go_at_call 97;go_must (with_reducible refine(KN.out _ HV.out).mono ?_);rintro e w1 ⟨he,hb⟩;obtain rfl:=he;replace HV:=χ (HV.out.below hb);replace HR:=χ (ZL HR.out (hb.block _ Ak.out));replace Ak:=χ (Nat.lt_of_lt_of_le Ak.out hb.size);clear hb;obtain⟨c0,c1,c2,c3,c4⟩:=HV.out.vs.cells)|(go_at_call 107;go_must (with_reducible refine(Xg.out _ HV.out).mono ?_);rintro e w2 ⟨he,hb⟩;obtain rfl:=he;replace HV:=χ (HV.out.below hb);replace HR:=χ (ZL HR.out (hb.block _ Ak.out));replace Ak:=χ (Nat.lt_of_lt_of_le Ak.out hb.size);clear hb c0 c1 c2 c3 c4))
 have Vm:=χ (HV.out.below (Below.refl _ w2).drew)
 have fq:Hid (w2.drew.rangeAt gb ob (Z7 cx.b)):=χ HR.out
 have HLz:Hid (gb<w2.drew.heap.size):=Ak
 have hS0:(∃at3 P7 n3,VM P w0 w2.drew bv bm x m (ZY j i g pp b bj be A c dead) at3 P7 n3)/\w2.drew.rangeAt gb ob (Z7 cx.b):=⟨⟨_,_,_,Vm.out⟩,fq.out⟩
 refine wp_region_held_drew (S:=fun u=>(∃at3 P7 n3,VM P w0 u bv bm x m (ZY j i g pp b bj be A c dead) at3 P7 n3)/\u.rangeAt gb ob (Z7 cx.b)) (by kernel_rfl) hS0 (fun hHeld=>?_)
 clear hS0 HV HR Ak
 generalize hu0:w2.drew=NS at*
 clear hu0
 refine tk 0 ?_ (y:=.inl ⟨by rfl,?hya0⟩) (s:=by exact hHeld) (h:=?V4)
 case hya0=>(intro u hu;obtain⟨⟨at3,mg,n3,hu⟩,hr⟩:=hu;have hat:=run_arrayAt u ⟨gb,ob,none⟩ bc;clear hu;go_simp<;>with_reducible rfl)
 try simp only[qaf,qaa,qab,qac]
 refine tk 1 ?_ (y:=.inl ⟨by rfl,?hya1⟩) (s:=by exact hHeld) (h:=?Wn)
 case hya1=>(intro u hu;obtain⟨⟨at3,mg,n3,hu⟩,hr⟩:=hu;have hat:=run_arrayAt u ⟨gb,ob,none⟩ bc;clear hu;go_simp<;>with_reducible rfl)
 try simp only[qaf,qaa,qab,qac]
 refine tk 2 ?_ (y:=.inl ⟨by rfl,?hya2⟩) (s:=by exact hHeld) (h:=?Wm)
 case hya2=>(intro u hu;obtain⟨⟨at3,mg,n3,hu⟩,hr⟩:=hu;have hat:=run_arrayAt u ⟨gb,ob,none⟩ bc;clear hu;go_simp<;>with_reducible rfl)
 try simp only[qaf,qaa,qab,qac]
 refine tk 3 ?_ (y:=.inl ⟨by rfl,?hya3⟩) (s:=by exact hHeld) (h:=?Tp)
 case hya3=>(intro u hu;obtain⟨⟨at3,mg,n3,hu⟩,hr⟩:=hu;have hat:=run_arrayAt u ⟨gb,ob,none⟩ bc;clear hu;go_simp<;>with_reducible rfl)
 try simp only[qaf,qaa,qab,qac]
 refine tk 4 ?_ (y:=.inl ⟨by rfl,?hya4⟩) (s:=by exact hHeld) (h:=?TJ)
 case hya4=>(intro u hu;obtain⟨⟨at3,mg,n3,hu⟩,hr⟩:=hu;have hat:=run_arrayAt u ⟨gb,ob,none⟩ bc;clear hu;go_simp<;>with_reducible rfl)
 try simp only[qaf,qaa,qab,qac]
 refine tk 5 ?_ (y:=.inl ⟨by rfl,?hya5⟩) (s:=by exact hHeld) (h:=?Vw)
 case hya5=>(intro u hu;obtain⟨⟨at3,mg,n3,hu⟩,hr⟩:=hu;have hat:=run_arrayAt u ⟨gb,ob,none⟩ bc;clear hu;go_simp<;>with_reducible rfl)
 try simp only[qaf,qaa,qab,qac]
 refine tk 6 ?_ (y:=.inl ⟨by rfl,?hya6⟩) (s:=by exact hHeld) (h:=?Vg)
 case hya6=>(intro u hu;obtain⟨⟨at3,mg,n3,hu⟩,hr⟩:=hu;have hat:=run_arrayAt u ⟨gb,ob,none⟩ bc;clear hu;go_simp<;>with_reducible rfl)
 try simp only[qaf,qaa,qab,qac]
 refine tk 7 _ (y:=(yieldsIf_load_mid (by rfl) 161 _ rfl gb ob rfl (Z7 cx.b) _ (fun u hu=>hu.2) Tryz.underlying161 rfl (by rw[KL,Fz.out]))) (s:=by exact hHeld) (h:=?_)
 try simp only[qaf,qaa,qab,qac]
 refine rd 8 (h:=fun K hK=>?_)
 go_simp
 (with_reducible refine(fu.out _ Vm.out).mono ?_)
 rintro e x1 ⟨he,hv,hk⟩;obtain rfl:=he
 have hne:gb≠bm:=fun e=>by
  subst e
  obtain⟨es,cl,hM⟩:=Vm.out.map.isMap
  have h0:=fq.out 0 ((Z7 cx.b)[0]'(by rw[Fz.out];decide)) (qah _)
  rw[qag.cell?]at h0
  simp[hM]at h0
 have hS:(∃at3 P7 n3,VM P w0 x1 bv bm x m (ZY j i g pp b bj be A c dead) at3 P7 n3)/\x1.rangeAt gb ob (Z7 cx.b):=⟨⟨_,_,_,hv⟩,ZL fq.out (hk.block _ HLz.out hne)⟩
 have qb:=χ hv
 clear hv hk hne
 go_simp
 refine hK.out _ _ hS (fun Z4=>?_)
 clear hK K hHeld hS Z4
 try simp only[qaf,qaa,qab,qac]
 refine wpAnyH_done (by kernel_rfl) ?_ _
 go_wp2
 go_ret
 exact⟨rfl,qb.out⟩
end Go.Proofs.YtmehhgfbnfbnaaaGreat.Y7
