import Derived.Test.YtmehhgfbnfbnaaaGreatQVolJ
import Derived.Test.YtmehhgfbnfbnaaaGreatQVolK
import Derived.Test.YtmehhgfbnfbnaaaGreatQVolN
import Derived.Test.YtmehhgfbnfbnaaaGreatQTk
import Derived.Test.YtmehhgfbnfbnaaaGreatQVolH
import Derived.Test.YtmehhgfbnfbnaaaGreatQVolL
import Derived.Test.YtmehhgfbnfbnaaaGreatQVolM
import Derived.Test.YtmehhgfbnfbnaaaGreatQMetaO
set_option maxRecDepth 100000
set_option maxHeartbeats 25600000
open Int renaming eq_ofNat_of_zero_le->qaa,toNat_natCast->qac,natCast_mul->qaj
open List renaming replicate->qab,getElem?_eq_getElem->qad
open Nat renaming reduceEqDiff->qae
open Go.DataW renaming trod->qaf,trod_int->qah
open Bool renaming false_eq_true->qag
open Go renaming Calls->qai,Value->qak
namespace Go.Proofs.YtmehhgfbnfbnaaaGreat
theorem zgq0{P:Prop}(h:P:=by
 rintro e w' ⟨he,x',h6⟩
 exact⟨he,Zn (s:={s with m:=_}) h6 (h4.known _)⟩):P:=h
theorem zgq1{P:Prop}(h:P:=by
 rintro e w' ⟨he,h6⟩
 exact⟨he,Zn h6 h4⟩):P:=h
theorem zgq2{P:Prop}(h:P:=by
 rintro e w' ⟨he,y',h6⟩
 exact⟨he,YQ h6⟩):P:=h
theorem zgq3{P:Prop}(h:P:=by
 rintro e w' ⟨he,h6⟩
 exact⟨he,YQ h6⟩):P:=h
theorem zgq4{P:Prop}(h:P:=by
 rintro e w' ⟨he,rfl⟩
 exact⟨he,hs⟩):P:=h
end Go.Proofs.YtmehhgfbnfbnaaaGreat
namespace Go.Proofs.YtmehhgfbnfbnaaaGreat.Zl
open Go.RowKit Zq Meta Apart
section
variable {N n:Nat}{s:PS}{base:Nat->List UInt8}{at_:Int->Sx}{there:Int->Bool}
structure Fa(N:Nat)(s:PS)(base:Nat->List UInt8)(at_:Int->Sx)(there:Int->Bool)(n:Nat):Prop where
 th:∀k,there k=true->∃a:Nat,k=(a:Int)/\a<N
 dir:∀(a t:Nat),s.D[a]? =some (some t)->there (a:Int)=true/\s.B[a]? =some (at_ (a:Int)).b/\(at_ (a:Int)).t=t
 cln:∀a:Nat,s.D[a]? =some none->there (a:Int)=false/\s.B[a]? =some (base a)
 cnt:n=s.D.countP Option.isSome
theorem Fa.known (h:Fa N s base at_ there n)(m:Meta.Met):Fa N {s with m:=m} base at_ there n:=⟨h.th,h.dir,h.cln,h.cnt⟩
theorem Fa.put {pp:Nat}(h:Fa N s base at_ there n){a:Nat}(ha:a<N)(hd:s.D.length=N)(hbl:s.B.length=N)(m:Meta.Met){cx:Sx}(ht:cx.t=Qw pp s.m a):
  Fa N (Rp pp s m a cx.b) base (fun k=>if k=(a:Int)then cx else at_ k) (fun k=>k==(a:Int)||there k) (if there (a:Int)then n else n+1):=by
 have hold:∃d,s.D[a]? =some d:=⟨_,qad (by omega)⟩
 obtain⟨d,hda⟩:=hold
 refine⟨fun k hk=>?_,fun b t hb=>?_,fun b hb=>?_,?_⟩
 ·simp only[Bool.or_eq_true,beq_iff_eq]at hk
  rcases hk with hk|hk
  ·exact⟨a,hk,ha⟩
  ·exact h.th k hk
 ·simp only[Rp]at hb⊢
  rcases UT hb with⟨rfl,h2⟩|⟨h1,h2⟩
  ·cases h2
   refine⟨by simp,?_,by simp[ht]⟩
   simp only[if_true]
   rw[List.getElem?_set_self (by omega)]
  ·obtain⟨h3,h4,h5⟩:=h.dir b t h2
   have hne:¬ (b:Int)=(a:Int):=by omega
   refine⟨by rw[h3];simp,?_,by rw[if_neg hne];exact h5⟩
   rw[if_neg hne,List.getElem?_set_ne (fun e=>h1 e.symm)]
   exact h4
 ·simp only[Rp]at hb⊢
  rcases UT hb with⟨rfl,h2⟩|⟨h1,h2⟩
  ·cases h2
  ·obtain⟨h3,h4⟩:=h.cln b h2
   have hne:((b:Int)==(a:Int))=false:=by simp;omega
   refine⟨by rw[h3,hne];rfl,?_⟩
   rw[List.getElem?_set_ne (fun e=>h1 e.symm)]
   exact h4
 ·simp only[Rp]
  have hc:=SX Option.isSome (some (Qw pp s.m a)) hda
  have hn:=h.cnt
  cases d with
  |none=>
   rw[(h.cln a hda).1]
   simp at hc⊢
   omega
  |some t=>
   rw[(h.dir a t hda).1]
   simp at hc⊢
   omega
theorem Fa.le (h:Fa N s base at_ there n):n<=s.D.length:=by
 rw[h.cnt]
 exact List.countP_le_length
def Vl(j i g pp bv b bj bm:Nat)(be:qak)(A:Option Addr)(c:Nat)(dead:Bool)(base:Nat->List UInt8)(s:PS):TP:=fun P w=>∃x at_ there n,Vs P w bv x s.m bm (ZZ j i g pp b bj be A c dead)/\Zu XA Xz zx w bm at_ there n/\P bm/\Fa (g*pp) s base at_ there n
def Rl(j i g pp bw:Nat)(s:PS):TP:=fun P w=>∃y,Rv j i g pp P w bw y s
def Dl(F n q b bj:Nat)(k:Dk Sx):TP:=fun P w=>∃S,DJ 0 w S bj b F n q k/\∀i,P i↔(S i\/i=bj)
end
section
variable {P:Nat->Prop}{w w':World}
section
variable {A:Option Addr}{base e k n c bv bm j i g pp bw:Nat}{x:Meta.Mem}{m:Meta.Met}{xs rest:List qak}{y:Rm}{s:PS}
theorem At.and {Q:Nat->Prop}(h:At P A)(h2:At Q A):At (fun i=>P i/\Q i) A:=fun a ha=>⟨h a ha,h2 a ha⟩
theorem XI(h:w.ownsRow base e k (.slice A n c) n xs):At (· <w.heap.size) A:=fun a ha=>by
 subst ha
 rcases h.2 with⟨h4,_⟩|⟨q2,cap2,JF,h4,_,hc2,_⟩
 ·cases h4
 ·injection h4 with h4
  injection h4 with h4
  subst h4
  exact XZ hc2
theorem Xq(h:w.ownsRow base e k (.slice A n c) n xs)(hA:At P A)(hk:∀i,P i->w'.heap[i]? =w.heap[i]?):w'.ownsRow base e k (.slice A n c) n xs:=by
 refine⟨h.1,?_⟩
 rcases h.2 with h2|⟨g,cap,cur,h1,hb,hc,h3⟩
 ·exact .inl h2
 ·refine .inr ⟨g,cap,cur,h1,hb,?_,h3⟩
  injection h1 with h1
  rw[hk g (hA _ h1)]
  exact hc
theorem Y1.frame (h:Y1 w base x m)(h1:At P x.rA)(h2:At P x.oA)(h3:At P x.uA)(h4:At P x.iA)(hk:∀i,P i->w'.heap[i]? =w.heap[i]?):Y1 w' base x m:=
 ⟨Xq h.rows h1 hk,Xq h.own h2 hk,Xq h.used h3 hk,Xq h.ino h4 hk⟩
theorem Vs.frame (h:Vs P w bv x m bm rest)(hk:∀i,P i->w'.heap[i]? =w.heap[i]?):Vs P w' bv x m bm rest:=
 ⟨(hk bv h.pv).trans h.box,Y1.frame h.met h.pr h.po h.pu h.pi hk,h.pv,h.pr,h.po,h.pu,h.pi⟩
theorem Vs.bound (h:Vs P w bv x m bm rest):Vs (fun i=>P i/\i<w.heap.size) w bv x m bm rest:=
 ⟨h.box,h.met,⟨h.pv,h.box.lt⟩,h.pr.and (XI h.met.rows),h.po.and (XI h.met.own),h.pu.and (XI h.met.used),h.pi.and (XI h.met.ino)⟩
theorem Rv.frame (h:Rv j i g pp P w bw y s)(hk:∀i,P i->w'.heap[i]? =w.heap[i]?):Rv j i g pp P w' bw y s:=
 ⟨(hk bw h.pw).trans h.box,Y1.frame h.met h.pr h.po h.pu h.pi hk,Xq h.bs h.pb hk,Xq h.ds h.pd hk,h.pw,h.pr,h.po,h.pu,h.pi,h.pb,h.pd⟩
theorem Rv.bound (h:Rv j i g pp P w bw y s):Rv j i g pp (fun i=>P i/\i<w.heap.size) w bw y s:=
 ⟨h.box,h.met,h.bs,h.ds,⟨h.pw,h.box.lt⟩,h.pr.and (XI h.met.rows),h.po.and (XI h.met.own),h.pu.and (XI h.met.used),h.pi.and (XI h.met.ino),h.pb.and (XI h.bs),h.pd.and (XI h.ds)⟩
end
end
theorem dx(j i g pp bv b bj bm:Nat)(be:qak)(A:Option Addr)(c:Nat)(dead:Bool)(base:Nat->List UInt8)(s:PS):XH (Vl j i g pp bv b bj bm be A c dead base s):=⟨fun _ _ _ ⟨x,at_,there,n,h1,h2,h3,h4⟩ hk _=>
 ⟨x,at_,there,n,h1.frame hk,h2.keep (hk bm h3),h3,h4⟩⟩
theorem vU(j i g pp bw:Nat)(s:PS):XH (Rl j i g pp bw s):=⟨fun _ _ _ ⟨y,h⟩ hk _=>⟨y,h.frame hk⟩⟩
theorem Qm(F n q b bj:Nat)(k:Dk Sx):XH (Dl F n q b bj k):=⟨fun _ _ _ ⟨S,h,hP⟩ hk _=>⟨S,⟨h.disk.keep (fun i hi=>hk i ((hP i).2 (.inl hi))),(hk bj ((hP bj).2 (.inr rfl))).trans h.jb,h.off,h.lo,h.jlo⟩,hP⟩⟩
section
variable {j i g pp bv b bj bm c:Nat}{be:qak}{A:Option Addr}{dead:Bool}{base:Nat->List UInt8}{s:PS}{P:Nat->Prop}{w w':World}
theorem Zn{x:Meta.Mem}{at_:Int->Sx}{there:Int->Bool}{n:Nat}(h:VM P w w' bv bm x s.m (ZZ j i g pp b bj be A c dead) at_ there n)(hr:Fa (g*pp) s base at_ there n):Nx (Vl j i g pp bv b bj bm be A c dead base s) P w w':=
 ⟨_,⟨x,at_,there,n,h.vs.bound,h.map,⟨h.pm,h.map.lt⟩,hr⟩,h.kept,fun _ hi=>hi⟩
theorem YQ{bw:Nat}{y:Rm}(h:RM j i g pp P w w' bw y s):Nx (Rl j i g pp bw s) P w w':=
 ⟨_,⟨y,h.rv.bound⟩,h.kept,fun _ hi=>hi⟩
end
end Go.Proofs.YtmehhgfbnfbnaaaGreat.Zl

namespace Go.Proofs.YtmehhgfbnfbnaaaGreat.Zl
open Go.RowKit Zq Meta Apart
section
variable {j i g pp bv b bj bm c:Nat}{be:qak}{A:Option Addr}{dead:Bool}{base:Nat->List UInt8}{s:PS}{P:Nat->Prop}{w:World}
section
variable {s:PS}{k:Nat}{nd:Z9.ZC}
theorem kJ(Za:VG j i g pp)(h:Vl j i g pp bv b bj bm be A c dead base s P w)(hp:Yb j i g pp s)(a:Nat):
  qai Tryz.prog 39 #[.pointer bv,.int .u16 a] w fun e w'=>e=.returned (.tuple #[.int .i64 ((Zi pp s a).2.1:Int),.int .i64 ((Zi pp s a).2.2:Int)])/\Nx (Vl j i g pp bv b bj bm be A c dead base (Zi pp s a).1) P w w':=by
 obtain⟨x,at_,there,n,h1,h2,h3,h4⟩:=h
 have hv:=VM.start h1 h2 h3
 unfold Zi
 cases hu:OZ pp s.m a with
 |some n0=>
  obtain⟨h5,-,-⟩:=Fy hp.ord hu
  have V8:=hp.ord.gp
  refine(KN Za hv a n0 hp.ord.rl hp.ord.ol hp.ord.ul hp.ord.own hu (by omega)).mono ?_
  rintro e w' ⟨he,x',h6⟩
  exact⟨he,Zn (s:={s with m:=Yy s.m n0}) h6 (h4.known _)⟩
 |none=>
  cases hq:TL s.m.own with
  |none=>
   refine(CU Za hv a hp.ord.rl hp.ord.ol hp.ord.ul hp.ord.own hu hq).mono ?_
   rintro e w' ⟨he,h6⟩
   exact⟨he,Zn h6 h4⟩
  |some q=>
   simp only
   split
   ·next h0=>
    have hlt:=SV hp.ord.right.rows h0
    refine(KL Za hv a q hp.ord.rl hp.ord.ol hp.ord.ul hp.ord.own hu hq h0 (by omega)).mono ?_
    rintro e w' ⟨he,x',h6⟩
    exact⟨he,Zn (s:={s with m:=Yy (YA s.m a q) (q*pp)}) h6 (h4.known _)⟩
   ·next h0=>
    refine(xz Za hv a q hp.ord.rl hp.ord.ol hp.ord.ul hp.ord.own hu hq h0).mono ?_
    exact zgq1
theorem cK(Za:VG j i g pp)(h:Vl j i g pp bv b bj bm be A c dead base s P w)(hp:Yb j i g pp s)(a:Int):
  qai Tryz.prog 42 #[.pointer bv,a] w fun e w'=>e=.returned (.int .i64 ((WC g pp s a).2:Int))/\Nx (Vl j i g pp bv b bj bm be A c dead base (WC g pp s a).1) P w w':=by
 obtain⟨x,at_,there,n,h1,h2,h3,h4⟩:=h
 have hv:=VM.start h1 h2 h3
 have hle:=h4.le
 have V8:=hp.ord.gp
 unfold WC
 by_cases hr:0<=a/\a<((g*pp:Nat):Int)
 ·rw[if_pos hr]
  obtain⟨k,rfl⟩:=qaa hr.1
  rw[qac]
  have hk:k<g*pp:=by omega
  cases hb:Bits.hb s.m.used k with
  |true=>
   obtain⟨y,e1,e2,e3,e4,e5⟩:=hp.ord.rowOf hb
   simp only[if_true]
   refine(AQ Za hv (by have:=hp.dl;simp only[maxLen];omega) k (rowOf pp s.m k) y hk hb e1 e2 e5 hp.ord.rl hp.ord.ol hp.ord.ul (fun hu=>(hp.ord.last hb e1 hu).1)).mono ?_
   rintro e w' ⟨he,x',h6⟩
   have hrep:=h4.put hk hp.dl hp.bl (MI pp s.m k) (cx:=KJ y.lab e5) e4
   refine⟨he,Zn (s:=Rp pp s (MI pp s.m k) k ZF) (x:=x') ?_ hrep⟩
   exact h6
  |false=>
   simp only[qag,if_false]
   refine(xC Za hv k hk hb hp.ord.ul).mono ?_
   rintro e w' ⟨he,h6⟩
   exact⟨he,Zn h6 h4⟩
 ·rw[if_neg hr]
  refine(qg Za hv a (by rw[<-qaj];exact hr)).mono ?_
  exact zgq1
theorem AB(Za:VG j i g pp)(h:Vl j i g pp bv b bj bm be A c dead base s P w)(hp:Yb j i g pp s)(a:Int)(B0:Option Addr)(bn bc:Nat)(l:List UInt8)(hn:l.length=bn)(hrd:Rd w w.heap.size B0 (Z6 l)):
  qai Tryz.prog 43 #[.pointer bv,a,.slice B0 bn bc] w fun e w'=>e=.returned (.int .i64 ((YW g pp s a l).2:Int))/\Nx (Vl j i g pp bv b bj bm be A c dead base (YW g pp s a l).1) P w w':=by
 obtain⟨x,at_,there,n,h1,h2,h3,h4⟩:=h
 have hv:=VM.start h1 h2 h3
 have hle:=h4.le
 have V8:=hp.ord.gp
 unfold YW
 by_cases hr:0<=a/\a<((g*pp:Nat):Int)
 ·rw[if_pos hr]
  obtain⟨k,rfl⟩:=qaa hr.1
  rw[qac]
  have hk:k<g*pp:=by omega
  by_cases hl:l.length=64
  ·rw[if_pos hl]
   obtain rfl:bn=64:=by omega
   cases hb:Bits.hb s.m.used k with
   |true=>
    obtain⟨y,e1,e2,e3,e4,e5⟩:=hp.ord.rowOf hb
    simp only[if_true]
    obtain⟨gb,ob,rfl,hgb⟩:=YU hrd (by rw[Z4,hl];decide)
    have hra:w.rangeAt gb ob (Z6 l):=by
     rcases hrd with h0|⟨b9,o9,h9,h10,h11⟩
     ·rw[<-Z4,h0]at hl;cases hl
     ·cases h9
      intro q u hq
      exact h11 q u hq
    refine(qi Za hv (by have:=hp.dl;simp only[maxLen];omega) k (rowOf pp s.m k) y hk hb e1 e2 hp.ord.rl hp.ord.ol hp.ord.ul ⟨l,y.lab,hl,e5⟩ rfl gb ob bc hra).mono ?_
    rintro e w' ⟨he,h6⟩
    exact⟨he,Zn (s:=Rp pp s s.m k l) h6 (h4.put hk hp.dl hp.bl s.m (cx:=⟨l,y.lab,hl,e5⟩) e4)⟩
   |false=>
    simp only[qag,if_false]
    refine(CW Za hv k B0 bc hk hb hp.ord.ul).mono ?_
    rintro e w' ⟨he,h6⟩
    exact⟨he,Zn h6 h4⟩
  ·rw[if_neg hl]
   refine(xB Za hv k B0 bn bc (by omega) hk).mono ?_
   exact zgq1
 ·rw[if_neg hr]
  refine(KY Za hv a B0 bn bc (by rw[<-qaj];exact hr)).mono ?_
  exact zgq1
theorem cZ(h:Vl j i g pp bv b bj bm be A c dead base s P w)(hp:Yb j i g pp s)(k a:Nat):
  qai Tryz.prog 40 #[.pointer bv,.int .u8 k,.int .u16 a] w fun e w'=>e=.returned (.tuple #[.int .i64 ((YX s k a).2.1:Int),.int .i64 ((YX s k a).2.2:Int)])/\Nx (Vl j i g pp bv b bj bm be A c dead base (YX s k a).1) P w w':=by
 obtain⟨x,at_,there,n,h1,h2,h3,h4⟩:=h
 have hv:=VM.start h1 h2 h3
 have h64:=hp.ord.right.R5
 have hok:=hp.ord.Vk.ino
 unfold YX
 by_cases hk:k=1\/k=2
 ·rw[if_pos hk]
  cases hq:Vg s.m.ino with
  |none=>
   rcases hk with rfl|rfl
   ·refine(CS hv a hok h64 hq).mono ?_
    exact zgq1
   ·refine(CR hv a hok h64 hq).mono ?_
    exact zgq1
  |some q=>
   simp only
   split
   ·next h0=>
    have hlt:=SV hp.ord.right.rows h0
    rcases hk with rfl|rfl
    ·refine(qa hv a hok h64 q hq h0 hlt).mono ?_
     exact zgq0
    ·refine(pY hv a hok h64 q hq h0 hlt).mono ?_
     exact zgq0
   ·next h0=>
    rcases hk with rfl|rfl
    ·refine(xq hv a hok h64 q hq h0).mono ?_
     exact zgq1
    ·refine(xm hv a hok h64 q hq h0).mono ?_
     exact zgq1
 ·rw[if_neg hk]
  refine(xu hv k a (fun e=>hk (.inl e)) (fun e=>hk (.inr e))).mono ?_
  exact zgq1
theorem ME{a:Int}(h:¬ (0<=a/\a<(s.m.ino.length:Int))):YM s a=(.z,0,1):=by
 unfold YM
 by_cases ha:0<=a
 ·rw[if_pos ha,List.getElem?_eq_none (by omega)]
 ·rw[if_neg ha]
theorem Uw(hk:s.m.ino[k]? =some nd)(h0:nd.k=0):YM s (k:Int)=(.z,0,2):=by
 unfold YM
 rw[if_pos (by omega),qac,hk]
 simp only
 rw[if_pos h0]
theorem SS(hk:s.m.ino[k]? =some nd)(h0:nd.k≠0):YM s (k:Int)=(nd,(s.m.rows.getD nd.r .z).lab,0):=by
 unfold YM
 rw[if_pos (by omega),qac,hk]
 simp only
 rw[if_neg h0]
theorem pO(h:Vl j i g pp bv b bj bm be A c dead base s P w)(hp:Yb j i g pp s)(a:Int):
  qai Tryz.prog 44 #[.pointer bv,a] w fun e w'=>e=.returned (.int .i64 ((Yw s a).2:Int))/\Nx (Vl j i g pp bv b bj bm be A c dead base (Yw s a).1) P w w':=by
 have hrel:=(hp.CQ a).2
 obtain⟨x,at_,there,n,h1,h2,h3,h4⟩:=h
 have hv:=VM.start h1 h2 h3
 have h64:=hp.ord.right.R5
 have hok:=hp.ord.Vk.ino
 unfold Yw
 by_cases hr:0<=a/\a<(s.m.ino.length:Int)
 ·obtain⟨k,rfl⟩:=qaa hr.1
  obtain⟨nd,hk⟩:∃nd,s.m.ino[k]? =some nd:=⟨_,qad (by omega)⟩
  by_cases hz:nd.k=0
  ·rw[Uw hk hz]
   simp only[qae,if_false]
   refine(Fu hv k nd hk hz hok h64).mono ?_
   exact zgq1
  ·rw[SS hk hz]at hrel⊢
   simp only[if_true,qac]at hrel⊢
   obtain⟨y,e1,e2⟩:=hp.ord.dn (List.mem_of_getElem? hk) hz
   refine(xg hv k nd y hk hz e1 hp.ord.rl hok h64 (hrel trivial)).mono ?_
   exact zgq0
 ·rw[ME hr]
  simp only[qae,if_false]
  refine(CP hv a hr).mono ?_
  exact zgq1
theorem T9{n:Z9.ZC}:Z9.ZP n=true↔Z9.Right n:=⟨fun h=>Classical.byContradiction (fun hx=>by rw[Z9.ZN hx]at h;cases h),Z9.ZW⟩
theorem pR(h:Vl j i g pp bv b bj bm be A c dead base s P w)(hp:Yb j i g pp s)(a:Int)(n:Z9.ZC)(hn:Z9.YP n):
  qai Tryz.prog 45 #[.pointer bv,a,.agg (Z9.ZX n).toArray] w fun e w'=>e=.returned (.int .i64 ((Yc s a n).2:Int))/\Nx (Vl j i g pp bv b bj bm be A c dead base (Yc s a n).1) P w w':=by
 obtain⟨x,at_,there,n2,h1,h2,h3,h4⟩:=h
 have hv:=VM.start h1 h2 h3
 have h64:=hp.ord.right.R5
 have hok:=hp.ord.Vk.ino
 obtain⟨k,rr,l,z,p⟩:=n
 obtain⟨p0,p1,p2,p3,p4,p5,p6,p7,p8,p9,MH⟩:=Z9.Xh hn.len
 simp only at MH
 subst MH
 unfold Yc
 by_cases hr:0<=a/\a<(s.m.ino.length:Int)
 ·obtain⟨q,rfl⟩:=qaa hr.1
  have Gf:q<s.m.ino.length:=by omega
  obtain⟨od,hod⟩:∃od,s.m.ino[q]? =some od:=⟨_,qad Gf⟩
  by_cases hR:Z9.Right ⟨k,rr,l,z,[p0,p1,p2,p3,p4,p5,p6,p7,p8,p9]⟩
  ·by_cases hk:k=0
   ·rw[if_neg (by rintro ⟨-,-,-,h0⟩;exact h0 hk)]
    refine(pX hv k rr l z p0 p1 p2 p3 p4 p5 p6 p7 p8 p9 hn q Gf hR hk).mono ?_
    exact zgq1
   ·rw[if_pos ⟨hr.1,hr.2,T9.2 hR,hk⟩]
    by_cases hz:od.k=0
    ·rw[Uw hod hz]
     simp only[qae,if_false]
     refine(pW hv k rr l z p0 p1 p2 p3 p4 p5 p6 p7 p8 p9 hn hok h64 q Gf hR hk od hod hz).mono ?_
     exact zgq1
    ·rw[SS hod hz]
     simp only[if_true,qac]
     by_cases hkk:k=od.k
     ·by_cases hrr:rr=od.r
      ·rw[if_pos ⟨hkk,hrr⟩]
       refine(J4 hv k rr l z p0 p1 p2 p3 p4 p5 p6 p7 p8 p9 hn hok h64 q Gf hR hk od hod hz hkk hrr).mono ?_
       rintro e w' ⟨he,h6⟩
       exact⟨he,Zn (s:={s with m:=_}) h6 (h4.known _)⟩
      ·rw[if_neg (fun e=>hrr e.2)]
       refine(kN hv k rr l z p0 p1 p2 p3 p4 p5 p6 p7 p8 p9 hn hok h64 q Gf hR hk od hod hz hkk hrr).mono ?_
       exact zgq1
     ·rw[if_neg (fun e=>hkk e.1)]
      refine(pV hv k rr l z p0 p1 p2 p3 p4 p5 p6 p7 p8 p9 hn hok h64 q Gf hR hk od hod hz hkk).mono ?_
      exact zgq1
  ·rw[if_neg (by rintro ⟨-,-,h0,-⟩;exact hR (T9.1 h0))]
   refine(kP hv k rr l z p0 p1 p2 p3 p4 p5 p6 p7 p8 p9 hn q Gf hR).mono ?_
   exact zgq1
 ·rw[if_neg (by rintro ⟨h1,h2,-⟩;exact hr ⟨h1,h2⟩)]
  refine(kQ hv k rr l z p0 p1 p2 p3 p4 p5 p6 p7 p8 p9 a hr).mono ?_
  exact zgq1
end
end
end Go.Proofs.YtmehhgfbnfbnaaaGreat.Zl

namespace Go.Proofs.YtmehhgfbnfbnaaaGreat.Zl
open Go.RowKit Zq Meta Apart
section
variable {j i g pp bw:Nat}{s:PS}{P:Nat->Prop}{w:World}
theorem Ua(h:Rl j i g pp bw s P w)(hb:Bd P w):Nx (Rl j i g pp bw s) P w w:=Nx.same h hb
theorem kI(h:Rl j i g pp bw s P w)(hp:Yb j i g pp s)(a:Nat):
  qai Tryz.prog 84 #[.pointer bw,.int .u16 a] w fun e w'=>e=.returned (.tuple #[.int .i64 ((Zi pp s a).2.1:Int),.int .i64 ((Zi pp s a).2.2:Int)])/\Nx (Rl j i g pp bw (Zi pp s a).1) P w w':=by
 obtain⟨y,h1⟩:=h
 refine(CG (RM.start h1) hp a).mono ?_
 exact zgq2
theorem cB(h:Rl j i g pp bw s P w)(hb:Bd P w)(hp:Yb j i g pp s)(a:Int):
  qai Tryz.prog 85 #[.pointer bw,a] w fun e w'=>e=.returned (.int .i64 ((WC g pp s a).2:Int))/\Nx (Rl j i g pp bw (WC g pp s a).1) P w w':=by
 have hs:=Ua h hb
 obtain⟨y,h1⟩:=h
 have hm:=RM.start h1
 have V8:=hp.ord.gp
 have hbl:=hp.bl
 have hdl:=hp.dl
 unfold WC
 by_cases hr:0<=a/\a<((g*pp:Nat):Int)
 ·rw[if_pos hr]
  obtain⟨k,rfl⟩:=qaa hr.1
  rw[qac]
  have hk:k<g*pp:=by omega
  cases hb2:Bits.hb s.m.used k with
  |true=>
   obtain⟨y0,e1,e2,e3,e4,e5⟩:=hp.ord.rowOf hb2
   simp only[if_true]
   obtain⟨q,hq⟩:∃q,k/pp=q:=⟨_,rfl⟩
   have hqg:q<g:=by rw[<-hq];exact(Nat.div_lt_iff_lt_mul hp.ord.xh).2 hk
   have EZ:(q:Int)*(pp:Int)+(pp:Int)<=512:=by
    have h3:(q+1)*pp<=g*pp:=Nat.mul_le_mul_right _ hqg
    rw[Nat.add_mul,Nat.one_mul]at h3
    rw[<-qaj]
    omega
   cases hu:X4 pp (Bits.wb s.m.used k false) q with
   |true=>
    refine(CF hm k (by omega) (by omega) hp.ord.ul (by omega) hb2 (Qw pp s.m k) q hp.ord.xh hq EZ hu).mono ?_
    rintro e w' ⟨he,y',h6⟩
    refine⟨he,YQ (y:=y') ?_⟩
    unfold Rp MI
    rw[hq,if_pos hu]
    exact h6
   |false=>
    rw[hq]at e1
    have hl:=(hp.ord.last (r:=rowOf pp s.m k) hb2 (by rw[hq];exact e1) (by rw[hq];exact hu)).1
    have Kg:=(List.getElem?_eq_some_iff.1 e2).1
    rw[hp.ord.rl]at Kg
    refine(CE hm k (by omega) (by omega) hp.ord.ul (by omega) hb2 (Qw pp s.m k) q hp.ord.xh hq EZ hu (rowOf pp s.m k) e1 hl hp.ord.rl Kg).mono ?_
    rintro e w' ⟨he,y',h6⟩
    refine⟨he,YQ (y:=y') ?_⟩
    unfold Rp MI RX
    rw[hq,hu]
    exact h6
  |false=>
   simp only[qag,if_false]
   refine(CB hm k (by omega) (by omega) hp.ord.ul hb2).mono ?_
   rintro e w' ⟨he,rfl⟩
   exact⟨he,hs⟩
 ·rw[if_neg hr]
  by_cases h0:a<0
  ·refine(wZ hm a h0).mono ?_
   exact zgq4
  ·refine(wY hm a h0 (by omega)).mono ?_
   exact zgq4
theorem AA(h:Rl j i g pp bw s P w)(hb:Bd P w)(hp:Yb j i g pp s)(a:Int)(B0:Option Addr)(bn bc:Nat)(l:List UInt8)(hn:l.length=bn)(hrd:Rd w w.heap.size B0 (Z6 l)):
  qai Tryz.prog 86 #[.pointer bw,a,.slice B0 bn bc] w fun e w'=>e=.returned (.int .i64 ((YW g pp s a l).2:Int))/\Nx (Rl j i g pp bw (YW g pp s a l).1) P w w':=by
 have hs:=Ua h hb
 obtain⟨y,h1⟩:=h
 have hm:=RM.start h1
 have V8:=hp.ord.gp
 have hbl:=hp.bl
 have hdl:=hp.dl
 unfold YW
 by_cases hr:0<=a/\a<((g*pp:Nat):Int)
 ·rw[if_pos hr]
  obtain⟨k,rfl⟩:=qaa hr.1
  rw[qac]
  have hk:k<g*pp:=by omega
  by_cases hl:l.length=64
  ·rw[if_pos hl]
   obtain rfl:bn=64:=by omega
   cases hb2:Bits.hb s.m.used k with
   |true=>
    simp only[if_true]
    refine(wX hm k B0 bc (by omega) (by omega) hp.ord.ul (by omega) hb2 (Qw pp s.m k) l hl hrd).mono ?_
    rintro e w' ⟨he,h6⟩
    exact⟨he,YQ (y:=y) h6⟩
   |false=>
    simp only[qag,if_false]
    refine(Fq hm k B0 bc (by omega) (by omega) hp.ord.ul hb2).mono ?_
    rintro e w' ⟨he,rfl⟩
    exact⟨he,hs⟩
  ·rw[if_neg hl]
   refine(Cz hm k B0 bn bc (by omega) (by omega)).mono ?_
   exact zgq4
 ·rw[if_neg hr]
  by_cases h0:a<0
  ·refine(Cy hm a B0 bn bc h0).mono ?_
   exact zgq4
  ·refine(Cx hm a B0 bn bc h0 (by omega)).mono ?_
   exact zgq4
theorem cO(h:Rl j i g pp bw s P w)(hb:Bd P w)(hp:Yb j i g pp s)(k a:Nat):
  qai Tryz.prog 87 #[.pointer bw,.int .u8 k,.int .u16 a] w fun e w'=>e=.returned (.tuple #[.int .i64 ((YX s k a).2.1:Int),.int .i64 ((YX s k a).2.2:Int)])/\Nx (Rl j i g pp bw (YX s k a).1) P w w':=by
 have hs:=Ua h hb
 obtain⟨y,h1⟩:=h
 have hm:=RM.start h1
 by_cases hk:k=1\/k=2
 ·rcases hk with rfl|rfl
  ·refine(bZ hm hp a).mono ?_
   exact zgq2
  ·refine(bY hm hp a).mono ?_
   exact zgq2
 ·unfold YX
  rw[if_neg hk]
  refine(Cw k a (fun e=>hk (.inl e)) (fun e=>hk (.inr e))).mono ?_
  exact zgq4
theorem I7(h:Rl j i g pp bw s P w)(hp:Yb j i g pp s)(a:Int):
  qai Tryz.prog 29 #[.pointer bw,a] w fun e w'=>e=.returned (.tuple #[.agg (Z9.ZX (YM s a).1).toArray,.int .u16 ((YM s a).2.1:Int),.int .i64 ((YM s a).2.2:Int)])/\Nx (Rl j i g pp bw s) P w w':=by
 obtain⟨y,h1⟩:=h
 have hm:=RM.start h1
 have h64:=hp.ord.right.R5
 have hok:=hp.ord.Vk.ino
 by_cases hr:0<=a/\a<(s.m.ino.length:Int)
 ·obtain⟨k,rfl⟩:=qaa hr.1
  obtain⟨nd,hk⟩:∃nd,s.m.ino[k]? =some nd:=⟨_,qad (by omega)⟩
  by_cases hz:nd.k=0
  ·rw[Uw hk hz]
   refine(MF hm (k:Int) 2 (fun u hu=>by have:=SE hu k nd hk hok h64;rwa[if_pos hz]at this) (by decide)).mono ?_
   exact zgq3
  ·rw[SS hk hz]
   obtain⟨y0,e1,e2⟩:=hp.ord.dn (List.mem_of_getElem? hk) hz
   rw[Z8.getD_at e1]
   refine(wW hm hp k nd y0 hk hz e1).mono ?_
   exact zgq3
 ·rw[ME hr]
  refine(MF hm a 1 (fun u hu=>Fp hu a hr) (by decide)).mono ?_
  exact zgq3
theorem pM(h:Rl j i g pp bw s P w)(hb:Bd P w)(hp:Yb j i g pp s)(a:Int):
  qai Tryz.prog 88 #[.pointer bw,a] w fun e w'=>e=.returned (.int .i64 ((Yw s a).2:Int))/\Nx (Rl j i g pp bw (Yw s a).1) P w w':=by
 have hrel:=(hp.CQ a).2
 have hs:=Ua h hb
 obtain⟨y,h1⟩:=h
 have hm:=RM.start h1
 have h64:=hp.ord.right.R5
 have hok:=hp.ord.Vk.ino
 unfold Yw
 by_cases hr:0<=a/\a<(s.m.ino.length:Int)
 ·obtain⟨k,rfl⟩:=qaa hr.1
  obtain⟨nd,hk⟩:∃nd,s.m.ino[k]? =some nd:=⟨_,qad (by omega)⟩
  by_cases hz:nd.k=0
  ·rw[Uw hk hz]
   simp only[qae,if_false]
   refine(OY (k:Int) 2 (by have:=SE hm k nd hk hok h64;rwa[if_pos hz]at this) (by decide)).mono ?_
   exact zgq4
  ·rw[SS hk hz]at hrel⊢
   simp only[if_true,qac]at hrel⊢
   refine(Cv hm hp k nd hk hz (hrel trivial)).mono ?_
   exact zgq2
 ·rw[ME hr]
  simp only[qae,if_false]
  refine(OY a 1 (Fp hm a hr) (by decide)).mono ?_
  exact zgq4
theorem pQ(h:Rl j i g pp bw s P w)(hp:Yb j i g pp s)(a:Int)(n:Z9.ZC)(hn:Z9.YP n):
  qai Tryz.prog 89 #[.pointer bw,a,.agg (Z9.ZX n).toArray] w fun e w'=>e=.returned (.int .i64 ((Yc s a n).2:Int))/\Nx (Rl j i g pp bw (Yc s a n).1) P w w':=by
 obtain⟨y,h1⟩:=h
 have hm:=RM.start h1
 have hok:=hp.ord.Vk.ino
 obtain⟨k,rr,l,z,p⟩:=n
 obtain⟨p0,p1,p2,p3,p4,p5,p6,p7,p8,p9,MH⟩:=Z9.Xh hn.len
 simp only at MH
 subst MH
 unfold Yc
 by_cases hr:0<=a/\a<(s.m.ino.length:Int)
 ·obtain⟨q,rfl⟩:=qaa hr.1
  have Gf:q<s.m.ino.length:=by omega
  obtain⟨od,hod⟩:∃od,s.m.ino[q]? =some od:=⟨_,qad Gf⟩
  by_cases hR:Z9.Right ⟨k,rr,l,z,[p0,p1,p2,p3,p4,p5,p6,p7,p8,p9]⟩
  ·by_cases hk:k=0
   ·rw[if_neg (by rintro ⟨-,-,-,h0⟩;exact h0 hk)]
    refine(wV hm k rr l z p0 p1 p2 p3 p4 p5 p6 p7 p8 p9 hn q Gf hR hk).mono ?_
    exact zgq3
   ·rw[if_pos ⟨hr.1,hr.2,T9.2 hR,hk⟩]
    by_cases hz:od.k=0
    ·rw[Uw hod hz]
     simp only[qae,if_false]
     refine(wU hm k rr l z p0 p1 p2 p3 p4 p5 p6 p7 p8 p9 hn q Gf hR hk od hod hok hz).mono ?_
     exact zgq3
    ·rw[SS hod hz]
     simp only[if_true,qac]
     by_cases hkk:k=od.k
     ·by_cases hrr:rr=od.r
      ·rw[if_pos ⟨hkk,hrr⟩]
       refine(kH hm k rr l z p0 p1 p2 p3 p4 p5 p6 p7 p8 p9 hn q Gf hR hk od hod hok hz hkk hrr).mono ?_
       exact zgq3
      ·rw[if_neg (fun e=>hrr e.2)]
       refine(pJ hm k rr l z p0 p1 p2 p3 p4 p5 p6 p7 p8 p9 hn q Gf hR hk od hod hok hz hkk hrr).mono ?_
       exact zgq3
     ·rw[if_neg (fun e=>hkk e.1)]
      refine(wT hm k rr l z p0 p1 p2 p3 p4 p5 p6 p7 p8 p9 hn q Gf hR hk od hod hok hz hkk).mono ?_
      exact zgq3
  ·rw[if_neg (by rintro ⟨-,-,h0,-⟩;exact hR (T9.1 h0))]
   refine(pI hm k rr l z p0 p1 p2 p3 p4 p5 p6 p7 p8 p9 hn q Gf hR).mono ?_
   exact zgq3
 ·rw[if_neg (by rintro ⟨h1,h2,-⟩;exact hr ⟨h1,h2⟩)]
  by_cases h0:a<0
  ·refine(pG hm k rr l z p0 p1 p2 p3 p4 p5 p6 p7 p8 p9 a h0).mono ?_
   exact zgq3
  ·refine(pF hm k rr l z p0 p1 p2 p3 p4 p5 p6 p7 p8 p9 a h0 (by omega)).mono ?_
   exact zgq3
end
end Go.Proofs.YtmehhgfbnfbnaaaGreat.Zl

namespace Go.Proofs.YtmehhgfbnfbnaaaGreat.Zl
open Go.RowKit Go.ChangeShapes Go.WideShapes Go.ChangeAt Go.Deep Go.Joins Meta
structure VA where
 k:Nat
 at_:Int
 lab:Nat
 c:Nat
 A:Option Addr
 cap:Nat
 b:List UInt8
 m:Z9.ZC
 th:Nat
def VA.z:VA:=⟨0,0,0,0,none,0,[],.z,0⟩
def ZQ(a:VA):List qak:=[.int .u8 a.k,.int .i64 a.at_,.int .u16 a.lab,.int .u8 a.c,.slice a.A a.b.length a.cap]++Z9.ZX a.m++[.int .u64 a.th]
structure wQ(W:World)(a:VA):Prop where
 k:a.k<256
 at_: -9223372036854775808<=a.at_/\a.at_<=9223372036854775807
 lab:a.lab<65536
 c:a.c<256
 cap:a.b.length<=a.cap/\a.cap<=maxLen
 b:Rd W W.heap.size a.A (Z6 a.b)
 m:Z9.YP a.m
 th:a.th<18446744073709551616
theorem Fj{α:Type}{l:List α}(h:l.length=20):∃c0 c1 c2 c3 c4 c5 c6 c7 c8 c9 c10 c11 c12 c13 c14 c15 c16 c17 c18 c19,l=[c0,c1,c2,c3,c4,c5,c6,c7,c8,c9,c10,c11,c12,c13,c14,c15,c16,c17,c18,c19]:=by
 match l,h with
 |[c0,c1,c2,c3,c4,c5,c6,c7,c8,c9,c10,c11,c12,c13,c14,c15,c16,c17,c18,c19],_=>exact⟨c0,c1,c2,c3,c4,c5,c6,c7,c8,c9,c10,c11,c12,c13,c14,c15,c16,c17,c18,c19,rfl⟩
theorem ku{n:Int}(h:(Lit.int .u64 n).wf=true):∃m:Nat,n=(m:Int)/\m<18446744073709551616:=by
 have:=bounds_u64 h
 exact⟨n.toNat,by omega,by omega⟩
theorem bM:Tryz.prog.underlying 43=some (.struct (Tryz.prog.fieldsOf 43)):=by kernel_rfl
theorem bK:Tryz.prog.cellsOf 43=20:=by kernel_rfl
theorem kr:Tryz.prog.cellsOf 41=1:=by kernel_rfl
section
variable {H:Type}{enc:TypeId × qak->H}{W:World}
theorem kg(fuel:Nat)(cs:List qak)(d:DataW H)(p:List MemPlace)(hcl:cs.length=20)(hlt:∀y∈p,y.block<W.heap.size)(h:qaf enc Tryz.prog W 0 (fun _=>true) true fuel 43 cs=some (d,p)):∃x:VA,cs=ZQ x/\wQ W x:=by
 have hl:(Tryz.prog.fieldsOf 43).toList.length=7:=by kernel_rfl
 have hm:(Tryz.prog.fieldsOf 43).toList.map (fun f=>(f.type,f.offset))=[(5,0),(3,1),(36,2),(5,3),(37,4),(40,5),(41,19)]:=by kernel_rfl
 obtain⟨f0,f1,f2,f3,f4,f5,f6,e⟩:=TZ hl
 have e':Tryz.prog.fieldsOf 43= #[f0,f1,f2,f3,f4,f5,f6]:=by rw[<-Array.toList_inj];exact e
 rw[e]at hm
 simp only[List.map_cons,List.map_nil,List.cons.injEq,Prod.mk.injEq,and_true]at hm
 obtain⟨⟨t0,o0⟩,⟨t1,o1⟩,⟨t2,o2⟩,⟨t3,o3⟩,⟨t4,o4⟩,⟨t5,o5⟩,t6,o6⟩:=hm
 have hs:Tryz.prog.underlying 43=some (.struct #[f0,f1,f2,f3,f4,f5,f6]):=by rw[bM,e']
 have cells5:=TY.1
 have cells3:=TY.2.1
 have j6:=TY.2.2.2.1
 have j5:=TY.2.2.2.2.1
 have jZ:=TY.2.2.2.2.2.1
 obtain⟨c0,c1,c2,c3,c4,c5,c6,c7,c8,c9,c10,c11,c12,c13,c14,c15,c16,c17,c18,c19,rfl⟩:=Fj hcl
 obtain⟨xs,n,_,hx,_,hlen,hfs⟩:=DataW.trod_struct hs h
 obtain⟨y0,y1,y2,y3,y4,y5,y6,rfl⟩:=TZ (show xs.length=7 by simpa using hlen)
 simp only[Prod.mk.injEq]at hx
 have h0:=hfs 0 f0 rfl
 have h1:=hfs 1 f1 rfl
 have h2:=hfs 2 f2 rfl
 have h3:=hfs 3 f3 rfl
 have h4:=hfs 4 f4 rfl
 have h5:=hfs 5 f5 rfl
 have h6:=hfs 6 f6 rfl
 rw[t0,o0,cells5]at h0
 rw[t1,o1,cells3]at h1
 rw[t2,o2,jZ]at h2
 rw[t3,o3,cells5]at h3
 rw[t4,o4,j5]at h4
 rw[t5,o5,j6]at h5
 rw[t6,o6,kr]at h6
 have h0:qaf enc Tryz.prog W 0 (fun _=>true) true n 5 [c0]=some y0:=h0
 have h1:qaf enc Tryz.prog W 0 (fun _=>true) true n 3 [c1]=some y1:=h1
 have h2:qaf enc Tryz.prog W 0 (fun _=>true) true n 36 [c2]=some y2:=h2
 have h3:qaf enc Tryz.prog W 0 (fun _=>true) true n 5 [c3]=some y3:=h3
 have h4:qaf enc Tryz.prog W 0 (fun _=>true) true n 37 [c4]=some (y4.1,y4.2):=h4
 have h5:qaf enc Tryz.prog W 0 (fun _=>true) true n 40 [c5,c6,c7,c8,c9,c10,c11,c12,c13,c14,c15,c16,c17,c18]=some (y5.1,y5.2):=h5
 have h6:qaf enc Tryz.prog W 0 (fun _=>true) true n 41 [c19]=some y6:=h6
 obtain⟨k,hk,_,wk⟩:=qah Tryz.underlying5 h0
 obtain⟨a,ha,_,wa⟩:=qah Tryz.underlying3 h1
 obtain⟨b,hb,_,wb⟩:=qah Tryz.underlying36 h2
 obtain⟨c,hc,_,wc⟩:=qah Tryz.underlying5 h3
 obtain⟨t,ht,_,wt⟩:=qah Tryz.underlying41 h6
 obtain⟨A2,n2,cc2,l2,rfl,d1,d2,d3,d4,_,_⟩:=open_list Tryz.underlying37 TY.1 (by omega) (fun x:UInt8=>[XG x]) 0 (fun _=>True) bH h4 (fun x hx4=>hlt x (by rw[hx.2];simp[hx4]))
 obtain⟨mi,hmi,hoi⟩:=jY n _ _ _ rfl (fun x hx5=>hlt x (by rw[hx.2];simp[hx5])) h5
 obtain⟨k',rfl,bk⟩:=Mx wk
 obtain⟨b',rfl,bb⟩:=jX wb
 obtain⟨c',rfl,bc⟩:=Mx wc
 obtain⟨t',rfl,bt⟩:=ku wt
 have ba:=bounds_i64 wa
 have ba2: -9223372036854775808<=a/\a<=9223372036854775807:=⟨by omega,by omega⟩
 subst d1
 simp only[List.cons.injEq,and_true]at hk ha hb hc ht
 refine⟨⟨k',a,b',c',A2,cc2,l2,mi,t'⟩,?_,bk,ba2,bb,bc,⟨d2,d3⟩,by rw[Fh];exact d4,hoi,bt⟩
 unfold ZQ
 rw[<-hmi,hk,ha,hb,hc,ht]
 rfl
end
end Go.Proofs.YtmehhgfbnfbnaaaGreat.Zl

namespace Go.Proofs.YtmehhgfbnfbnaaaGreat.Zl
open Go.RowKit Zq Meta Apart
theorem pK{c:UInt8}{k:Nat}(h:k<64):(qab k c++qab (64-k) 0).set k c=qab (k+1) c++qab (64-(k+1)) 0:=by
 rw[List.set_append_right _ _ (by simp),List.length_replicate,Nat.sub_self]
 obtain⟨q,hq⟩:∃q,64-k=q+1:=⟨63-k,by omega⟩
 rw[hq,show 64-(k+1)=q by omega,List.replicate_succ,List.set_cons_zero,List.replicate_succ']
 simp
theorem CJ(c:UInt8)(w:World):qai Tryz.prog 37 #[.int .u8 c.toNat] w fun e w'=>∃g,e=.returned (.slice (some ⟨g,0,none⟩) 64 64)/\Bk w' g 5 (Z6 (qab 64 c))/\w.heap.size<=g/\Below w.heap.size w w':=by
 obtain⟨Z,hZ⟩:∃Z:Array qak,Z=(Z6 (qab 64 0)).toArray:=⟨_,rfl⟩
 have hmk:(Instr.makeSlice 37 (.int .i64 64) (.int .i64 64)).run Tryz.prog w=.ok (.slice w.heap.size 64 64) (w.alloc (.cells Z 5)):=by
  rw[hZ]
  exact YD 64 (by decide) w
 have HB0:Hid (Bk (w.alloc (.cells Z 5)) w.heap.size 5 (Z6 (qab 0 c++qab (64-0) 0))):=χ (by rw[hZ];exact Bk.new _ _ _)
 have VJ:Hid (Below w.heap.size w (w.alloc (.cells Z 5))):=χ (Z0 w _)
 clear hZ
 go_enter Tryz.func37,Tryz.ntmps37
 go_wp2
 generalize w.alloc (.cells Z 5)=w1 at*
 go_loopw [4,8] (fun _ kc wr=>∃k:Nat,kc=.int .i64 k/\k<=64/\Hid (Bk wr w.heap.size 5 (Z6 (qab k c++qab (64-k) 0)))/\Hid (Below w.heap.size w wr)) (fun _ kc _=>64-(intOf kc).toNat)
 case atStart=>exact⟨0,rfl,Nat.zero_le _,HB0,VJ⟩
 case round=>
  clear HB0 VJ
  obtain⟨k,rfl,hk,HB,HW⟩:=hrel
  by_cases hlt:k<64
  ·have V7:(k:Int)<64:=by omega
   have h00:(0:Int)<=(k:Int):=by omega
   have hwk:IntKind.i64.wrap ((k:Int)+1)=((k+1:Nat):Int):=by rw[IntKind.wrap_i64];omega
   have hcell:=HB.out.cell k
   obtain⟨zv,hz⟩:∃zv,(Z6 (qab k c++qab (64-k) 0))[k]? =some zv:=⟨_,qad (by simp[Z4];omega)⟩
   rw[hz]at hcell
   have hfz:=HB.out.frozen k
   have HB1:Hid (Bk (wr.setCell ⟨w.heap.size,k,none⟩ (.int .u8 c.toNat)) w.heap.size 5 (Z6 (qab (k+1) c++qab (64-(k+1)) 0))):=χ (by
    have:=HB.out.set k (.int .u8 c.toNat)
    rw[LA]at this
    rwa[pK hlt]at this)
   have HW1:Hid (Below w.heap.size w (wr.setCell ⟨w.heap.size,k,none⟩ (.int .u8 c.toNat))):=χ (HW.out.trans ((YY wr w.heap.size k _).below (fun i hi=>by have hi:i=w.heap.size:=hi;omega) HW.out.size))
   clear hz
   go_wp2
   generalize wr.setCell ⟨w.heap.size,k,none⟩ (.int .u8 c.toNat)=w2 at*
   go_roundw
   case rel=>exact⟨k+1,by first|rfl|(congr 1),hlt,HB1,HW1⟩
   case measure=>simp[intOf];omega
  ·obtain rfl:k=64:=by omega
   go_wp2
   go_ret
   exact⟨_,rfl,by simpa using HB.out,Nat.le_refl _,HW.out⟩
end Go.Proofs.YtmehhgfbnfbnaaaGreat.Zl
