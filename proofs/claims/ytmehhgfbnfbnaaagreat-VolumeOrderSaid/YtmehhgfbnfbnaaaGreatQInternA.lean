import Derived.Test.YtmehhgfbnfbnaaaGreatQF
import Derived.Test.YtmehhgfbnfbnaaaGreatQTk
import Derived.Deep.WholeRow
import Derived.Laws.OwnMore
set_option maxRecDepth 100000
set_option maxHeartbeats 25600000
open List renaming getElem?_eq_some_iff->qaa,getElem?_eq_getElem->qab,findIdx?_eq_some_iff_getElem->qae,findIdx?_eq_none_iff->qak,length_set->qan
open Nat renaming lt_of_lt_of_le->qac,zero_le->qai,le_trans->qaq,le_refl->qat
open Go renaming World->qad,Calls->qah,Addr->qaj,Value->qap,run_underlying->qau,TypeId->qav
open Go.RowKit renaming Below->qaf
open Int renaming natCast_nonneg->qag
open Go.World renaming drewN_drewN->qal
open Classical renaming propDecidable->qam
open Go.Builtin renaming append_->qao,firstCells->qas,lenOf->qaw
open Go.RowKit.Below renaming refl->qar
namespace Go.Proofs.YtmehhgfbnfbnaaaGreat
theorem zt0{P:Prop}(h:P:=by
 have mJ:Hid (∀(m:Nat) r,m<k+1->l[m]? =some r->fits r=true/\∀(t:Nat) s,t<m->l[t]? =some s->¬ clash r s):=χ fun m r hm hs=>by
   by_cases e:m=k
   · subst e
     rw[HR.out]at hs
     injection hs with hs
     subst hs
     exact⟨hfit,fun t s ht hs=>Hk.out t s ht hs⟩
   · exact Hf.out m r (by omega) hs
 go_wp2
 go_roundw
 case rel=>exact⟨k+1,by omega,by go_num,mJ,q2,rfl⟩
 case measure=>simp[intOf];omega):P:=h
theorem zt1{P:Prop}(h:P:=by
 go_wp2_with (go_at_call 227;(with_reducible refine(YS l _ 16 c _ _ Hn.out (Hr.out.drewN q)).mono ?_);rintro e w1 ⟨he,q1,hw1⟩;obtain rfl:=he;rw[hb];subst hw1)
 go_roundw
 case rel=>exact⟨j+1,by omega,by go_num,mJ,q+q1,by first|rfl|rw[qal]⟩
 case measure=>simp[intOf];omega):P:=h
theorem zt2{P:Prop}(h:P:=by
 clear h
 go_enter Tryz.func180,Tryz.ntmps180
 go_wp2_with (go_at_call 38;(with_reducible refine(Zb l _ 16 c _ Hn.out Hr.out).mono ?_);rintro e w1 ⟨he,hb1⟩;obtain rfl:=he;rw[hb];have HB1:=χ hb1;clear hb1)
 go_ret2
 exact Ye HP.out HB1.out):P:=h
theorem zt3{P:Prop}(h:P:=by
 have hR:¬ Right l:=fun h=>by have:=h.fits j _ HR.out;rw[hfit]at this;cases this
 have HR2:=χ hR
 clear hR
 go_wp2
 go_ret
 exact⟨YG (ZN HR2.out).symm,q,rfl⟩):P:=h
theorem zt4{P:Prop}(h:P:=by
 go_wp2
 go_quiet (fail)
 go_wp2
 go_roundw
 case rel=>exact⟨k+1,by omega,by go_num,Hk2,q2+nq,rfl⟩
 case measure=>simp[intOf];omega):P:=h
theorem zt5{P:Prop}(h:P:=by
 have HD:=χ hd
 clear hd
 go_wp2
 go_ret
 exact⟨Uj (by rw[HD.out];rfl),Hb.out⟩):P:=h
theorem zt6{P:Prop}(h:P:=by
 exact⟨0,qai _,rfl,χ (fun k s hk=>by omega),qar _ _⟩):P:=h
theorem zt7{P:Prop}(h:P:=by
 exact⟨j+1,by omega,by go_num,Wy,HB2.out⟩):P:=h
theorem zt8{P:Prop}(h:P:=by
 go_wp2
 go_ret
 exact⟨rfl,rfl⟩):P:=h
end Go.Proofs.YtmehhgfbnfbnaaaGreat
namespace Go.Proofs.YtmehhgfbnfbnaaaGreat.Z8
open Go.RowKit
section
variable {i a B:Nat}{w:qad}{A:Option qaj}
structure Rw where
 lab:Nat
 refs:Int
def Rw.z:Rw:=⟨0,0⟩
structure Rw.Ok (r:Rw):Prop where
 lab:r.lab<65536
 lo: -9223372036854775808<=r.refs
 hi:r.refs<=9223372036854775807
def zy(l:List Rw):Prop:=∀r∈l,r.Ok
def ZV:List Rw->List qap
 |[]=>[]
 |r::l=>.int .u16 r.lab:: .int .i64 r.refs::ZV l
theorem Zj(l:List Rw):(ZV l).length=l.length*2:=by
 induction l with
 |nil=>rfl
 |cons r l ih=>simp[ZV,ih];omega
theorem JO(l m:List Rw):ZV (l++m)=ZV l++ZV m:=by
 induction l with
 |nil=>rfl
 |cons r l ih=>simp[ZV,ih]
theorem UF:∀(l:List Rw)(i:Nat)(r:Rw),l[i]? =some r->(ZV l)[i*2]? =some (.int .u16 r.lab)/\(ZV l)[i*2+1]? =some (.int .i64 r.refs)
 |[],i,r,h=>by simp at h
 |s::l,0,r,h=>by
  obtain rfl:s=r:=by simpa using h
  exact⟨rfl,rfl⟩
 |s::l,i+1,r,h=>by
  have:=UF l i r (by simpa using h)
  have e:(i+1)*2=i*2+1+1:=by omega
  rw[e]
  exact this
theorem Wu:∀(l:List Rw)(i:Nat)(r:Rw),i<l.length->ZV (l.set i r)=((ZV l).set (i*2) (.int .u16 r.lab)).set (i*2+1) (.int .i64 r.refs)
 |[],i,r,h=>by simp at h
 |s::l,0,r,h=>rfl
 |s::l,i+1,r,h=>by
  have:=Wu l i r (by simpa using h)
  have e:(i+1)*2=i*2+1+1:=by omega
  rw[e]
  simp only[List.set_cons_succ,ZV,this]
theorem PZ(l:List Rw):∀u∈ZV l,u.oneCell'=true:=by
 induction l with
 |nil=>simp[ZV]
 |cons r l ih=>
  intro u hu
  simp only[ZV,List.mem_cons]at hu
  rcases hu with rfl|rfl|hu
  ·rfl
  ·rfl
  ·exact ih u hu
theorem Lr:∀{l m:List Rw},ZV l=ZV m->l=m
 |[],[],_=>rfl
 |[],_::_,h=>by simp[ZV]at h
 |_::_,[],h=>by simp[ZV]at h
 |r::l,s::m,h=>by
  simp only[ZV,List.cons.injEq,qap.int.injEq,true_and]at h
  obtain⟨h1,h2,h3⟩:=h
  have e1:r.lab=s.lab:=by omega
  obtain rfl:r=s:=by cases r;cases s;simp_all
  rw[Lr h3]
theorem Ws{l:List Rw}(h:Rd w B A (ZV l)){r:Rw}(hi:l[i]? =some r):
  ∃b o,A=some ⟨b,o,none⟩/\b<B/\w.cell? ⟨b,o+i*2,none⟩=some (.int .u16 r.lab)/\w.cell? ⟨b,o+i*2+1,none⟩=some (.int .i64 r.refs):=by
 obtain⟨h1,h2⟩:=UF l i r hi
 rcases h with h|⟨b,o,h3,h4,h5⟩
 ·rw[h]at h1;simp at h1
 ·exact⟨b,o,h3,h4,by rw[h5 _ _ h1],by rw[Nat.add_assoc,h5 _ _ h2]⟩
theorem Va{l:List Rw}(h:Rd w B A (ZV l)):l=[]\/∃b o,A=some ⟨b,o,none⟩/\b<B/\∀(i:Nat) r,l[i]? =some r->w.cell? ⟨b,o+i*2,none⟩=some (.int .u16 r.lab)/\w.cell? ⟨b,o+i*2+1,none⟩=some (.int .i64 r.refs):=by
 cases l with
 |nil=>exact .inl rfl
 |cons r l=>
  obtain⟨b,o,rfl,hb,_⟩:=Ws h (i:=0) (r:=r) rfl
  refine .inr ⟨b,o,rfl,hb,fun i s hi=>?_⟩
  obtain⟨b',o',h1,_,h2⟩:=Ws h hi
  cases h1
  exact h2
def free(r:Rw):Bool:=r.refs==0
def Vh(a:Nat)(r:Rw):Bool:=!(r.refs==0)&&r.lab==a
def fits(r:Rw):Bool:=if r.refs=0 then r.lab==0 else decide (0<r.refs)&&decide (r.refs<=65535)
structure Right(l:List Rw):Prop where
 len:l.length=16
 fits:∀(i:Nat) r,l[i]? =some r->fits r=true
 one:∀(i k:Nat) r s,l[i]? =some r->l[k]? =some s->r.refs≠0->s.refs≠0->r.lab=s.lab->i=k
theorem Xm{r:Rw}(h:fits r=true):0<=r.refs:=by
 unfold Z8.fits at h
 split at h
 ·omega
 ·simp at h;omega
theorem WY{r:Rw}(h:fits r=true):r.refs<=65535:=by
 unfold Z8.fits at h
 split at h
 ·omega
 ·simp at h;omega
theorem yR{r:Rw}(h:fits r=true)(h0:r.refs=0):r.lab=0:=by
 unfold Z8.fits at h
 rw[if_pos h0]at h
 simpa using h
theorem JN{r:Rw}(h1:0<r.refs)(h2:r.refs<=65535):fits r=true:=by
 unfold Z8.fits
 rw[if_neg (by omega)]
 simp[h1,h2]
def TT(l:List Rw)(a:Nat):Option Nat:=l.findIdx? (Vh a)
theorem Vx{l:List Rw}(h:TT l a=some i):∃r,l[i]? =some r/\r.refs≠0/\r.lab=a/\∀k s,k<i->l[k]? =some s->¬ (s.refs≠0/\s.lab=a):=by
 obtain⟨hi,h1,h2⟩:=qae.1 h
 refine⟨l[i],qab hi,?_,?_,fun k s hk hs=>?_⟩
 ·intro h0;simp[Vh,h0]at h1
 ·simp[Vh]at h1;exact h1.2
 ·obtain⟨hk',rfl⟩:=qaa.1 hs
  have:=h2 k hk
  simp[Vh]at this
  intro ⟨h3,h4⟩
  exact this h3 h4
theorem GV{l:List Rw}(h:TT l a=none):∀(k:Nat) s,l[k]? =some s->¬ (s.refs≠0/\s.lab=a):=by
 intro k s hs ⟨h1,h2⟩
 have:=qak.1 h s (List.mem_of_getElem? hs)
 simp[Vh]at this
 exact this h1 h2
theorem tC{l:List Rw}{r:Rw}(h:l[i]? =some r)(h0:r.refs≠0)(ha:r.lab=a)(hk:∀(k:Nat) s,k<i->l[k]? =some s->¬ (s.refs≠0/\s.lab=a)):TT l a=some i:=by
 obtain⟨hi,rfl⟩:=qaa.1 h
 refine qae.2 ⟨hi,by simp[Vh,h0,ha],fun k hk'=>?_⟩
 have:=hk k _ hk' (qab (by omega))
 simp[Vh]
 intro h1 h2
 exact this ⟨h1,h2⟩
theorem Right.Er {l:List Rw}(h:Right l){r:Rw}(hi:l[i]? =some r)(h0:r.refs≠0):TT l r.lab=some i:=
 tC hi h0 rfl fun k s hk hs ⟨h1,h2⟩=>by
  have:=h.one k i s r hs hi h1 h0 h2
  omega
def Good(l:List Rw)(i:Nat)(r:Rw):Prop:=fits r=true/\(r.refs=0\/TT l r.lab=some i)
theorem Mi{l:List Rw}(hl:l.length=16)(h:∀(i:Nat) r,l[i]? =some r->Good l i r):Right l:=by
 refine⟨hl,fun i r hi=>(h i r hi).1,fun i k r s hi hk h1 h2 h3=>?_⟩
 rcases(h i r hi).2 with h4|h4
 ·exact absurd h4 h1
 rcases(h k s hk).2 with h5|h5
 ·exact absurd h5 h2
 rw[h3,h5]at h4
 injection h4 with h4
 exact h4.symm
theorem Right.good {l:List Rw}(h:Right l){r:Rw}(hi:l[i]? =some r):Good l i r:=by
 refine⟨h.fits i r hi,?_⟩
 by_cases h0:r.refs=0
 ·exact .inl h0
 ·exact .inr (h.Er hi h0)
def clash(r s:Rw):Prop:=0<r.refs/\0<s.refs/\r.lab=s.lab
theorem ND{l:List Rw}(hl:l.length=16)(h:∀(i:Nat) r,l[i]? =some r->fits r=true/\∀(k:Nat) s,k<i->l[k]? =some s->¬ clash r s):Right l:=by
 have h0:∀(i:Nat) r,l[i]? =some r->r.refs≠0->0<r.refs:=fun i r hi h0=>by have:=Xm (h i r hi).1;omega
 refine⟨hl,fun i r hi=>(h i r hi).1,fun i k r s hi hk h1 h2 h3=>?_⟩
 rcases Nat.lt_trichotomy i k with hlt|he|hlt
 ·exact absurd ⟨h0 k s hk h2,h0 i r hi h1,h3.symm⟩ ((h k s hk).2 i r hlt hi)
 ·exact he
 ·exact absurd ⟨h0 i r hi h1,h0 k s hk h2,h3⟩ ((h i r hi).2 k s hlt hk)
theorem Right.pairs {l:List Rw}(h:Right l){k:Nat}{r s:Rw}(hi:l[i]? =some r)(hk:l[k]? =some s)(hlt:k<i):¬ clash r s:=fun⟨h1,h2,h3⟩=>by
 have:=h.one i k r s hi hk (by omega) (by omega) h3
 omega
theorem Right.set {l:List Rw}(h:Right l){r:Rw}(hi:i<16)(hr:Z8.fits r=true)(ho:∀(k:Nat) s,k≠i->l[k]? =some s->s.refs≠0->r.refs≠0->s.lab≠r.lab):Right (l.set i r):=by
 have hl:=h.len
 have hget:∀(k:Nat) s,(l.set i r)[k]? =some s->(k=i/\s=r)\/(k≠i/\l[k]? =some s):=fun k s hk=>by
  rw[List.getElem?_set]at hk
  split at hk
  ·rename_i e
   rw[if_pos (by omega)]at hk
   injection hk with hk
   exact .inl ⟨e.symm,hk.symm⟩
  ·rename_i e
   exact .inr ⟨fun e'=>e e'.symm,hk⟩
 refine⟨by simpa using hl,fun k s hk=>?_,fun k m s t hk hm h1 h2 h3=>?_⟩
 ·rcases hget k s hk with⟨_,rfl⟩|⟨_,hk'⟩
  ·exact hr
  ·exact h.fits k s hk'
 ·rcases hget k s hk with⟨rfl,rfl⟩|⟨hki,hk'⟩<;>rcases hget m t hm with⟨rfl,rfl⟩|⟨hmi,hm'⟩
  ·rfl
  ·exact absurd h3.symm (ho m t hmi hm' h2 h1)
  ·exact absurd h3 (ho k s hki hk' h1 h2)
  ·exact h.one k m s t hk' hm' h1 h2 h3
def Vv(l:List Rw):Option Nat:=l.findIdx? free
theorem Tj{l:List Rw}(h:Vv l=some i):∃r,l[i]? =some r/\r.refs=0/\∀(k:Nat) s,k<i->l[k]? =some s->s.refs≠0:=by
 obtain⟨hi,h1,h2⟩:=qae.1 h
 refine⟨l[i],qab hi,by simpa[free]using h1,fun k s hk hs=>?_⟩
 obtain⟨hk',rfl⟩:=qaa.1 hs
 simpa[free]using h2 k hk
theorem Right.more {l:List Rw}(h:Right l){r:Rw}(hf:TT l a=some i)(hi:l[i]? =some r)(hr:r.refs≠65535):Right (l.set i ⟨r.lab,r.refs+1⟩):=by
 obtain⟨r',hi',h0,ha,_⟩:=Vx hf
 rw[hi]at hi'
 injection hi' with hi'
 subst hi'
 have hlt:i<l.length:=(qaa.1 hi).1
 have h1:=Xm (h.fits i r hi)
 have h2:=WY (h.fits i r hi)
 refine h.set (by rw[<-h.len];exact hlt) (JN (by show 0<r.refs+1;omega) (by show r.refs+1<=65535;omega)) fun k s hk hs h3 _ h5=>?_
 exact hk (h.one k i s r hs hi h3 h0 h5)
theorem Right.new {l:List Rw}(h:Right l)(hf:TT l a=none)(hi:Vv l=some i):Right (l.set i ⟨a,1⟩):=by
 obtain⟨r,hi',h0,_⟩:=Tj hi
 have hlt:i<l.length:=(qaa.1 hi').1
 exact h.set (by rw[<-h.len];exact hlt) (JN (by show(0:Int)<1;omega) (by show(1:Int)<=65535;omega)) fun k s hk hs h3 _ h5=>GV hf k s hs ⟨h3,h5⟩
def Rw.less (r:Rw):Rw:=if r.refs=1 then .z else⟨r.lab,r.refs-1⟩
theorem Right.less {l:List Rw}(h:Right l){r:Rw}(hi:l[i]? =some r)(h0:r.refs≠0):Right (l.set i r.less):=by
 have hlt:i<l.length:=(qaa.1 hi).1
 have h1:=Xm (h.fits i r hi)
 have h2:=WY (h.fits i r hi)
 refine h.set (by rw[<-h.len];exact hlt) ?_ fun k s hk hs h3 h4 h5=>?_
 ·unfold Rw.less
  split
  ·rfl
  ·exact JN (by show 0<r.refs-1;omega) (by show r.refs-1<=65535;omega)
 ·unfold Rw.less at h4 h5
  split at h4
  ·exact h4 rfl
  ·rename_i h6
   rw[if_neg h6]at h5
   exact hk (h.one k i s r hs hi h3 h0 h5)
noncomputable def ZP(l:List Rw):Bool:=@decide (Right l) (qam _)
theorem ZW{l:List Rw}(h:Right l):ZP l=true:=by unfold ZP;exact @decide_eq_true _ (qam _) h
theorem ZN{l:List Rw}(h:¬ Right l):ZP l=false:=by unfold ZP;exact @decide_eq_false _ (qam _) h
theorem Pf{l:List Rw}(h:l.length≠16):ZP l=false:=ZN fun h'=>h h'.len
noncomputable def yS(l:List Rw)(a:Nat):Option Nat:=if ZP l then TT l a else none
theorem Vw{l:List Rw}(h:Right l)(a:Nat):yS l a=TT l a:=by unfold yS;rw[ZW h];rfl
theorem BF{l:List Rw}(h:¬ Right l)(a:Nat):yS l a=none:=by unfold yS;rw[ZN h];rfl
def JP(o:Option Nat):qap:=.tuple #[.int .i64 ((o.getD 0:Nat):Int),o.isSome]
structure Ha where
 rows:List Rw
 at_:Nat
 err:Nat
def Ha.bad (e:Nat):Ha:=⟨[],0,e⟩
noncomputable def ZH(l:List Rw)(a:Nat):Ha:=
 if ZP l then
  match TT l a with
  |some i=>if (l.getD i .z).refs=65535 then .bad 4 else⟨l.set i ⟨a,(l.getD i .z).refs+1⟩,i,0⟩
  |none=>
   match Vv l with
   |some i=>⟨l.set i ⟨a,1⟩,i,0⟩
   |none=>.bad 5
 else .bad 1
theorem getD_at{l:List Rw}{r:Rw}(h:l[i]? =some r):l.getD i .z=r:=by rw[List.getD_eq_getElem?_getD,h];rfl
theorem BH{l:List Rw}(h:¬ Right l)(a:Nat):ZH l a=.bad 1:=by unfold ZH;rw[ZN h];rfl
theorem P9{l:List Rw}(h:Right l){r:Rw}(hf:TT l a=some i)(hi:l[i]? =some r)(hr:r.refs=65535):ZH l a=.bad 4:=by
 unfold ZH;rw[ZW h,hf];simp only[if_true,getD_at hi,hr]
theorem P8{l:List Rw}(h:Right l){r:Rw}(hf:TT l a=some i)(hi:l[i]? =some r)(hr:r.refs≠65535):ZH l a=⟨l.set i ⟨a,r.refs+1⟩,i,0⟩:=by
 unfold ZH;rw[ZW h,hf];simp only[if_true,getD_at hi,hr,if_false]
theorem NF{l:List Rw}(h:Right l)(hf:TT l a=none)(hi:Vv l=some i):ZH l a=⟨l.set i ⟨a,1⟩,i,0⟩:=by
 unfold ZH;rw[ZW h,hf,hi];rfl
theorem P7{l:List Rw}(h:Right l)(hf:TT l a=none)(hi:Vv l=none):ZH l a=.bad 5:=by
 unfold ZH;rw[ZW h,hf,hi];rfl
noncomputable def YH(l:List Rw)(row:Int):Ha:=
 if ZP l&&decide (0<=row)&&decide (row<16)then
  if (l.getD row.toNat .z).refs=0 then .bad 2 else⟨l.set row.toNat (l.getD row.toNat .z).less,0,0⟩
 else .bad 1
theorem BG{l:List Rw}(h:¬ Right l)(row:Int):YH l row=.bad 1:=by unfold YH;rw[ZN h];rfl
theorem G6{l:List Rw}{row:Int}(h:¬ (0<=row/\row<16)):YH l row=.bad 1:=by
 unfold YH
 rw[if_neg]
 simp
 omega
theorem Ls{l:List Rw}(h:Right l){r:Rw}(hi:l[i]? =some r)(h0:r.refs=0):YH l (i:Int)=.bad 2:=by
 have hlt:i<l.length:=(qaa.1 hi).1
 rw[h.len]at hlt
 have e:((i:Int).toNat)=i:=Int.toNat_natCast i
 unfold YH
 rw[if_pos (by rw[ZW h];simp;omega),e,getD_at hi,if_pos h0]
theorem UC{l:List Rw}(h:Right l){r:Rw}(hi:l[i]? =some r)(h0:r.refs≠0):YH l (i:Int)=⟨l.set i r.less,0,0⟩:=by
 have hlt:i<l.length:=(qaa.1 hi).1
 rw[h.len]at hlt
 have e:((i:Int).toNat)=i:=Int.toNat_natCast i
 unfold YH
 rw[if_pos (by rw[ZW h];simp;omega),e,getD_at hi,if_neg h0]
end
end Go.Proofs.YtmehhgfbnfbnaaaGreat.Z8

namespace Go.Proofs.YtmehhgfbnfbnaaaGreat.Z8
open Go.RowKit
theorem below_drewN{B:Nat}{a w:qad}(h:qaf B a w)(q:Nat):qaf B a (w.drewN q):=⟨h.os,h.tape,h.output,h.size,h.block⟩
theorem ZR(w:qad)(o:Obj):qaf w.heap.size w (w.alloc o):=(qar _ w).alloc (qat _) _
theorem YZ(a:Nat)(x:Int)(w:qad):
  qah Tryz.prog 99 #[.agg #[.int .u16 a,x]] w fun e w'=>e=.returned (.bool (x==0))/\w'=w.alloc (.cells #[.int .u16 a,x] 68):=by
 go_enter Tryz.func99,Tryz.ntmps99
 exact zt8
theorem YG{a b:Bool}(h:a=b):Ending.returned (.bool a)=.returned (.bool b):=by rw[h]
theorem Uj{a b:Int}(h:a=b):Ending.returned (.int .i64 a)=.returned (.int .i64 b):=by rw[h]
theorem QT(a b:Nat):((a:Int)==(b:Int))=(a==b):=by
 rw[Bool.eq_iff_iff,beq_iff_eq,beq_iff_eq];omega
theorem QQ(a:Nat)(x:Int)(w:qad):
  qah Tryz.prog 98 #[.agg #[.int .u16 a,x]] w fun e w'=>e=.returned (.bool (fits ⟨a,x⟩))/\qaf w.heap.size w w':=by
 have hB:qaf w.heap.size w ((w.alloc (.cells #[.int .u16 a,x] 68)).alloc (.cells #[.int .u16 a,x] 68)):=(ZR w _).alloc (by simp) _
 have HB:=χ hB
 clear hB
 by_cases h0:x=0
 ·subst h0
  have hb:((0:Int)==0)=true:=rfl
  go_enter Tryz.func98,Tryz.ntmps98
  go_wp2_with (go_at_call 99;refine(YZ a 0 _).mono ?_;rintro e w' ⟨rfl,rfl⟩)
  go_ret
  exact⟨YG (by unfold fits;exact QT a 0),HB.out⟩
 ·have hb:(x==0)=false:=by simp[h0]
  by_cases h1:0<x
  ·go_enter Tryz.func98,Tryz.ntmps98
   go_wp2_with (go_at_call 99;refine(YZ a x _).mono ?_;rintro e w' ⟨rfl,rfl⟩)
   go_ret
   exact⟨YG (by unfold fits;simp[h0,h1]),HB.out⟩
  ·go_enter Tryz.func98,Tryz.ntmps98
   go_wp2_with (go_at_call 99;refine(YZ a x _).mono ?_;rintro e w' ⟨rfl,rfl⟩)
   go_ret
   exact⟨YG (by unfold fits;simp[h0];omega),HB.out⟩
theorem XF(a:Nat)(w:qad):
  qah Tryz.prog 101 #[.int .u16 a] w fun e w'=>e=.returned (.func (.func 171) #[] #[.pointer w.heap.size])/\w'=w.alloc (.cells #[.int .u16 a] 36):=by
 go_enter Tryz.func101,Tryz.ntmps101
 exact zt8
theorem GX(a b:Nat)(x:Int)(g:Nat)(w:qad)(hc:w.cell? ⟨g,0,none⟩=some (.int .u16 a))(hg:g<w.heap.size):
  qah Tryz.prog 171 #[.agg #[.int .u16 b,x],.pointer g] w fun e w'=>e=.returned (.bool (Vh a ⟨b,x⟩))/\qaf w.heap.size w w':=by
 have hB:qaf w.heap.size w ((w.alloc (.cells #[.int .u16 b,x] 68)).alloc (.cells #[.int .u16 b,x] 68)):=(ZR w _).alloc (by simp) _
 have HB:=χ hB
 clear hB
 by_cases h0:x=0
 ·subst h0
  have hb:((0:Int)==0)=true:=rfl
  go_enter Tryz.func171,Tryz.ntmps171
  go_wp2_with (go_at_call 99;refine(YZ b 0 _).mono ?_;rintro e w' ⟨rfl,rfl⟩)
  go_ret
  exact⟨rfl,HB.out⟩
 ·have hb:(x==0)=false:=by simp[h0]
  go_enter Tryz.func171,Tryz.ntmps171
  go_wp2_with (go_at_call 99;refine(YZ b x _).mono ?_;rintro e w' ⟨rfl,rfl⟩)
  go_ret
  exact⟨YG (by unfold Vh;rw[QT];simp[h0]),HB.out⟩
def UN:Option Nat->Int
 |none=> -1
 |some i=>(i:Int)
theorem SH(l:List Rw)(A:Option qaj)(n c:Nat)(w:qad)(a g:Nat)(hc:w.cell? ⟨g,0,none⟩=some (.int .u16 a))(hg:g<w.heap.size)(hn:l.length=n)(hr:Rd w w.heap.size A (ZV l))(hm:n<=9223372036854775807):
  qah Tryz.prog 100 #[.slice A n c,.func (.func 171) #[] #[.pointer g]] w fun e w'=>e=.returned (.int .i64 (UN (l.findIdx? (Vh a))))/\qaf w.heap.size w w':=by
 have Hn:=χ hn
 have Hr:=χ hr
 clear hn hr
 have HC:=χ hc
 clear hc
 go_enter Tryz.func100,Tryz.ntmps100
 go_wp2
 go_loopw [5,8] (fun _ i wr=>∃j:Nat,j<=n/\i=.int .i64 j/\Hid (∀(k:Nat) s,k<j->l[k]? =some s->Vh a s=false)/\qaf w.heap.size w wr) (fun _ i _=>n-(intOf i).toNat)
 case atStart=>exact zt6
 case round=>
  obtain⟨j,hj,rfl,Hf,hb⟩:=hrel
  have Hb:=χ hb
  clear hb
  by_cases hlt:j<n
  ·obtain⟨⟨b,x⟩,QY⟩:∃r,l[j]? =some r:=⟨_,qab (by rw[Hn.out];exact hlt)⟩
   obtain⟨B,o,rfl,hB,hc0,hc1⟩:=Ws (Hr.out.below Hb.out) QY
   have HR:=χ QY
   have hs:=qac hB Hb.out.size
   clear QY hB
   cases hp:Vh a ⟨b,x⟩with
   |false=>
    have Wy:Hid (∀(k:Nat) s,k<j+1->l[k]? =some s->Vh a s=false):=χ fun k s hk hs=>by
     by_cases e:k=j
     ·subst e
      rw[HR.out]at hs
      injection hs with hs
      rw[<-hs];exact hp
     ·exact Hf.out k s (by omega) hs
    have hq:Vh a ⟨b,x⟩=false:=hp
    clear hp
    go_wp2_with (go_at_call 171;refine(GX a _ _ g _ ((Hb.out.cell hg).trans HC.out) (qac hg Hb.out.size)).mono ?_;rintro e w2 ⟨he,hb2⟩;obtain rfl:=he;have HB2:=χ (Hb.out.trans (hb2.mono Hb.out.size));clear hb2;rw[hq])
    go_roundw
    case rel=>exact zt7
    case measure=>simp[intOf];omega
   |true=>
    have hd:l.findIdx? (Vh a)=some j:=by
     obtain⟨hjl,hjr⟩:=qaa.1 HR.out
     refine qae.2 ⟨hjl,by rw[hjr];exact hp,fun k hk=>?_⟩
     have:=Hf.out k _ hk (qab (by omega))
     simp[this]
    have HD:=χ hd
    have hq:Vh a ⟨b,x⟩=true:=hp
    clear hp hd
    go_wp2_with (go_at_call 171;refine(GX a _ _ g _ ((Hb.out.cell hg).trans HC.out) (qac hg Hb.out.size)).mono ?_;rintro e w2 ⟨he,hb2⟩;obtain rfl:=he;have HB2:=χ (Hb.out.trans (hb2.mono Hb.out.size));clear hb2;rw[hq])
    go_ret
    exact⟨Uj (by rw[HD.out];rfl),HB2.out⟩
  ·obtain rfl:j=n:=by omega
   have hd:l.findIdx? (Vh a)=none:=by
    refine qak.2 fun x hx=>?_
    obtain⟨k,hk,rfl⟩:=List.getElem_of_mem hx
    exact Hf.out k _ (by rw[<-Hn.out];exact hk) (qab hk)
   exact zt5
theorem XW(l:List Rw)(A:Option qaj)(n c:Nat)(w:qad)(hn:l.length=n)(hr:Rd w w.heap.size A (ZV l))(hm:n<=9223372036854775807):
  qah Tryz.prog 100 #[.slice A n c,.func (.func 99) #[] #[]] w fun e w'=>e=.returned (.int .i64 (UN (l.findIdx? (free))))/\qaf w.heap.size w w':=by
 have Hn:=χ hn
 have Hr:=χ hr
 clear hn hr
 go_enter Tryz.func100,Tryz.ntmps100
 go_wp2
 go_loopw [5,8] (fun _ i wr=>∃j:Nat,j<=n/\i=.int .i64 j/\Hid (∀(k:Nat) s,k<j->l[k]? =some s->free s=false)/\qaf w.heap.size w wr) (fun _ i _=>n-(intOf i).toNat)
 case atStart=>exact zt6
 case round=>
  obtain⟨j,hj,rfl,Hf,hb⟩:=hrel
  have Hb:=χ hb
  clear hb
  by_cases hlt:j<n
  ·obtain⟨⟨b,x⟩,QY⟩:∃r,l[j]? =some r:=⟨_,qab (by rw[Hn.out];exact hlt)⟩
   obtain⟨B,o,rfl,hB,hc0,hc1⟩:=Ws (Hr.out.below Hb.out) QY
   have HR:=χ QY
   have hs:=qac hB Hb.out.size
   clear QY hB
   cases hp:free ⟨b,x⟩with
   |false=>
    have Wy:Hid (∀(k:Nat) s,k<j+1->l[k]? =some s->free s=false):=χ fun k s hk hs=>by
     by_cases e:k=j
     ·subst e
      rw[HR.out]at hs
      injection hs with hs
      rw[<-hs];exact hp
     ·exact Hf.out k s (by omega) hs
    have hq:(x==0)=false:=hp
    clear hp
    go_wp2_with (go_at_call 99;refine(YZ _ _ _).mono ?_;rintro e w2 ⟨he,hw2⟩;obtain rfl:=he;have HB2:=χ (by rw[hw2];exact Hb.out.alloc Hb.out.size _:qaf w.heap.size w w2);clear hw2;rw[hq])
    go_roundw
    case rel=>exact zt7
    case measure=>simp[intOf];omega
   |true=>
    have hd:l.findIdx? (free)=some j:=by
     obtain⟨hjl,hjr⟩:=qaa.1 HR.out
     refine qae.2 ⟨hjl,by rw[hjr];exact hp,fun k hk=>?_⟩
     have:=Hf.out k _ hk (qab (by omega))
     simp[this]
    have HD:=χ hd
    have hq:(x==0)=true:=hp
    clear hp hd
    go_wp2_with (go_at_call 99;refine(YZ _ _ _).mono ?_;rintro e w2 ⟨he,hw2⟩;obtain rfl:=he;have HB2:=χ (by rw[hw2];exact Hb.out.alloc Hb.out.size _:qaf w.heap.size w w2);clear hw2;rw[hq])
    go_ret
    exact⟨Uj (by rw[HD.out];rfl),HB2.out⟩
  ·obtain rfl:j=n:=by omega
   have hd:l.findIdx? (free)=none:=by
    refine qak.2 fun x hx=>?_
    obtain⟨k,hk,rfl⟩:=List.getElem_of_mem hx
    exact Hf.out k _ (by rw[<-Hn.out];exact hk) (qab hk)
   exact zt5
end Go.Proofs.YtmehhgfbnfbnaaaGreat.Z8

namespace Go.Proofs.YtmehhgfbnfbnaaaGreat.Z8
open Go.RowKit
section
variable {x:Int}
theorem Es(A:Option qaj)(n c:Nat)(w:qad)(h:n≠16):qah Tryz.prog 38 #[.slice A n c] w fun e w'=>e=.returned (.bool false)/\w=w':=by
 have hb:((n:Int) != 16)=true:=by simp;omega
 go_enter Tryz.func38,Tryz.ntmps38
 exact zt8
theorem GY(A:Option qaj)(n c:Nat)(w:qad)(h:n≠16):qah Tryz.prog 227 #[.slice A n c] w fun e w'=>e=.returned (.bool false)/\w=w':=by
 have hb:((n:Int) != 16)=true:=by simp;omega
 go_enter Tryz.func227,Tryz.ntmps227
 exact zt8
theorem QR{w w1:qad}{a:Nat}(hb:qaf (w.alloc (.cells #[.int .u16 a,x] 68)).heap.size (w.alloc (.cells #[.int .u16 a,x] 68)) w1):
  w1.cell? ⟨w.heap.size,0,none⟩=some (.int .u16 a)/\w1.cell? ⟨w.heap.size,1,none⟩=some (.int .i64 x)/\qaf w.heap.size w w1/\w.heap.size<w1.heap.size:=by
 have hk:Bk (w.alloc (.cells #[.int .u16 a,x] 68)) w.heap.size 68 [.int .u16 a,x]:=Bk.new w 68 _
 have hk1:=hk.below hb (by simp)
 exact⟨hk1.cell 0,hk1.cell 1,((qar _ w).alloc (qat _) _).trans (hb.mono (by simp)),by have:=hb.size;simp at this;omega⟩
theorem XL(l:List Rw)(A:Option qaj)(c:Nat)(w:qad)(hn:l.length=16)(hr:Rd w w.heap.size A (ZV l)):
  qah Tryz.prog 38 #[.slice A 16 c] w fun e w'=>e=.returned (.bool (ZP l))/\qaf w.heap.size w w':=by
 have Hn:=χ hn
 have Hr:=χ hr
 clear hn hr
 go_enter Tryz.func38,Tryz.ntmps38
 go_wp2
 go_loopw [3,4,10] (fun _ _ i wr=>∃j:Nat,j<=16/\i=.int .i64 j/\Hid (∀(k:Nat) r,k<j->l[k]? =some r->Good l k r)/\qaf w.heap.size w wr) (fun _ _ i _=>16-(intOf i).toNat)
 case atStart=>exact zt6
 case round=>
  obtain⟨j,hj,rfl,Hf,hb⟩:=hrel
  have Hb:=χ hb
  clear hb
  by_cases hlt:j<16
  ·obtain⟨⟨b,x⟩,QY⟩:∃r,l[j]? =some r:=⟨_,qab (by rw[Hn.out];exact hlt)⟩
   obtain⟨B,o,rfl,hB,hc0,hc1⟩:=Ws (Hr.out.below Hb.out) QY
   have HR:=χ QY
   have hs:=qac hB Hb.out.size
   clear QY hB
   cases hfit:fits ⟨b,x⟩with
   |false=>
    have hR:¬ Right l:=fun h=>by have:=h.fits j _ HR.out;rw[hfit]at this;cases this
    have HR:=χ hR
    clear hR
    go_wp2_with (go_at_call 98;(with_reducible refine(QQ b x _).mono ?_);rintro e w1 ⟨he,hb1⟩;obtain rfl:=he;obtain⟨c0,c1,hb1',hs1⟩:=QR hb1;have HB1:=χ (Hb.out.trans (hb1'.mono Hb.out.size));clear hb1 hb1';rw[hfit])
    go_ret
    exact⟨YG (ZN HR.out).symm,HB1.out⟩
   |true=>
    by_cases hx0:x=0
    ·subst hx0
     have Wy:Hid (∀(k:Nat) r,k<j+1->l[k]? =some r->Good l k r):=χ fun k r hk hs=>by
      by_cases e:k=j
      ·subst e
       rw[HR.out]at hs
       injection hs with hs
       rw[<-hs];exact⟨hfit,.inl rfl⟩
      ·exact Hf.out k r (by omega) hs
     have hbb:((0:Int)==0)=true:=rfl
     go_wp2_with (first
      |(go_at_call 98;(with_reducible refine(QQ b 0 _).mono ?_);rintro e w1 ⟨he,hb1⟩;obtain rfl:=he;obtain⟨c0,c1,hb1',hs1⟩:=QR hb1;have HB1:=χ (Hb.out.trans (hb1'.mono Hb.out.size));clear hb1 hb1';rw[hfit])
      |(go_at_call 99;(with_reducible refine(YZ b 0 _).mono ?_);rintro e w2 ⟨he,hw2⟩;obtain rfl:=he;have hb2:qaf w1.heap.size w1 w2:=(by subst hw2;exact ZR _ _);clear hw2;have d0:=(hb2.cell hs1).trans c0;have hs2:=qac hs1 hb2.size;have HB2:=χ (HB1.out.trans (hb2.mono HB1.out.size));clear hb2))
     go_roundw
     case rel=>exact zt7
     case measure=>simp[intOf];omega
    ·have hbb:(x==0)=false:=by simp[hx0]
     by_cases hp:TT l b=some j
     ·have Wy:Hid (∀(k:Nat) r,k<j+1->l[k]? =some r->Good l k r):=χ fun k r hk hs=>by
       by_cases e:k=j
       ·subst e
        rw[HR.out]at hs
        injection hs with hs
        rw[<-hs];exact⟨hfit,.inr hp⟩
       ·exact Hf.out k r (by omega) hs
      have HP:Hid (UN (l.findIdx? (Vh b))=(j:Int)):=χ (by have:l.findIdx? (Vh b)=some j:=hp;rw[this];rfl)
      have hne:((j:Int) != (j:Int))=false:=by simp
      clear hp
      go_wp2_with (first
       |(go_at_call 98;(with_reducible refine(QQ b x _).mono ?_);rintro e w1 ⟨he,hb1⟩;obtain rfl:=he;obtain⟨c0,c1,hb1',hs1⟩:=QR hb1;have HB1:=χ (Hb.out.trans (hb1'.mono Hb.out.size));clear hb1 hb1';rw[hfit])
       |(go_at_call 99;(with_reducible refine(YZ b x _).mono ?_);rintro e w2 ⟨he,hw2⟩;obtain rfl:=he;have hb2:qaf w1.heap.size w1 w2:=(by subst hw2;exact ZR _ _);clear hw2;have d0:=(hb2.cell hs1).trans c0;have hs2:=qac hs1 hb2.size;have HB2:=χ (HB1.out.trans (hb2.mono HB1.out.size));clear hb2)
       |(go_at_call 101;(with_reducible refine(XF b _).mono ?_);rintro e w3 ⟨he,hw3⟩;obtain rfl:=he;have hb3:qaf w2.heap.size w2 w3:=(by subst hw3;exact ZR _ _);have k0:w3.cell? ⟨w2.heap.size,0,none⟩=some (.int .u16 b):=(by subst hw3;exact(Bk.new w2 36 [.int .u16 b]).cell 0);have ks:w2.heap.size<w3.heap.size:=(by subst hw3;simp);clear hw3;have HB3:=χ (HB2.out.trans (hb3.mono HB2.out.size));clear hb3)
       |(go_at_call 100;(with_reducible refine(SH l _ 16 c _ b _ k0 ks Hn.out ((Hr.out.below HB3.out).more HB3.out.size) (by omega)).mono ?_);rintro e w4 ⟨he,hb4⟩;obtain rfl:=he;have VT:=χ (HB3.out.trans (hb4.mono HB3.out.size));clear hb4;rw[HP.out]))
      go_roundw
      case rel=>exact⟨j+1,by omega,by go_num,Wy,VT.out⟩
      case measure=>simp[intOf];omega
     ·have hR:¬ Right l:=fun h=>by
       rcases(h.good HR.out).2 with h|h
       ·exact hx0 h
       ·exact hp h
      have HR2:=χ hR
      clear hR
      obtain⟨q,hq⟩:∃q,UN (l.findIdx? (Vh b))=q:=⟨_,rfl⟩
      have hne:(q != (j:Int))=true:=by
       rw[bne_iff_ne]
       intro e
       apply hp
       unfold TT
       rw[e]at hq
       cases hF:l.findIdx? (Vh b)with
       |none=>rw[hF]at hq;simp only[UN]at hq;omega
       |some m=>rw[hF]at hq;simp only[UN]at hq;congr 1;omega
      have HP:=χ hq
      clear hp hq
      go_wp2_with (first
       |(go_at_call 98;(with_reducible refine(QQ b x _).mono ?_);rintro e w1 ⟨he,hb1⟩;obtain rfl:=he;obtain⟨c0,c1,hb1',hs1⟩:=QR hb1;have HB1:=χ (Hb.out.trans (hb1'.mono Hb.out.size));clear hb1 hb1';rw[hfit])
       |(go_at_call 99;(with_reducible refine(YZ b x _).mono ?_);rintro e w2 ⟨he,hw2⟩;obtain rfl:=he;have hb2:qaf w1.heap.size w1 w2:=(by subst hw2;exact ZR _ _);clear hw2;have d0:=(hb2.cell hs1).trans c0;have hs2:=qac hs1 hb2.size;have HB2:=χ (HB1.out.trans (hb2.mono HB1.out.size));clear hb2)
       |(go_at_call 101;(with_reducible refine(XF b _).mono ?_);rintro e w3 ⟨he,hw3⟩;obtain rfl:=he;have hb3:qaf w2.heap.size w2 w3:=(by subst hw3;exact ZR _ _);have k0:w3.cell? ⟨w2.heap.size,0,none⟩=some (.int .u16 b):=(by subst hw3;exact(Bk.new w2 36 [.int .u16 b]).cell 0);have ks:w2.heap.size<w3.heap.size:=(by subst hw3;simp);clear hw3;have HB3:=χ (HB2.out.trans (hb3.mono HB2.out.size));clear hb3)
       |(go_at_call 100;(with_reducible refine(SH l _ 16 c _ b _ k0 ks Hn.out ((Hr.out.below HB3.out).more HB3.out.size) (by omega)).mono ?_);rintro e w4 ⟨he,hb4⟩;obtain rfl:=he;have VT:=χ (HB3.out.trans (hb4.mono HB3.out.size));clear hb4;rw[HP.out]))
      go_ret
      exact⟨YG (ZN HR2.out).symm,VT.out⟩
  ·obtain rfl:j=16:=by omega
   have hR:Right l:=Mi Hn.out fun k r hk=>Hf.out k r (by have:=(qaa.1 hk).1;rw[Hn.out]at this;exact this) hk
   have HR:=χ hR
   clear hR
   go_wp2
   go_ret
   exact⟨YG (ZW HR.out).symm,Hb.out⟩
theorem tu{b:Nat}(h:fits ⟨b,x⟩=false):x<0\/65535<x\/(x=0/\b≠0):=by
 unfold fits at h
 by_cases h0:x=0
 ·subst h0
  simp at h
  exact .inr (.inr ⟨rfl,h⟩)
 ·simp[h0]at h
  omega
theorem Xv(l:List Rw)(A:Option qaj)(c:Nat)(B0:Nat)(w:qad)(hn:l.length=16)(hr:Rd w B0 A (ZV l)):
    qah Tryz.prog 227 #[.slice A 16 c] w fun e w'=>e=.returned (.bool (ZP l))/\∃q,w'=w.drewN q:=by
  rcases Va hr with h|⟨B,o,rfl,hB,hcc⟩
  · subst h;simp at hn
  have Hn:=χ hn
  have Hc:=χ hcc
  clear hn hr hcc
  go_enter Tryz.func227,Tryz.ntmps227
  go_wp2
  go_loopw [3] (fun i wr=>∃j:Nat,j<=16/\i=.int .i64 j/\Hid (∀(m:Nat) r,m<j->l[m]? =some r->fits r=true/\∀(t:Nat) s,t<m->l[t]? =some s->¬ clash r s)/\∃q,wr=w.drewN q) (fun i _=>16-(intOf i).toNat)
  case atStart=>exact⟨0,qai _,rfl,χ (fun k s hk=>by omega),0,rfl⟩
  case round=>
    obtain⟨j,hj,rfl,Hf,q,rfl⟩:=hrel
    by_cases hlt:j<16
    · obtain⟨⟨b,x⟩,QY⟩:∃r,l[j]? =some r:=⟨_,qab (by rw[Hn.out];exact hlt)⟩
      obtain⟨c0,c1⟩:=Hc.out j ⟨b,x⟩ QY
      have HR:=χ QY
      have f0:(0:Int)<=(j:Int):=qag _
      have f1:(j:Int)<16:=by omega
      clear QY
      cases hfit:fits ⟨b,x⟩with
      |false=>
        rcases tu hfit with hx|hx|⟨hx,hb⟩
        · have g0:decide (x<0)=true:=decide_eq_true hx
          exact zt3
        · have g0:decide (x<0)=false:=decide_eq_false (by omega)
          have g1:decide (65535<x)=true:=decide_eq_true hx
          exact zt3
        · subst hx
          have g2:((0:Int)==0)=true:=rfl
          have g3:((b:Int) != 0)=true:=by simp;omega
          exact zt3
      |true=>
       by_cases hx0:x=0
       · subst hx0
         obtain rfl:b=0:=yR hfit rfl
         have g2:((0:Int)==0)=true:=rfl
         have g3:((0:Int) != 0)=false:=rfl
         go_wp2
         go_loopw [4] (fun i wr=>∃k:Nat,k<=j/\i=.int .i64 k/\Hid (∀(m:Nat) s,m<k->l[m]? =some s->¬ clash ⟨0,0⟩ s)/\∃q,wr=w.drewN q) (fun i _=>j-(intOf i).toNat)
         case atStart=>exact⟨0,qai _,rfl,χ (fun m s hm=>by omega),q,rfl⟩
         case round=>
           obtain⟨k,hk,rfl,Hk,q2,rfl⟩:=hrel
           by_cases hkj:k<j
           · obtain⟨⟨a,y⟩,hsk⟩:∃r,l[k]? =some r:=⟨_,qab (by rw[Hn.out];omega)⟩
             obtain⟨d0,d1⟩:=Hc.out k ⟨a,y⟩ hsk
             have HS:=χ hsk
             have e0:(0:Int)<=(k:Int):=qag _
             have e1:(k:Int)<16:=by omega
             clear hsk
             have Hk2:Hid (∀(m:Nat) s,m<k+1->l[m]? =some s->¬ clash ⟨0,0⟩ s):=χ fun m s hm hs=>by
               by_cases e:m=k
               · subst e
                 rw[HS.out]at hs
                 injection hs with hs
                 subst hs
                 intro ⟨h1,_,_⟩;exact absurd h1 (by decide)
               · exact Hk.out m s (by omega) hs
             have g0:decide ((0:Int)<0)=false:=rfl
             exact zt4
           · obtain rfl:k=j:=by omega
             exact zt0
       · have hx1:=Xm hfit
         have hx2:=WY hfit
         simp only at hx1 hx2
         have hx:0<x:=by omega
         have g0:decide (x<0)=false:=decide_eq_false (by omega)
         have g1:decide (65535<x)=false:=decide_eq_false (by omega)
         have g2:(x==0)=false:=by simp[hx0]
         have g4:decide (0<x)=true:=decide_eq_true hx
         clear hx0 hx1 hx2
         go_wp2
         go_loopw [4] (fun i wr=>∃k:Nat,k<=j/\i=.int .i64 k/\Hid (∀(m:Nat) s,m<k->l[m]? =some s->¬ clash ⟨b,x⟩ s)/\∃q,wr=w.drewN q) (fun i _=>j-(intOf i).toNat)
         case atStart=>exact⟨0,qai _,rfl,χ (fun m s hm=>by omega),q,rfl⟩
         case round=>
           obtain⟨k,hk,rfl,Hk,q2,rfl⟩:=hrel
           by_cases hkj:k<j
           · obtain⟨⟨a,y⟩,hsk⟩:∃r,l[k]? =some r:=⟨_,qab (by rw[Hn.out];omega)⟩
             obtain⟨d0,d1⟩:=Hc.out k ⟨a,y⟩ hsk
             have HS:=χ hsk
             have e0:(0:Int)<=(k:Int):=qag _
             have e1:(k:Int)<16:=by omega
             clear hsk
             by_cases hy:0<y
             · have g1:decide (0<y)=true:=decide_eq_true hy
               by_cases hab:b=a
               · have hR:¬ Right l:=fun h=>h.pairs HR.out HS.out hkj ⟨hx,hy,hab⟩
                 have HR2:=χ hR
                 subst hab
                 have g2:((b:Int)==(b:Int))=true:=by simp
                 clear hR
                 go_wp2
                 go_quiet (fail)
                 go_wp2
                 go_ret
                 exact⟨YG (ZN HR2.out).symm,q2+nq,by rw[qal]⟩
               · have g2:((b:Int)==(a:Int))=false:=by rw[QT];simp[hab]
                 have Hk2:Hid (∀(m:Nat) s,m<k+1->l[m]? =some s->¬ clash ⟨b,x⟩ s):=χ fun m s hm hs=>by
                   by_cases e:m=k
                   · subst e
                     rw[HS.out]at hs
                     injection hs with hs
                     subst hs
                     intro ⟨_,_,h3⟩;exact hab h3
                   · exact Hk.out m s (by omega) hs
                 clear hab
                 exact zt4
             · have g1:decide (0<y)=false:=decide_eq_false hy
               have Hk2:Hid (∀(m:Nat) s,m<k+1->l[m]? =some s->¬ clash ⟨b,x⟩ s):=χ fun m s hm hs=>by
                 by_cases e:m=k
                 · subst e
                   rw[HS.out]at hs
                   injection hs with hs
                   subst hs
                   intro ⟨_,h2,_⟩;exact hy h2
                 · exact Hk.out m s (by omega) hs
               exact zt4
           · obtain rfl:k=j:=by omega
             exact zt0
    · obtain rfl:j=16:=by omega
      have hR:Right l:=ND Hn.out fun k r hk=>Hf.out k r (by have:=(qaa.1 hk).1;rw[Hn.out]at this;exact this) hk
      have HR:=χ hR
      clear hR
      go_wp2
      go_ret
      exact⟨YG (ZW HR.out).symm,q,rfl⟩
theorem Zb(l:List Rw)(A:Option qaj)(n c:Nat)(w:qad)(hn:l.length=n)(hr:Rd w w.heap.size A (ZV l)):
  qah Tryz.prog 38 #[.slice A n c] w fun e w'=>e=.returned (.bool (ZP l))/\qaf w.heap.size w w':=by
 by_cases h:n=16
 ·subst h
  exact XL l A c w hn hr
 ·refine(Es A n c w h).mono ?_
  rintro e w' ⟨rfl,rfl⟩
  exact⟨YG (Pf (by omega)).symm,qar _ _⟩
theorem YS(l:List Rw)(A:Option qaj)(n c B:Nat)(w:qad)(hn:l.length=n)(hr:Rd w B A (ZV l)):
  qah Tryz.prog 227 #[.slice A n c] w fun e w'=>e=.returned (.bool (ZP l))/\∃q,w'=w.drewN q:=by
 by_cases h:n=16
 ·subst h
  exact Xv l A c B w hn hr
 ·refine(GY A n c w h).mono ?_
  rintro e w' ⟨rfl,rfl⟩
  exact⟨YG (Pf (by omega)).symm,0,rfl⟩
end
end Go.Proofs.YtmehhgfbnfbnaaaGreat.Z8

namespace Go.Proofs.YtmehhgfbnfbnaaaGreat.Z8
open Go.RowKit
section
variable {P:Program}
theorem Et:(Tryz.prog.info? 68).map (fun i=>(i.zero,i.size,i.bytes))=some (some (.agg #[.int .u16 0,()]),2,16):=by kernel_rfl
def frees:List Rw:=List.replicate 16 .z
theorem Qa(u:qad):(Instr.makeSlice 56 (.int .i64 16) (.int .i64 16)).run Tryz.prog u=
  .ok (.slice u.heap.size 16 16) (u.alloc (.cells (ZV frees).toArray 68)):=by
 obtain⟨i0,hi,hz0,hz1,hz2⟩:=info_parts Et
 have hr:=run_make (P:=Tryz.prog) u 56 68 i0 (.agg #[.int .u16 0,()]) Tryz.underlying56 hi hz0 .i64 .i64 16 16 (by omega) (Int.le_refl _) (by rw[hz2];omega) (by omega)
 have e:(madeCells (qap.agg #[.int .u16 0,()]).cells (16*i0.size))=(ZV frees).toArray:=by
  rw[hz1]
  kernel_rfl
 have e2:Int.toNat 16=16:=rfl
 rw[e2,e]at hr
 exact hr
theorem QS(w:qad)(dT sT ty elem:qav)(g n dCap:Nat)(a:qaj)(sCap k:Nat)(cur:List qap)(t:qav)(cs:List qap)(hu:P.underlying dT=some (.slice elem))(hs:(P.info? elem).map (·.size)=some k)(hg:w.heap[g]? =some (.cells cur.toArray t (0,0)))(hn:cs.length=n*k)(hc:cur.length=n*k)(hsrc:∀j v,cs[j]? =some v->w.cell? (a.add j)=some v)(h1:∀v∈cs,v.oneCell'=true):
  (Builtin.copy_ #[dT,sT] ty #[.slice g n dCap,.slice (some a) n sCap]).run P w=.ok (goInt n) (w.setRow g cs.toArray):=by
 have hl:=run_loadCells_list (P:=P) w a cs hsrc
 have hst:=run_storeCells_at P g 0 t cs 0 cur.toArray w hg (by simp[hc,hn]) h1
 have e:(cur.toArray.toList.take (0+0)++cs++cur.toArray.toList.drop (0+0+cs.length)).toArray=cs.toArray:=by
  congr 1
  simp
  omega
 rw[e]at hst
 cases hq:P.info? elem with
 |none=>simp[hq]at hs
 |some i=>
  have hi:i.size=k:=by simpa[hq]using hs
  have hm:Nat.min n n=n:=Nat.min_self n
  simp[Builtin.copy_,qau hu,qaw,qas,sizeOf,typeInfo,hq,hi,<-hn,hl,hst,hm]
theorem OU{w:qad}{ops:Array Oper}{rest:List Oper}{o:Oper}{a:Act}{Q:Exit->Act->qad->Prop}(hgd:o.guard=none)(d s:Operand)(dT sT:qav)(ho:o.op=.call {callee:=.builtin .copy,args:=#[d,s],argTypes:=#[dT,sT]})(elem:qav)(k:Nat)(hu:P.underlying dT=some (.slice elem))(hsz:(P.info? elem).map (·.size)=some k)(g n dCap:Nat)(ad:qaj)(sCap:Nat)(hd:a.eval d=.slice g n dCap)(hs:a.eval s=.slice (some ad) n sCap)(cur:List qap)(t:qav)(hg:w.heap[g]? =some (.cells cur.toArray t (0,0)))(cs:List qap)(hn:cs.length=n*k)(hc:cur.length=n*k)(hsrc:∀j v,cs[j]? =some v->w.cell? (ad.add j)=some v)(h1:∀v∈cs,v.oneCell'=true)(h:∀w',Hid (w'=w.setRow g cs.toArray)->wpList P ops Q rest (a.put o.dst (goInt n)) w'):wpList P ops Q (o::rest) a w:=by
 refine wpList_plain hgd fun K hK=>?_
 have hrun:=QS (P:=P) w dT sT o.type elem g n dCap ad sCap k cur t cs hu hsz hg hn hc hsrc h1
 unfold Oper.wp
 simp[execOp,ho,resolve,invoke,builtin,hd,hs,hrun,Result.andThen]
 exact hK _ _ (h _ (χ rfl))
theorem fP:(Tryz.prog.info? 68).map (·.size)=some 2:=by kernel_rfl
theorem QU(l:List Rw)(A:Option qaj)(c:Nat)(i:Nat)(a:Nat)(x:Int)(w:qad)(hn:l.length=16)(hr:Rd w w.heap.size A (ZV l))(hi:i<16):
  qah Tryz.prog 234 #[.slice A 16 c,i,.agg #[.int .u16 a,x]] w fun e w'=>∃g,e=.returned (.slice (some ⟨g,0,none⟩) 16 16)/\w.heap.size<=g/\Bk w' g 68 (ZV (l.set i ⟨a,x⟩))/\qaf w.heap.size w w':=by
 obtain⟨b,o,rfl,hb,hcc⟩:∃b o,A=some ⟨b,o,none⟩/\b<w.heap.size/\∀j u,(ZV l)[j]? =some u->w.cell? ⟨b,o+j,none⟩=some u:=by
  rcases hr with h|h
  ·have:=Zj l;rw[h,hn]at this;simp at this
  ·exact h
 have hmk:=Qa
 have Hn:=χ hn
 have Hc:=χ hcc
 clear hr hn hcc
 go_enter Tryz.func234,Tryz.ntmps234
 go_wp2_with (refine OU rfl (.tmp 11) (.tmp 12) 56 56 rfl 68 2 Tryz.underlying56 fP (w.heap.size+1) 16 16 ⟨b,o,none⟩ c rfl rfl (ZV frees) 68 ?c0 (ZV l) ?c1 ?c2 ?c3 (PZ l) ?_)
 case c0=>
  have:=heap_alloc_new (w.alloc (.cells #[.int .u16 a,x] 68)) (.cells (ZV frees).toArray 68)
  simpa using this
 case c1=>rw[Zj,Hn.out]
 case c2=>rfl
 case c3=>
  intro j v hv
  rw[qaj.add_lit]
  exact(qad.cell?_alloc_past _ _ _ (by simp;omega)).trans ((qad.cell?_alloc_past _ _ _ hb).trans (Hc.out j v hv))
 intro w3 h3
 obtain⟨W1,hW1⟩:∃W1,W1=w.alloc (.cells #[.int .u16 a,x] 68):=⟨_,rfl⟩
 have hs1:W1.heap.size=w.heap.size+1:=by rw[hW1];simp
 have hw3:w3=W1.alloc (.cells (ZV l).toArray 68):=by
  have:=h3.out
  rw[<-hW1,<-hs1,qad.setRow_alloc_new]at this
  exact this
 have hb1:qaf w.heap.size w W1:=by rw[hW1];exact ZR _ _
 have hk1:Bk W1 w.heap.size 68 [.int .u16 a,x]:=by rw[hW1];exact Bk.new w 68 _
 have hb3:qaf W1.heap.size W1 w3:=by rw[hw3];exact ZR _ _
 have hk3:Bk w3 (w.heap.size+1) 68 (ZV l):=by rw[hw3,<-hs1];exact Bk.new W1 68 _
 have hkb:=hk1.below hb3 hk1.lt
 have d0:=hkb.cell 0
 have d1:=hkb.cell 1
 have HB3:=χ (hb1.trans (hb3.mono hb1.size))
 have hsz:=hk3.lt
 have e0:∃u,w3.cell? ⟨w.heap.size+1,i*2,none⟩=some u:=⟨_,(hk3.cell _).trans (qab (by rw[Zj,Hn.out];omega))⟩
 have e1:∃u,w3.cell? ⟨w.heap.size+1,i*2+1,none⟩=some u:=⟨_,(hk3.cell _).trans (qab (by rw[Zj,Hn.out];omega))⟩
 obtain⟨u0,e0⟩:=e0
 obtain⟨u1,e1⟩:=e1
 have f0:=hk3.frozen (i*2)
 have f1:=hk3.frozen (i*2+1)
 have hset:=(hk3.set (i*2) (.int .u16 a)).set (i*2+1) (.int .i64 x)
 rw[<-Wu l i ⟨a,x⟩ (by rw[Hn.out];exact hi)]at hset
 have HK:=χ hset
 have VT:=χ ((HB3.out.setCell (p:=⟨w.heap.size+1,i*2,none⟩) (by show w.heap.size<=w.heap.size+1;omega) (.int .u16 a)).setCell (p:=⟨w.heap.size+1,i*2+1,none⟩) (by show w.heap.size<=w.heap.size+1;omega) (.int .i64 x))
 clear hW1 hs1 hw3 hb1 hk1 hb3 hk3 hkb h3 hset hmk
 go_wp2
 go_ret
 exact⟨w.heap.size+1,rfl,by omega,HK.out,VT.out⟩
theorem yT(l:List Rw)(A:Option qaj)(c:Nat)(i:Nat)(w:qad)(hn:l.length=16)(hr:Rd w w.heap.size A (ZV l))(hi:i<16):
  qah Tryz.prog 234 #[.slice A 16 c,i,.agg #[.int .u16 0,()]] w fun e w'=>∃g,e=.returned (.slice (some ⟨g,0,none⟩) 16 16)/\w.heap.size<=g/\Bk w' g 68 (ZV (l.set i .z))/\qaf w.heap.size w w':=QU l A c i 0 0 w hn hr hi
end
end Go.Proofs.YtmehhgfbnfbnaaaGreat.Z8

namespace Go.Proofs.YtmehhgfbnfbnaaaGreat.Z8
open Go.RowKit
theorem QV(l:List Rw)(A:Option qaj)(n c a:Nat)(w:qad)(hn:l.length=n)(hr:Rd w w.heap.size A (ZV l))(hm:n<=9223372036854775807):
  qah Tryz.prog 233 #[.slice A n c,.int .u16 a] w fun e w'=>e=.returned (JP (yS l a))/\qaf w.heap.size w w':=by
 have Hn:=χ hn
 have Hr:=χ hr
 clear hn hr
 by_cases hR:Right l
 ·have hf:=Vw hR a
  have hb:=ZW hR
  have HF:=χ hf
  have hpl:l.findIdx? (Vh a)=TT l a:=rfl
  clear hR hf
  cases hfa:TT l a with
  |none=>
   rw[hfa]at hpl
   have HP:=χ hpl
   have HA:=χ hfa
   clear hpl hfa
   go_enter Tryz.func233,Tryz.ntmps233
   go_wp2_with (first
    |(go_at_call 38;(with_reducible refine(Zb l A n c _ Hn.out Hr.out).mono ?_);rintro e w1 ⟨he,hb1⟩;obtain rfl:=he;rw[hb];have HB1:=χ hb1;clear hb1)
    |(go_at_call 101;(with_reducible refine(XF a _).mono ?_);rintro e w3 ⟨he,hw3⟩;obtain rfl:=he;have hb3:qaf w1.heap.size w1 w3:=(by subst hw3;exact ZR _ _);have k0:w3.cell? ⟨w1.heap.size,0,none⟩=some (.int .u16 a):=(by subst hw3;exact(Bk.new w1 36 [.int .u16 a]).cell 0);have ks:w1.heap.size<w3.heap.size:=(by subst hw3;simp);clear hw3;have HB3:=χ (HB1.out.trans (hb3.mono HB1.out.size));clear hb3)
    |(go_at_call 100;(with_reducible refine(SH l _ n c _ a _ k0 ks Hn.out ((Hr.out.below HB3.out).more HB3.out.size) hm).mono ?_);rintro e w4 ⟨he,hb4⟩;obtain rfl:=he;have VT:=χ (HB3.out.trans (hb4.mono HB3.out.size));clear hb4;rw[HP.out];simp only[UN]))
   go_ret2
   exact⟨by rw[HF.out,HA.out];rfl,VT.out⟩
  |some i=>
   rw[hfa]at hpl
   have HP:=χ hpl
   have HA:=χ hfa
   clear hpl hfa
   go_enter Tryz.func233,Tryz.ntmps233
   go_wp2_with (first
    |(go_at_call 38;(with_reducible refine(Zb l A n c _ Hn.out Hr.out).mono ?_);rintro e w1 ⟨he,hb1⟩;obtain rfl:=he;rw[hb];have HB1:=χ hb1;clear hb1)
    |(go_at_call 101;(with_reducible refine(XF a _).mono ?_);rintro e w3 ⟨he,hw3⟩;obtain rfl:=he;have hb3:qaf w1.heap.size w1 w3:=(by subst hw3;exact ZR _ _);have k0:w3.cell? ⟨w1.heap.size,0,none⟩=some (.int .u16 a):=(by subst hw3;exact(Bk.new w1 36 [.int .u16 a]).cell 0);have ks:w1.heap.size<w3.heap.size:=(by subst hw3;simp);clear hw3;have HB3:=χ (HB1.out.trans (hb3.mono HB1.out.size));clear hb3)
    |(go_at_call 100;(with_reducible refine(SH l _ n c _ a _ k0 ks Hn.out ((Hr.out.below HB3.out).more HB3.out.size) hm).mono ?_);rintro e w4 ⟨he,hb4⟩;obtain rfl:=he;have VT:=χ (HB3.out.trans (hb4.mono HB3.out.size));clear hb4;rw[HP.out];simp only[UN]))
   go_ret2
   exact⟨by rw[HF.out,HA.out];rfl,VT.out⟩
 ·have hb:=ZN hR
  have HF:=χ (BF hR a)
  clear hR
  go_enter Tryz.func233,Tryz.ntmps233
  go_wp2_with (go_at_call 38;(with_reducible refine(Zb l A n c _ Hn.out Hr.out).mono ?_);rintro e w1 ⟨he,hb1⟩;obtain rfl:=he;rw[hb];have HB1:=χ hb1;clear hb1)
  go_ret2
  exact⟨by rw[HF.out];rfl,HB1.out⟩
theorem SK(l:List Rw)(A:Option qaj)(n c a B:Nat)(w:qad)(hn:l.length=n)(hr:Rd w B A (ZV l))(hm:n<=9223372036854775807):
  qah Tryz.prog 160 #[.slice A n c,.int .u16 a] w fun e w'=>e=.returned (JP (yS l a))/\∃q,w'=w.drewN q:=by
 by_cases hR:Right l
 ·have h16:n=16:=by rw[<-hn];exact hR.len
  subst h16
  have Hr:=χ hr
  rcases Va hr with h|⟨B,o,rfl,hB,hcc⟩
  ·subst h;simp at hn
  have Hn:=χ hn
  have Hc:=χ hcc
  have HF:=χ (Vw hR a)
  have HS:=χ (fun i b x (h:l[i]? =some (⟨b,x⟩:Rw))=>Xm (hR.fits i _ h))
  have hb:=ZW hR
  clear hn hr hcc hR
  go_enter Tryz.func160,Tryz.ntmps160
  go_wp2
  go_loopw [6] (fun i wr=>∃j:Nat,j<=16/\i=.int .i64 j/\Hid (∀(k:Nat) s,k<j->l[k]? =some s->¬ (s.refs≠0/\s.lab=a))/\∃q,wr=w.drewN q) (fun i _=>16-(intOf i).toNat)
  case atStart=>exact⟨0,qai _,rfl,χ (fun k s hk=>by omega),0,rfl⟩
  case round=>
   obtain⟨j,hj,rfl,Hf,q,rfl⟩:=hrel
   by_cases hlt:j<16
   ·obtain⟨⟨b,x⟩,QY⟩:∃r,l[j]? =some r:=⟨_,qab (by rw[Hn.out];exact hlt)⟩
    obtain⟨d0,d1⟩:=Hc.out j ⟨b,x⟩ QY
    have hx0:=HS.out j b x QY
    have HJ:=χ QY
    have hji:(j:Int)<16:=by omega
    clear QY
    by_cases hx:0<x
    ·have g1:decide (0<x)=true:=decide_eq_true hx
     by_cases oJ:b=a
     ·subst oJ
      have g2:((b:Int)==(b:Int))=true:=by simp
      have HA:Hid (TT l b=some j):=χ (tC HJ.out (by show x≠0;omega) rfl Hf.out)
      clear hx0
      go_wp2_with (go_at_call 227;(with_reducible refine(YS l _ 16 c _ _ Hn.out (Hr.out.drewN q)).mono ?_);rintro e w1 ⟨he,q1,hw1⟩;obtain rfl:=he;rw[hb];subst hw1)
      go_ret2
      exact⟨by rw[HF.out,HA.out];rfl,q+q1,by first|rfl|rw[qal]⟩
     ·have g2:((b:Int)==(a:Int))=false:=by rw[QT];simp[oJ]
      have mJ:Hid (∀(k:Nat) s,k<j+1->l[k]? =some s->¬ (s.refs≠0/\s.lab=a)):=χ fun k s hk hs=>by
       by_cases e:k=j
       ·subst e
        rw[HJ.out]at hs
        injection hs with hs
        subst hs
        intro ⟨_,h⟩;exact oJ h
       ·exact Hf.out k s (by omega) hs
      clear hx0 oJ
      exact zt1
    ·have g1:decide (0<x)=false:=decide_eq_false hx
     have mJ:Hid (∀(k:Nat) s,k<j+1->l[k]? =some s->¬ (s.refs≠0/\s.lab=a)):=χ fun k s hk hs=>by
      by_cases e:k=j
      ·subst e
       rw[HJ.out]at hs
       injection hs with hs
       subst hs
       intro ⟨h,_⟩;exact h (by show x=0;omega)
      ·exact Hf.out k s (by omega) hs
     clear hx0
     exact zt1
   ·obtain rfl:j=16:=by omega
    have HA:Hid (TT l a=none):=χ (by
     cases hfa:TT l a with
     |none=>rfl
     |some i=>
      obtain⟨r,h1,h2,h3,_⟩:=Vx hfa
      exact absurd ⟨h2,h3⟩ (Hf.out i r (by have:=(qaa.1 h1).1;rw[Hn.out]at this;exact this) h1))
    go_wp2
    go_ret2
    exact⟨by rw[HF.out,HA.out];rfl,q,rfl⟩
 ·have hb:=ZN hR
  have HF:=χ (BF hR a)
  have Hn:=χ hn
  have Hr:=χ hr
  clear hR hn hr
  by_cases h0:n=0
  ·subst h0
   go_enter Tryz.func160,Tryz.ntmps160
   go_wp2
   go_loop [6] (fun i=>i=.int .i64 0) (fun _=>0)
   case atStart=>rfl
   case round=>
    obtain rfl:=hrel
    go_wp2
    go_ret2
    exact⟨by rw[HF.out];rfl,0,rfl⟩
  ·have h1:(0:Int)<(n:Int):=by omega
   go_enter Tryz.func160,Tryz.ntmps160
   go_wp2
   go_loop [6] (fun i=>i=.int .i64 0) (fun _=>0)
   case atStart=>rfl
   case round=>
    obtain rfl:=hrel
    go_wp2_with (go_at_call 227;(with_reducible refine(YS l _ n c _ _ Hn.out Hr.out).mono ?_);rintro e w1 ⟨he,q1,hw1⟩;obtain rfl:=he;rw[hb];subst hw1)
    go_ret2
    exact⟨by rw[HF.out];rfl,q1,rfl⟩
end Go.Proofs.YtmehhgfbnfbnaaaGreat.Z8

namespace Go.Proofs.YtmehhgfbnfbnaaaGreat.Z8
open Go.RowKit
section
variable {w w':qad}{r:Ha}{g n:Nat}{m:List Rw}
def Given(w w':qad)(v:qap)(m:List Rw):Prop:=w'.ownsRow w.heap.size 68 2 v m.length (ZV m)/\qaf w.heap.size w w'
theorem Lp(hb:qaf w.heap.size w w'):Given w w' (.slice none 0 0) []:=⟨qad.ownsRow_nil _ _ _ _,hb⟩
theorem Ph(hg:w.heap.size<=g)(hk:Bk w' g 68 (ZV m))(hm:m.length=16)(hb:qaf w.heap.size w w'):Given w w' (.slice g 16 16) m:=
 ⟨by
  rw[hm]
  exact⟨by rw[Zj,hm],.inr ⟨g,16,_,rfl,hg,hk,qat _,by decide,by simp[Zj,hm],List.take_of_length_le (by simp[Zj,hm])⟩⟩,hb⟩
def Ww(w:qad)(r:Ha)(e:Ending)(w':qad):Prop:=∃v,e=.returned (.tuple #[v,r.at_,r.err])/\Given w w' v r.rows
def Yh(w:qad)(r:Ha)(e:Ending)(w':qad):Prop:=∃v,e=.returned (.tuple #[v,r.err])/\Given w w' v r.rows
theorem Wt(hr:r=.bad n)(hb:qaf w.heap.size w w'):Ww w r (.returned (.tuple #[.slice none 0 0,(),n])) w':=by
 subst hr
 exact⟨_,rfl,Lp hb⟩
theorem Ye(hr:r=.bad n)(hb:qaf w.heap.size w w'):Yh w r (.returned (.tuple #[.slice none 0 0,n])) w':=by
 subst hr
 exact⟨_,rfl,Lp hb⟩
theorem Pg{i:Nat}(hr:r=⟨m,i,0⟩)(hm:m.length=16)(hg:w.heap.size<=g)(hk:Bk w' g 68 (ZV m))(hb:qaf w.heap.size w w'):
  Ww w r (.returned (.tuple #[.slice g 16 16,i,()])) w':=by
 subst hr
 exact⟨_,rfl,Ph hg hk hm hb⟩
theorem Tk(hr:r=⟨m,0,0⟩)(hm:m.length=16)(hg:w.heap.size<=g)(hk:Bk w' g 68 (ZV m))(hb:qaf w.heap.size w w'):
  Yh w r (.returned (.tuple #[.slice g 16 16,()])) w':=by
 subst hr
 exact⟨_,rfl,Ph hg hk hm hb⟩
theorem fT(l:List Rw)(A:Option qaj)(n c a:Nat)(w:qad)(hn:l.length=n)(hr:Rd w w.heap.size A (ZV l))(hR:¬ Right l):
  qah Tryz.prog 176 #[.slice A n c,.int .u16 a] w fun e w'=>Ww w (ZH l a) e w':=by
 have Hn:=χ hn
 have Hr:=χ hr
 have hb:=ZN hR
 have HP:=χ (BH hR a)
 clear hn hr hR
 go_enter Tryz.func176,Tryz.ntmps176
 go_wp2_with (go_at_call 38;(with_reducible refine(Zb l A n c _ Hn.out Hr.out).mono ?_);rintro e w1 ⟨he,hb1⟩;obtain rfl:=he;rw[hb];have HB1:=χ hb1;clear hb1)
 go_ret3
 exact Wt HP.out HB1.out
theorem yU(l:List Rw)(A:Option qaj)(c a i:Nat)(w:qad)(hn:l.length=16)(hr:Rd w w.heap.size A (ZV l))(hR:Right l)(hf:TT l a=some i):
  qah Tryz.prog 176 #[.slice A 16 c,.int .u16 a] w fun e w'=>Ww w (ZH l a) e w':=by
 obtain⟨⟨b,x⟩,X6,hx0,oJ,_⟩:=Vx hf
 simp only at hx0 oJ
 subst oJ
 have hlo:=Xm (hR.fits i _ X6)
 have hhi:=WY (hR.fits i _ X6)
 simp only at hlo hhi
 obtain⟨B,o,rfl,hB,hcc⟩:∃B o,A=some ⟨B,o,none⟩/\B<w.heap.size/\(w.cell? ⟨B,o+i*2,none⟩=some (.int .u16 b)/\w.cell? ⟨B,o+i*2+1,none⟩=some (.int .i64 x)):=Ws hr X6
 have hi:i<16:=by rw[<-hn];exact(qaa.1 X6).1
 have hii:(i:Int)<16:=by omega
 have Hn:=χ hn
 have Hr:=χ hr
 have Hc:=χ hcc
 have hb:=ZW hR
 have HF:=χ (Vw hR b)
 have HA:=χ hf
 have HI:=χ X6
 have HL:=χ (fun h=>P9 hR hf X6 h)
 have HM:=χ (fun h=>P8 hR hf X6 h)
 clear hn hr hR hf X6 hcc
 by_cases hx:x=65535
 ·have HP:=χ (HL.out hx)
  clear HL HM
  subst hx
  go_enter Tryz.func176,Tryz.ntmps176
  go_wp2_with (first
   |(go_at_call 38;(with_reducible refine(Zb l _ 16 c _ Hn.out Hr.out).mono ?_);rintro e w1 ⟨he,hb1⟩;obtain rfl:=he;rw[hb];have HB1:=χ hb1;clear hb1)
   |(go_at_call 233;(with_reducible refine(QV l _ 16 c b _ Hn.out ((Hr.out.below HB1.out).more HB1.out.size) (by omega)).mono ?_);rintro e w2 ⟨he,hb2⟩;obtain rfl:=he;rw[HF.out,HA.out];have HB2:=χ (HB1.out.trans (hb2.mono HB1.out.size));have c0:=(HB2.out.cell hB).trans Hc.out.1;have c1:=(HB2.out.cell hB).trans Hc.out.2;have hB2:=qac hB HB2.out.size;clear hb2;simp only[JP,Option.getD_some,Option.isSome_some]))
  go_ret3
  exact Wt HP.out (HB2.out.alloc HB2.out.size _)
 ·have HP:=χ (HM.out hx)
  have g0:(x==65535)=false:=by simp[hx]
  have g1:IntKind.i64.wrap (x+1)=x+1:=by rw[IntKind.wrap_i64];omega
  clear HL HM
  go_enter Tryz.func176,Tryz.ntmps176
  go_wp2_with (first
   |(go_at_call 38;(with_reducible refine(Zb l _ 16 c _ Hn.out Hr.out).mono ?_);rintro e w1 ⟨he,hb1⟩;obtain rfl:=he;rw[hb];have HB1:=χ hb1;clear hb1)
   |(go_at_call 233;(with_reducible refine(QV l _ 16 c b _ Hn.out ((Hr.out.below HB1.out).more HB1.out.size) (by omega)).mono ?_);rintro e w2 ⟨he,hb2⟩;obtain rfl:=he;rw[HF.out,HA.out];have HB2:=χ (HB1.out.trans (hb2.mono HB1.out.size));have c0:=(HB2.out.cell hB).trans Hc.out.1;have c1:=(HB2.out.cell hB).trans Hc.out.2;have hB2:=qac hB HB2.out.size;clear hb2;simp only[JP,Option.getD_some,Option.isSome_some])
   |(go_at_call 234;(with_reducible refine(QU l _ c i b (x+1) _ Hn.out ((Hr.out.below (HB2.out.alloc HB2.out.size _)).more ((HB2.out.alloc HB2.out.size _).size)) hi).mono ?_);rintro e w5 ⟨g,he,hg,hk,hb5⟩;obtain rfl:=he;have HK:=χ hk;have V9:=χ ((HB2.out.alloc HB2.out.size _).trans (hb5.mono (HB2.out.alloc HB2.out.size _).size));have hgs:=qaq (HB2.out.alloc HB2.out.size _).size hg;clear hk hb5 hg))
  go_ret3
  exact Pg HP.out (by rw[qan,Hn.out]) hgs HK.out V9.out
theorem tJ(l:List Rw)(A:Option qaj)(c a:Nat)(w:qad)(hn:l.length=16)(hr:Rd w w.heap.size A (ZV l))(hR:Right l)(hf:TT l a=none):
  qah Tryz.prog 176 #[.slice A 16 c,.int .u16 a] w fun e w'=>Ww w (ZH l a) e w':=by
 have Hn:=χ hn
 have Hr:=χ hr
 have hb:=ZW hR
 have HF:=χ (Vw hR a)
 have HA:=χ hf
 have HL:=χ (fun h=>P7 hR hf h)
 have HM:=χ (fun i h=>NF (i:=i) hR hf h)
 clear hn hr hR hf
 have hg:l.findIdx? free=Vv l:=rfl
 cases hfr:Vv l with
 |none=>
  have HP:=χ (HL.out hfr)
  have HG:Hid (l.findIdx? free=none):=χ (hg.trans hfr)
  clear HL HM hg hfr
  go_enter Tryz.func176,Tryz.ntmps176
  go_wp2_with (first
   |(go_at_call 38;(with_reducible refine(Zb l _ 16 c _ Hn.out Hr.out).mono ?_);rintro e w1 ⟨he,hb1⟩;obtain rfl:=he;rw[hb];have HB1:=χ hb1;clear hb1)
   |(go_at_call 233;(with_reducible refine(QV l _ 16 c a _ Hn.out ((Hr.out.below HB1.out).more HB1.out.size) (by omega)).mono ?_);rintro e w2 ⟨he,hb2⟩;obtain rfl:=he;rw[HF.out,HA.out];have HB2:=χ (HB1.out.trans (hb2.mono HB1.out.size));clear hb2;simp only[JP,Option.getD_none,Option.isSome_none])
   |(go_at_call 100;(with_reducible refine(XW l _ 16 c _ Hn.out ((Hr.out.below HB2.out).more HB2.out.size) (by omega)).mono ?_);rintro e w3 ⟨he,hb3⟩;obtain rfl:=he;rw[HG.out];have HB3:=χ (HB2.out.trans (hb3.mono HB2.out.size));clear hb3;simp only[UN]))
  go_ret3
  exact Wt HP.out HB3.out
 |some i=>
  have hi:i<16:=by
   obtain⟨r,h1,_⟩:=Tj hfr
   have:=(qaa.1 h1).1
   rw[Hn.out]at this
   exact this
  have HP:=χ (HM.out i hfr)
  have HG:Hid (l.findIdx? free=some i):=χ (hg.trans hfr)
  clear HL HM hg hfr
  go_enter Tryz.func176,Tryz.ntmps176
  go_wp2_with (first
   |(go_at_call 38;(with_reducible refine(Zb l _ 16 c _ Hn.out Hr.out).mono ?_);rintro e w1 ⟨he,hb1⟩;obtain rfl:=he;rw[hb];have HB1:=χ hb1;clear hb1)
   |(go_at_call 233;(with_reducible refine(QV l _ 16 c a _ Hn.out ((Hr.out.below HB1.out).more HB1.out.size) (by omega)).mono ?_);rintro e w2 ⟨he,hb2⟩;obtain rfl:=he;rw[HF.out,HA.out];have HB2:=χ (HB1.out.trans (hb2.mono HB1.out.size));clear hb2;simp only[JP,Option.getD_none,Option.isSome_none])
   |(go_at_call 100;(with_reducible refine(XW l _ 16 c _ Hn.out ((Hr.out.below HB2.out).more HB2.out.size) (by omega)).mono ?_);rintro e w3 ⟨he,hb3⟩;obtain rfl:=he;rw[HG.out];have HB3:=χ (HB2.out.trans (hb3.mono HB2.out.size));clear hb3;simp only[UN])
   |(go_at_call 234;(with_reducible refine(QU l _ c i a 1 _ Hn.out ((Hr.out.below (HB3.out)).more ((HB3.out).size)) hi).mono ?_);rintro e w5 ⟨g,he,hg,hk,hb5⟩;obtain rfl:=he;have HK:=χ hk;have V9:=χ ((HB3.out).trans (hb5.mono (HB3.out).size));have hgs:=qaq (HB3.out).size hg;clear hk hb5 hg))
  go_ret3
  exact Pg HP.out (by rw[qan,Hn.out]) hgs HK.out V9.out
theorem Cb(l:List Rw)(A:Option qaj)(n c a:Nat)(w:qad)(hn:l.length=n)(hr:Rd w w.heap.size A (ZV l)):
  qah Tryz.prog 176 #[.slice A n c,.int .u16 a] w fun e w'=>Ww w (ZH l a) e w':=by
 by_cases hR:Right l
 ·have h16:=hR.len
  rw[hn]at h16
  subst h16
  cases hf:TT l a with
  |none=>exact tJ l A c a w hn hr hR hf
  |some i=>exact yU l A c a i w hn hr hR hf
 ·exact fT l A n c a w hn hr hR
theorem fQ(l:List Rw)(A:Option qaj)(n c:Nat)(row:Int)(w:qad)(hn:l.length=n)(hr:Rd w w.heap.size A (ZV l))(hR:¬ Right l):
  qah Tryz.prog 180 #[.slice A n c,row] w fun e w'=>Yh w (YH l row) e w':=by
 have Hn:=χ hn
 have Hr:=χ hr
 have hb:=ZN hR
 have HP:=χ (BG hR row)
 clear hn hr hR
 go_enter Tryz.func180,Tryz.ntmps180
 go_wp2_with (go_at_call 38;(with_reducible refine(Zb l _ n c _ Hn.out Hr.out).mono ?_);rintro e w1 ⟨he,hb1⟩;obtain rfl:=he;rw[hb];have HB1:=χ hb1;clear hb1)
 go_ret2
 exact Ye HP.out HB1.out
theorem mH(l:List Rw)(A:Option qaj)(c:Nat)(row:Int)(w:qad)(hn:l.length=16)(hr:Rd w w.heap.size A (ZV l))(hR:Right l)(h:¬ (0<=row/\row<16)):
  qah Tryz.prog 180 #[.slice A 16 c,row] w fun e w'=>Yh w (YH l row) e w':=by
 have Hn:=χ hn
 have Hr:=χ hr
 have hb:=ZW hR
 have HP:=χ (G6 (l:=l) h)
 clear hn hr hR
 by_cases h1:row<0
 ·exact zt2
 ·have h2:16<=row:=by omega
  exact zt2
theorem tH(l:List Rw)(A:Option qaj)(c i b:Nat)(w:qad)(hn:l.length=16)(hr:Rd w w.heap.size A (ZV l))(hR:Right l)(X6:l[i]? =some ⟨b,0⟩):
  qah Tryz.prog 180 #[.slice A 16 c,i] w fun e w'=>Yh w (YH l (i:Int)) e w':=by
 obtain⟨B,o,rfl,hB,hcc⟩:∃B o,A=some ⟨B,o,none⟩/\B<w.heap.size/\(w.cell? ⟨B,o+i*2,none⟩=some (.int .u16 b)/\w.cell? ⟨B,o+i*2+1,none⟩=some (.int .i64 0)):=Ws hr X6
 have hi:i<16:=by rw[<-hn];exact(qaa.1 X6).1
 have hi0:(0:Int)<=(i:Int):=qag _
 have hii:(i:Int)<16:=by omega
 have hij:¬ ((i:Int)<0):=by omega
 have hik:¬ ((16:Int)<=(i:Int)):=by omega
 have Hn:=χ hn
 have Hr:=χ hr
 have Hc:=χ hcc
 have hb:=ZW hR
 have HP:=χ (Ls hR X6 rfl)
 clear hn hr hR X6 hcc
 go_enter Tryz.func180,Tryz.ntmps180
 go_wp2_with (first
  |(go_at_call 38;(with_reducible refine(Zb l _ 16 c _ Hn.out Hr.out).mono ?_);rintro e w1 ⟨he,hb1⟩;obtain rfl:=he;rw[hb];have HB1:=χ hb1;have c0:=(hb1.cell hB).trans Hc.out.1;have c1:=(hb1.cell hB).trans Hc.out.2;have hB1:=qac hB hb1.size;clear hb1)
  |(go_at_call 99;(with_reducible refine(YZ b 0 _).mono ?_);rintro e w2 ⟨he,hw2⟩;obtain rfl:=he;have HB2:=χ (by subst hw2;exact(HB1.out.alloc HB1.out.size _).alloc (by have:=HB1.out.size;simp;omega) _:qaf w.heap.size w w2);clear hw2))
 go_ret2
 exact Ye HP.out HB2.out
theorem mG(l:List Rw)(A:Option qaj)(c i b:Nat)(w:qad)(hn:l.length=16)(hr:Rd w w.heap.size A (ZV l))(hR:Right l)(X6:l[i]? =some ⟨b,1⟩):
  qah Tryz.prog 180 #[.slice A 16 c,i] w fun e w'=>Yh w (YH l (i:Int)) e w':=by
 have hhi:=WY (hR.fits i _ X6)
 simp only at hhi
 obtain⟨B,o,rfl,hB,hcc⟩:∃B o,A=some ⟨B,o,none⟩/\B<w.heap.size/\(w.cell? ⟨B,o+i*2,none⟩=some (.int .u16 b)/\w.cell? ⟨B,o+i*2+1,none⟩=some (.int .i64 1)):=Ws hr X6
 have hi:i<16:=by rw[<-hn];exact(qaa.1 X6).1
 have hi0:(0:Int)<=(i:Int):=qag _
 have hii:(i:Int)<16:=by omega
 have hij:¬ ((i:Int)<0):=by omega
 have hik:¬ ((16:Int)<=(i:Int)):=by omega
 have Hn:=χ hn
 have Hr:=χ hr
 have Hc:=χ hcc
 have hb:=ZW hR
 have HP:=χ ((UC hR X6 (by show(1:Int)≠0;decide)).trans (by rfl:_=(⟨l.set i .z,0,0⟩:Ha)))
 clear hn hr hR X6 hcc
 go_enter Tryz.func180,Tryz.ntmps180
 go_wp2_with (first
  |(go_at_call 38;(with_reducible refine(Zb l _ 16 c _ Hn.out Hr.out).mono ?_);rintro e w1 ⟨he,hb1⟩;obtain rfl:=he;rw[hb];have HB1:=χ hb1;have c0:=(hb1.cell hB).trans Hc.out.1;have c1:=(hb1.cell hB).trans Hc.out.2;have hB1:=qac hB hb1.size;clear hb1)
  |(go_at_call 99;(with_reducible refine(YZ b 1 _).mono ?_);rintro e w2 ⟨he,hw2⟩;obtain rfl:=he;have K2:Bk w2 w1.heap.size 68 [.int .u16 b,.int .i64 1]:=(by subst hw2;exact(Bk.new w1 68 [.int .u16 b,.int .i64 1]).below (ZR _ _) (by simp));have HB2:=χ (by subst hw2;exact(HB1.out.alloc HB1.out.size _).alloc (by have:=HB1.out.size;simp;omega) _:qaf w.heap.size w w2);have d0:=K2.cell 0;have d1:=K2.cell 1;have f0:=K2.frozen 0;have f1:=K2.frozen 1;have hs2:=K2.lt;have Lm:=χ K2;clear hw2 K2)
  |(go_at_call 99;(with_reducible refine(YZ b 0 _).mono ?_);rintro e w3 ⟨he,hw3⟩;obtain rfl:=he;have K3:Bk w3 w1.heap.size 68 [.int .u16 b,.int .i64 0]:=(by subst hw3;exact(Lm.out.set 1 (.int .i64 0)).below (ZR _ _) (Lm.out.set 1 (.int .i64 0)).lt);have HB3:=χ (by subst hw3;exact(HB2.out.setCell (p:=⟨w1.heap.size,1,none⟩) HB1.out.size _).alloc (by have:=HB2.out.size;simp[qad.setCell];omega) _:qaf w.heap.size w w3);have k0:=K3.cell 0;have k1:=K3.cell 1;have j0:=K3.frozen 0;have hs3:=K3.lt;clear hw3 K3)
  |(go_at_call 234;(with_reducible refine(yT l _ c i _ Hn.out ((Hr.out.below (HB3.out.setCell (p:=⟨w1.heap.size,0,none⟩) HB1.out.size (.int .u16 0))).more ((HB3.out.setCell (p:=⟨w1.heap.size,0,none⟩) HB1.out.size (.int .u16 0)).size)) hi).mono ?_);rintro e w5 ⟨g,he,hg,hk,hb5⟩;obtain rfl:=he;have HK:=χ hk;have V9:=χ ((HB3.out.setCell (p:=⟨w1.heap.size,0,none⟩) HB1.out.size (.int .u16 0)).trans (hb5.mono (HB3.out.setCell (p:=⟨w1.heap.size,0,none⟩) HB1.out.size (.int .u16 0)).size));have hgs:=qaq (HB3.out.setCell (p:=⟨w1.heap.size,0,none⟩) HB1.out.size (.int .u16 0)).size hg;clear hk hb5 hg))
 go_ret2
 exact Tk HP.out (by rw[qan,Hn.out]) hgs HK.out V9.out
theorem tF(l:List Rw)(A:Option qaj)(c i b:Nat)(x:Int)(w:qad)(hn:l.length=16)(hr:Rd w w.heap.size A (ZV l))(hR:Right l)(X6:l[i]? =some ⟨b,x⟩)(h1:1<x):
  qah Tryz.prog 180 #[.slice A 16 c,i] w fun e w'=>Yh w (YH l (i:Int)) e w':=by
 have hhi:=WY (hR.fits i _ X6)
 simp only at hhi
 obtain⟨B,o,rfl,hB,hcc⟩:∃B o,A=some ⟨B,o,none⟩/\B<w.heap.size/\(w.cell? ⟨B,o+i*2,none⟩=some (.int .u16 b)/\w.cell? ⟨B,o+i*2+1,none⟩=some (.int .i64 x)):=Ws hr X6
 have hi:i<16:=by rw[<-hn];exact(qaa.1 X6).1
 have hi0:(0:Int)<=(i:Int):=qag _
 have hii:(i:Int)<16:=by omega
 have hij:¬ ((i:Int)<0):=by omega
 have hik:¬ ((16:Int)<=(i:Int)):=by omega
 have Hn:=χ hn
 have Hr:=χ hr
 have Hc:=χ hcc
 have hb:=ZW hR
 have HP:=χ ((UC hR X6 (by show x≠0;omega)).trans (by unfold Rw.less;rw[if_neg (by show ¬ x=1;omega)]:_=(⟨l.set i ⟨b,x-1⟩,0,0⟩:Ha)))
 clear hn hr hR X6 hcc
 have g0:(x==0)=false:=by simp;omega
 have g1:(x-1==0)=false:=by simp;omega
 have g2:IntKind.i64.wrap (x-1)=x-1:=by rw[IntKind.wrap_i64];omega
 go_enter Tryz.func180,Tryz.ntmps180
 go_wp2_with (first
  |(go_at_call 38;(with_reducible refine(Zb l _ 16 c _ Hn.out Hr.out).mono ?_);rintro e w1 ⟨he,hb1⟩;obtain rfl:=he;rw[hb];have HB1:=χ hb1;have c0:=(hb1.cell hB).trans Hc.out.1;have c1:=(hb1.cell hB).trans Hc.out.2;have hB1:=qac hB hb1.size;clear hb1)
  |(go_at_call 99;(with_reducible refine(YZ b x _).mono ?_);rintro e w2 ⟨he,hw2⟩;obtain rfl:=he;have K2:Bk w2 w1.heap.size 68 [.int .u16 b,.int .i64 x]:=(by subst hw2;exact(Bk.new w1 68 [.int .u16 b,.int .i64 x]).below (ZR _ _) (by simp));have HB2:=χ (by subst hw2;exact(HB1.out.alloc HB1.out.size _).alloc (by have:=HB1.out.size;simp;omega) _:qaf w.heap.size w w2);have d0:=K2.cell 0;have d1:=K2.cell 1;have f0:=K2.frozen 0;have f1:=K2.frozen 1;have hs2:=K2.lt;have Lm:=χ K2;clear hw2 K2)
  |(go_at_call 99;(with_reducible refine(YZ b (x-1) _).mono ?_);rintro e w3 ⟨he,hw3⟩;obtain rfl:=he;have K3:Bk w3 w1.heap.size 68 [.int .u16 b,.int .i64 (x-1)]:=(by subst hw3;exact(Lm.out.set 1 (.int .i64 (x-1))).below (ZR _ _) (Lm.out.set 1 (.int .i64 (x-1))).lt);have HB3:=χ (by subst hw3;exact(HB2.out.setCell (p:=⟨w1.heap.size,1,none⟩) HB1.out.size _).alloc (by have:=HB2.out.size;simp[qad.setCell];omega) _:qaf w.heap.size w w3);have k0:=K3.cell 0;have k1:=K3.cell 1;have j0:=K3.frozen 0;have hs3:=K3.lt;clear hw3 K3)
  |(go_at_call 234;(with_reducible refine(QU l _ c i b (x-1) _ Hn.out ((Hr.out.below (HB3.out)).more ((HB3.out).size)) hi).mono ?_);rintro e w5 ⟨g,he,hg,hk,hb5⟩;obtain rfl:=he;have HK:=χ hk;have V9:=χ ((HB3.out).trans (hb5.mono (HB3.out).size));have hgs:=qaq (HB3.out).size hg;clear hk hb5 hg))
 go_ret2
 exact Tk HP.out (by rw[qan,Hn.out]) hgs HK.out V9.out
theorem nK(l:List Rw)(A:Option qaj)(n c:Nat)(row:Int)(w:qad)(hn:l.length=n)(hr:Rd w w.heap.size A (ZV l)):
  qah Tryz.prog 180 #[.slice A n c,row] w fun e w'=>Yh w (YH l row) e w':=by
 by_cases hR:Right l
 ·have h16:=hR.len
  rw[hn]at h16
  subst h16
  by_cases h:0<=row/\row<16
  ·obtain⟨i,rfl⟩:∃i:Nat,row=(i:Int):=⟨row.toNat,by omega⟩
   obtain⟨⟨b,x⟩,X6⟩:∃r,l[i]? =some r:=⟨_,qab (by omega)⟩
   have hlo:=Xm (hR.fits i _ X6)
   simp only at hlo
   rcases Int.lt_trichotomy x 1 with hx|rfl|hx
   ·obtain rfl:x=0:=by omega
    exact tH l A c i b w hn hr hR X6
   ·exact mG l A c i b w hn hr hR X6
   ·exact tF l A c i b x w hn hr hR X6 hx
  ·exact mH l A c row w hn hr hR h
 ·exact fQ l A n c row w hn hr hR
end
end Go.Proofs.YtmehhgfbnfbnaaaGreat.Z8

namespace Go.Proofs.YtmehhgfbnfbnaaaGreat.Z8
open Go.RowKit
section
variable {w:qad}{base g c i:Nat}{l:List Rw}{ops:Array Oper}{rest:List Oper}{o:Oper}{a:Act}{Q:Exit->Act->qad->Prop}{r:Rw}
theorem Mj{P:Program}(w:qad)(base:Nat)(t ty e:qav)(size:Nat)(i:TypeInfo)(ht:P.underlying t=some (.slice e))(hi:P.info? e=some i)(v:qap)(n:Nat)(xs:List qap)(hown:w.ownsRow base e size v n xs)(c:Nat):(qao #[t,t] ty #[v,.slice none 0 c]).run P w=.ok v w:=by
 rcases hown.2 with⟨rfl,rfl⟩|⟨g,cap,cur,rfl,_,_,hnc,_⟩
 ·simp[qao,qau ht,sizeOf,typeInfo,hi,qaw,qas]
 ·simp[qao,qau ht,sizeOf,typeInfo,hi,qaw,qas,hnc,storeCells]
theorem tK(w:qad)(base:Nat)(ty:qav)(v:qap)(k:List Rw)(hown:w.ownsRow base 68 2 v k.length (ZV k))(B:Nat)(A:Option qaj)(m c:Nat)(l:List Rw)(hm:l.length=m)(hr:Rd w B A (ZV l))(h63:k.length+m<=1000000)(hbase:base<=w.heap.size):
  ∃v' w',(qao #[56,56] ty #[v,.slice A m c]).run Tryz.prog w=.ok v' w'/\w'.ownsRow base 68 2 v' (k++l).length (ZV (k++l))/\w.grownBy w' v.ownBlock:=by
 obtain⟨i0,hi,hz0,hz1,hz2⟩:=info_parts Et
 cases A with
 |none=>
  have hn:ZV l=[]:=by
   rcases hr with h|⟨_,_,h,_⟩
   ·exact h
   ·cases h
  have h0:l=[]:=Lr (m:=[]) hn
  subst h0
  obtain rfl:m=0:=by simpa using hm.symm
  exact⟨v,w,Mj w base 56 ty 68 2 i0 Tryz.underlying56 hi v _ _ hown c,by simpa using hown,qad.grownBy.refl w _⟩
 |some ad=>
  obtain⟨v',w',hrun,h2,h3,_⟩:=run_append_own (P:=Tryz.prog) w base 56 ty 68 i0 (.agg #[.int .u16 0,()]) 2 16 Tryz.underlying56 hi hz0 hz1 hz2 rfl (by omega) v k.length (ZV k) hown ad m c (ZV l) (by rw[Zj,hm]) (by
   rcases hr with h|⟨b,o,h,_,hc⟩
   ·rw[h]
    intro j u hu
    simp at hu
   ·injection h with h
    subst h
    intro j u hu
    rw[qaj.add_lit]
    exact hc j u hu) (PZ l) (by unfold maxLen;omega) (by omega) hbase
  refine⟨v',w',hrun,?_,h3⟩
  rw[List.length_append,hm,JO]
  exact h2
theorem GZ(w:qad)(hgd:o.guard=none)(s x:Operand)(ho:o.op=.call {callee:=.builtin .append,args:=#[s,x],argTypes:=#[56,56]})(base:Nat)(v:qap)(k:List Rw)(hs:a.eval s=v)(hown:w.ownsRow base 68 2 v k.length (ZV k))(B:Nat)(A:Option qaj)(m c:Nat)(l:List Rw)(hx:a.eval x=.slice A m c)(hm:l.length=m)(hr:Rd w B A (ZV l))(h63:k.length+m<=1000000)(hbase:base<=w.heap.size)(h:∀v' w',w'.ownsRow base 68 2 v' (k++l).length (ZV (k++l))->w.grownBy w' v.ownBlock->wpList Tryz.prog ops Q rest (a.put o.dst v') w'):wpList Tryz.prog ops Q (o::rest) a w:=by
 refine wpList_plain hgd fun K hK=>?_
 obtain⟨v',w',hrun,h2,h3⟩:=tK w base o.type v k hown B A m c l hm hr h63 hbase
 unfold Oper.wp execOp
 simp only[ho,resolve,invoke,builtin,Sem.run_bind,Sem.run_pure,Result.andThen_ok,List.map_toArray,List.map_cons,List.map_nil,hs,hx,hrun]
 exact hK _ _ (h v' w' h2 h3)
theorem WM(w:qad)(hgd:o.guard=none)(s x:Operand)(ho:o.op=.call {callee:=.builtin .append,args:=#[s,x],argTypes:=#[56,56]})(w0:qad)(hw:w=w0.alloc (.cells #[] 68))(hs:a.eval s=.slice w0.heap.size 0 0)(A:Option qaj)(m c:Nat)(l:List Rw)(hx:a.eval x=.slice A m c)(hm:l.length=m)(hr:Rd w0 w0.heap.size A (ZV l))(h63:m<=1000000)(h:∀v' w',w'.ownsRow w0.heap.size 68 2 v' m (ZV l)->qaf w0.heap.size w0 w'->wpList Tryz.prog ops Q rest (a.put o.dst v') w'):wpList Tryz.prog ops Q (o::rest) a w:=by
 have hb:=ZR w0 (.cells #[] 68)
 have hk:w.ownsRow w0.heap.size 68 2 (.slice w0.heap.size 0 0) ([]:List Rw).length (ZV []):=by
  subst hw
  exact qad.ownsRow_lit w0 #[] 0 (qat _) (by decide) rfl
 subst hw
 refine GZ _ hgd s x ho w0.heap.size _ [] hs hk _ A m c l hx hm (hr.below hb) (by simpa using h63) hb.size fun v' w' h1 h2=>h v' w' ?_ ?_
 ·simpa[hm]using h1
 ·exact hb.grown h2 hb.size (by
   intro k hk
   simp only[qap.ownBlock,Option.some.injEq]at hk
   omega)
theorem G7{v:qap}(h:w.ownsRow base 68 2 v 16 (ZV l)):∃g c,v=.slice (some ⟨g,0,none⟩) 16 c/\base<=g:=by
 rcases h.2 with⟨_,h0⟩|⟨g,cap,_,hv,hb,_⟩
 ·omega
 ·exact⟨g,cap,hv,hb⟩
theorem SI(h:w.ownsRow base 68 2 (.slice g 16 c) 16 (ZV l))(hi:l[i]? =some r):
  w.cell? ⟨g,i*2,none⟩=some (.int .u16 r.lab)/\w.cell? ⟨g,i*2+1,none⟩=some (.int .i64 r.refs)/\w.frozen? ⟨g,i*2,none⟩=false/\w.frozen? ⟨g,i*2+1,none⟩=false/\g<w.heap.size:=by
 obtain⟨h1,h2⟩:=UF l i r hi
 have hl:l.length*2=32:=by have:=h.1;rw[Zj]at this;omega
 have hlt:i<l.length:=(qaa.1 hi).1
 have hg:g<w.heap.size:=(h.lt g rfl).2
 exact⟨(h.cellAt _ (by omega)).trans h1,(h.cellAt _ (by omega)).trans h2,h.frozenAt _,h.frozenAt _,hg⟩
theorem NG(h:w.ownsRow base 68 2 (.slice g 16 c) 16 (ZV l))(hi:l[i]? =some r)(x:Int):
  (w.setCell ⟨g,i*2+1,none⟩ (.int .i64 x)).ownsRow base 68 2 (.slice g 16 c) 16 (ZV (l.set i ⟨r.lab,x⟩)):=by
 have h1:=(h.stored (i*2+1) (.int .i64 x)).1
 have hlt:i<l.length:=(qaa.1 hi).1
 rw[Wu l i _ hlt]
 have e:(ZV l).set (i*2) (.int .u16 r.lab)=ZV l:=by
  obtain⟨h2,h3⟩:=qaa.1 (UF l i r hi).1
  rw[<-h3]
  exact List.set_getElem_self h2
 rw[e]
 exact h1
theorem mK(h:w.ownsRow base 68 2 (.slice g 16 c) 16 (ZV l))(hi:i<l.length)(a:Nat)(x:Int):
  ((w.setCell ⟨g,i*2,none⟩ (.int .u16 a)).setCell ⟨g,i*2+1,none⟩ (.int .i64 x)).ownsRow base 68 2 (.slice g 16 c) 16 (ZV (l.set i ⟨a,x⟩)):=by
 rw[Wu l i _ hi]
 exact((h.stored (i*2) (.int .u16 a)).1.stored (i*2+1) (.int .i64 x)).1
end
end Go.Proofs.YtmehhgfbnfbnaaaGreat.Z8
