import Derived.Test.YtmehhgfbnfbnaaaGreatQVolH
import Derived.Test.YtmehhgfbnfbnaaaGreatQTk
import Derived.Test.YtmehhgfbnfbnaaaGreatQDisk
set_option maxRecDepth 100000
set_option maxHeartbeats 25600000
open List renaming mem_or_eq_of_mem_set->qaa,getElem?_eq_some_iff->qab,getElem?_eq_getElem->qac,mem_of_getElem?->qad,length_set->qag,countP_pos_iff->qah
open Int renaming natCast_mul->qae
open Bool renaming and_eq_true->qaf
open Nat renaming lt_of_lt_of_le->qai,div_lt_iff_lt_mul->qak,lt_or_ge->qal,mul_lt_mul_of_pos_right->qam,div_eq_iff->qan,le_trans->qap
open Option.some renaming inj->qaj
open Go renaming World->qao
namespace Go.Proofs.YtmehhgfbnfbnaaaGreat
theorem zrq0{P:Prop}(h:P:=by
 obtain rfl:r'=r:=by omega
 rw[h7]at h11
 cases h11
 have:=ho.right.rows.Er h7 (by omega)
 rw[h8,hf]at this
 exact(qaj this).symm):P:=h
end Go.Proofs.YtmehhgfbnfbnaaaGreat
namespace Go.Proofs.YtmehhgfbnfbnaaaGreat.Zl
open Go.RowKit Zq Meta
section
variable {α:Type}{i:Nat}
theorem SX(p:α->Bool){l:List α}{x:α}(a:α)(h:l[i]? =some x):(l.set i a).countP p+(if p x=true then 1 else 0)=l.countP p+(if p a=true then 1 else 0):=by
 obtain⟨hi,hx⟩:=qab.1 h
 rw[List.countP_set hi,hx]
 have h1:(if p x=true then 1 else 0)<=l.countP p:=by
  split
  ·next hp=>exact qah.2 ⟨x,qad h,hp⟩
  ·exact Nat.zero_le _
 omega
theorem UT{l:List α}{k:Nat}{a s:α}(h:(l.set i a)[k]? =some s):(k=i/\s=a)\/(k≠i/\l[k]? =some s):=by
 rw[List.getElem?_set]at h
 by_cases hk:i=k
 ·subst hk
  rw[if_pos rfl]at h
  split at h
  ·exact .inl ⟨rfl,(qaj h).symm⟩
  ·cases h
 ·rw[if_neg hk]at h
  exact .inr ⟨fun e=>hk e.symm,h⟩
def WS(l:List Int)(r:Nat):Nat:=l.countP (fun o=>o==((r:Int)+1))
def Vm(l:List Z9.ZC)(r:Nat):Nat:=l.countP (fun n=>n.k != 0&&n.r==r)
structure Ord(j i g pp:Nat)(m:Meta.Met):Prop where
 right:Meta.Right ⟨j,i,g,pp⟩ m
 Vk:Rc m
 used:∀(q:Nat)(o:Int),m.own[q]? =some o->(o=0↔∀a:Nat,a/pp=q->Bits.hb m.used a=false)
 refs:∀(r:Nat)(y:Z8.Rw),m.rows[r]? =some y->y.refs=((WS m.own r+Vm m.ino r:Nat):Int)
end
section
variable {j i g pp:Nat}{m:Meta.Met}
section
variable {a q:Nat}
theorem Ord.rl (h:Ord j i g pp m):m.rows.length=16:=h.right.rows.len
theorem Ord.ol (h:Ord j i g pp m):m.own.length=g:=by have:=h.right.OV;simp only at this;omega
theorem Ord.ul (h:Ord j i g pp m):m.used.length=64:=h.right.NY
theorem Ord.il (h:Ord j i g pp m):m.ino.length=i:=by have:=h.right.Sk;simp only at this;omega
theorem Ord.gp (h:Ord j i g pp m):g*pp<=512:=by have:=h.right.YV.gp;simp only at this;rw[<-qae]at this;omega
theorem Ord.xh (h:Ord j i g pp m):0<pp:=by have:=h.right.YV.p1;simp only at this;omega
theorem Ord.row (h:Ord j i g pp m){o:Int}(hq:m.own[q]? =some o):o=0\/∃(r:Nat)(y:Z8.Rw),o=(r:Int)+1/\m.rows[r]? =some y/\0<y.refs:=by
 obtain⟨h1,h2⟩:=h.right.own o (qad hq)
 by_cases h0:o=0
 ·exact .inl h0
 have hr:(o-1).toNat<m.rows.length:=by rw[h.rl];omega
 refine .inr ⟨(o-1).toNat,m.rows[(o-1).toNat],by omega,qac hr,?_⟩
 rw[h.refs _ _ (qac hr)]
 have:0<WS m.own (o-1).toNat:=qah.2 ⟨o,qad hq,by simp;omega⟩
 omega
theorem Ord.own (h:Ord j i g pp m):∀(q:Nat)(o:Int),m.own[q]? =some o->o=0\/∃(r:Nat)(y:Z8.Rw),o=(r:Int)+1/\m.rows[r]? =some y:=fun q o hq=>by
 rcases h.row hq with h0|⟨r,y,h1,h2,-⟩
 ·exact .inl h0
 ·exact .inr ⟨r,y,h1,h2⟩
theorem Ord.dn (h:Ord j i g pp m){n:Z9.ZC}(hn:n∈m.ino)(hk:n.k≠0):∃y,m.rows[n.r]? =some y/\0<y.refs:=by
 rcases h.right.ino n hn with h0|h0
 ·subst h0;exact absurd rfl hk
 have hr:n.r<m.rows.length:=by rw[h.rl];exact h0.row
 refine⟨m.rows[n.r],qac hr,?_⟩
 rw[h.refs _ _ (qac hr)]
 have:0<Vm m.ino n.r:=qah.2 ⟨n,hn,by simp[hk]⟩
 omega
theorem Ord.group (h:Ord j i g pp m)(ha:a<g*pp):∃o,m.own[a/pp]? =some o:=⟨_,qac (by rw[h.ol];exact(qak h.xh).2 ha)⟩
theorem Ord.bit (h:Ord j i g pp m)(hb:Bits.hb m.used a=true):a<g*pp:=by
 rcases qal a (g*pp)with h1|h1
 ·exact h1
 rcases qal a 512 with h2|h2
 ·have:=h.right.used a (by simp only;rw[<-qae];omega) h2
  rw[hb]at this;cases this
 ·have:=Bits.Ep m.used a (by rw[h.ul];omega)
  rw[hb]at this;cases this
theorem Ord.held (h:Ord j i g pp m)(hb:Bits.hb m.used a=true):∃(r:Nat)(y:Z8.Rw),m.own[a/pp]? =some ((r:Int)+1)/\m.rows[r]? =some y/\0<y.refs/\y.lab<65536:=by
 obtain⟨o,ho⟩:=h.group (h.bit hb)
 rcases h.row ho with h0|⟨r,y,h1,h2,h3⟩
 ·have:=(h.used _ _ ho).1 h0 a rfl
  rw[hb]at this;cases this
 ·subst h1
  exact⟨r,y,ho,h2,h3,(h.Vk.rows y (qad h2)).lab⟩
theorem KF{u:List UInt8}(hp:0<pp):X4 pp u q=true↔∃a:Nat,a/pp=q/\Bits.hb u a=true:=by
 unfold X4 Bits.cnt
 rw[decide_eq_true_iff,qah]
 have hm:∀a:Nat,a/pp=q↔((q:Int)*(pp:Int)<=(a:Int)/\(a:Int)<(q:Int)*(pp:Int)+(pp:Int)):=fun a=>by
  rw[qan hp,<-qae]
  constructor
  ·rintro ⟨h1,h2⟩;omega
  ·rintro ⟨h1,h2⟩;omega
 constructor
 ·rintro ⟨a,h1,h2⟩
  simp only[Bits.cnd,qaf,decide_eq_true_eq,beq_iff_eq]at h2
  exact⟨a,(hm a).2 h2.1,h2.2⟩
 ·rintro ⟨a,h1,h2⟩
  refine⟨a,?_,?_⟩
  ·rcases qal a (8*u.length)with h|h
   ·exact List.mem_range.2 h
   ·rw[Bits.Ep u a h]at h2;cases h2
  ·simp only[Bits.cnd,qaf,decide_eq_true_eq,beq_iff_eq]
   exact⟨(hm a).1 h1,h2⟩
end
end
section
variable {l:List Z8.Rw}{a q:Nat}{y:Z8.Rw}
theorem I9(h:Z8.Right l)(h0:(Z8.ZH l a).err=0):∃old,l[(Z8.ZH l a).at_]? =some old/\(old.refs≠0->old.lab=a)/\0<=old.refs/\old.refs<65535/\(Z8.ZH l a).rows=l.set (Z8.ZH l a).at_ ⟨a,old.refs+1⟩/\Z8.Right (Z8.ZH l a).rows:=by
 cases hf:Z8.TT l a with
 |some k=>
  obtain⟨r,h1,h2,h3,-⟩:=Z8.Vx hf
  by_cases hr:r.refs=65535
  ·rw[Z8.P9 h hf h1 hr]at h0;cases h0
  rw[Z8.P8 h hf h1 hr]
  have hfit:=h.fits _ _ h1
  have:=Z8.WY hfit
  refine⟨r,h1,fun _=>h3,Z8.Xm hfit,by omega,rfl,?_⟩
  simp only
  rw[<-h3]
  exact h.more hf h1 hr
 |none=>
  cases hg:Z8.Vv l with
  |none=>rw[Z8.P7 h hf hg]at h0;cases h0
  |some k=>
   obtain⟨r,h1,h2,-⟩:=Z8.Tj hg
   rw[Z8.NF h hf hg]
   refine⟨r,h1,fun hn=>absurd h2 hn,by omega,by omega,?_,h.new hf hg⟩
   simp only[h2]
   rfl
theorem SV(h:Z8.Right l)(h0:(Z8.ZH l a).err=0):(Z8.ZH l a).at_<16:=by
 obtain⟨old,h1,-⟩:=I9 h h0
 have:=(qab.1 h1).1
 rwa[h.len]at this
theorem KG(y:Z8.Rw):y.less.refs=y.refs-1:=by
 unfold Z8.Rw.less
 split
 ·next h=>rw[h];rfl
 ·rfl
theorem Ou{k:Nat}(h:Z8.zy l)(hy:y.Ok):Z8.zy (l.set k y):=fun r hr=>by
 rcases qaa hr with h1|h1
 ·exact h r h1
 ·subst h1;exact hy
theorem AO(h:y.Ok)(h0:0<y.refs):y.less.Ok:=by
 unfold Z8.Rw.less
 split
 ·exact⟨by decide,by decide,by decide⟩
 ·have:=h.hi
  exact⟨h.lab,by simp only;omega,by simp only;omega⟩
theorem Fw{l:List Int}{o:Int}(v:Int)(h:l[q]? =some o)(r:Nat):WS (l.set q v) r+(if o=(r:Int)+1 then 1 else 0)=WS l r+(if v=(r:Int)+1 then 1 else 0):=by
 have:=SX (fun o:Int=>o==((r:Int)+1)) v h
 simp only[beq_iff_eq]at this
 exact this
theorem pU{l:List Z9.ZC}{o:Z9.ZC}(v:Z9.ZC)(h:l[q]? =some o)(r:Nat):Vm (l.set q v) r+(if o.k≠0/\o.r=r then 1 else 0)=Vm l r+(if v.k≠0/\v.r=r then 1 else 0):=by
 have:=SX (fun n:Z9.ZC=>n.k != 0&&n.r==r) v h
 simp only[qaf,bne_iff_ne,ne_eq,beq_iff_eq]at this
 exact this
end
section
variable {j i g pp:Nat}{m:Meta.Met}
section
variable {a q:Nat}
theorem Ord.take (h:Ord j i g pp m){n0:Nat}{o:Int}(hn:n0<g*pp)(ho:m.own[n0/pp]? =some o)(h0:o≠0):Ord j i g pp (Yy m n0) where
 right:=⟨h.right.YV,h.right.rows,h.right.OV,h.right.own,by unfold Yy;simp only;rw[Bits.XK];exact h.right.NY,fun k h1 h2=>by
  unfold Yy
  simp only
  have V8:=h.gp
  rw[Bits.UY _ _ _ _ (by rw[h.ul];omega),if_neg (by simp only at h1;rw[<-qae]at h1;omega)]
  exact h.right.used k h1 h2,h.right.Sk,h.right.ino⟩
 Vk:=⟨h.Vk.rows,h.Vk.own,h.Vk.ino⟩
 refs:=h.refs
 used q v hv:=by
  have V8:=h.gp
  unfold Yy
  simp only
  have hv:m.own[q]? =some v:=hv
  by_cases hq:n0/pp=q
  ·subst hq
   rw[ho]at hv
   obtain rfl:=qaj hv
   refine⟨fun e=>absurd e h0,fun e=>?_⟩
   have:=e n0 rfl
   rw[Bits.UY _ _ _ _ (by rw[h.ul];omega),if_pos rfl]at this
   cases this
  ·rw[h.used _ _ hv]
   constructor
   ·intro e a ha
    rw[Bits.UY _ _ _ _ (by rw[h.ul];omega),if_neg (fun e2=>hq (by rw[<-e2];exact ha))]
    exact e a ha
   ·intro e a ha
    have:=e a ha
    rwa[Bits.UY _ _ _ _ (by rw[h.ul];omega),if_neg (fun e2=>hq (by rw[<-e2];exact ha))]at this
theorem Ord.claim (h:Ord j i g pp m)(ha:a<65536)(hq:m.own[q]? =some 0)(h0:(Z8.ZH m.rows a).err=0):Ord j i g pp (Yy (YA m a q) (q*pp)):=by
 obtain⟨old,h1,h2,h3,h4,h5,h6⟩:=I9 h.right.rows h0
 have hlt:=SV h.right.rows h0
 unfold Yy YA
 generalize Z8.ZH m.rows a=R at*
 have hqg:q<g:=by have:=(qab.1 hq).1;rwa[h.ol]at this
 have OT:=h.xh
 have V8:=h.gp
 have hb:q*pp<g*pp:=qam hqg OT
 have hdv:q*pp/pp=q:=Nat.mul_div_cancel _ OT
 refine⟨⟨h.right.YV,h6,?_,?_,?_,?_,h.right.Sk,h.right.ino⟩,⟨?_,?_,h.Vk.ino⟩,?_,?_⟩
 ·simp only[qag];exact h.right.OV
 ·intro x hx
  rcases qaa hx with h7|h7
  ·exact h.right.own x h7
  ·omega
 ·simp only[Bits.XK];exact h.right.NY
 ·intro k h7 h8
  simp only at h7⊢
  rw[Bits.UY _ _ _ _ (by rw[h.ul];omega),if_neg (by rw[<-qae]at h7;omega)]
  exact h.right.used k h7 h8
 ·simp only
  rw[h5]
  exact Ou h.Vk.rows ⟨ha,by simp only;omega,by simp only;omega⟩
 ·intro x hx
  rcases qaa hx with h7|h7
  ·exact h.Vk.own x h7
  ·omega
 ·intro k v hv
  simp only at hv⊢
  rcases UT hv with⟨rfl,rfl⟩|⟨hk,hv⟩
  ·refine⟨fun e=>by omega,fun e=>?_⟩
   have:=e (k*pp) hdv
   rw[Bits.UY _ _ _ _ (by rw[h.ul];omega),if_pos rfl]at this
   cases this
  ·rw[h.used _ _ hv]
   constructor
   ·intro e b hb2
    rw[Bits.UY _ _ _ _ (by rw[h.ul];omega),if_neg (fun e2=>hk (by rw[<-hb2,e2,hdv]))]
    exact e b hb2
   ·intro e b hb2
    have:=e b hb2
    rwa[Bits.UY _ _ _ _ (by rw[h.ul];omega),if_neg (fun e2=>hk (by rw[<-hb2,e2,hdv]))]at this
 ·intro r y hy
  simp only at hy⊢
  rw[h5]at hy
  have hc:=Fw (((R.at_:Nat):Int)+1) hq r
  rw[if_neg (show ¬ (0:Int)=(r:Int)+1 by omega)]at hc
  rcases UT hy with⟨rfl,rfl⟩|⟨hk,hy⟩
  ·rw[if_pos rfl]at hc
   have:=h.refs _ _ h1
   simp only
   omega
  ·rw[if_neg (show ¬ ((R.at_:Nat):Int)+1=(r:Int)+1 by omega)]at hc
   have:=h.refs _ _ hy
   omega
theorem Ord.free (h:Ord j i g pp m)(hb:Bits.hb m.used a=true)(hu:X4 pp (Bits.wb m.used a false) (a/pp)=true):Ord j i g pp (WE m a):=by
 have ha:=h.bit hb
 have V8:=h.gp
 have hw:∀k,Bits.hb (Bits.wb m.used a false) k=if k=a then false else Bits.hb m.used k:=fun k=>Bits.UY _ _ _ _ (by rw[h.ul];omega)
 obtain⟨a2,h1,h2⟩:=(KF h.xh).1 hu
 unfold WE
 refine⟨⟨h.right.YV,h.right.rows,h.right.OV,h.right.own,by simp only[Bits.XK];exact h.right.NY,fun k h7 h8=>?_,h.right.Sk,h.right.ino⟩,⟨h.Vk.rows,h.Vk.own,h.Vk.ino⟩,?_,h.refs⟩
 ·simp only
  rw[hw]
  split
  ·rfl
  ·exact h.right.used k h7 h8
 ·intro q v hv
  simp only at hv⊢
  by_cases hq:a/pp=q
  ·subst hq
   refine⟨fun e=>?_,fun e=>?_⟩
   ·have:=(h.used _ _ hv).1 e a rfl
    rw[hb]at this;cases this
   ·have:=e a2 h1
    rw[h2]at this;cases this
  ·rw[h.used _ _ hv]
   constructor
   ·intro e b hb2
    rw[hw]
    split
    ·rfl
    ·exact e b hb2
   ·intro e b hb2
    have:=e b hb2
    rwa[hw,if_neg (fun e2=>hq (by rw[<-e2];exact hb2))]at this
theorem Ord.last (h:Ord j i g pp m){r:Nat}(hb:Bits.hb m.used a=true)(hq:m.own[a/pp]? =some ((r:Int)+1))(hu:X4 pp (Bits.wb m.used a false) (a/pp)=false):(Z8.YH m.rows (r:Int)).err=0/\Ord j i g pp (RX m pp a r):=by
 have ha:=h.bit hb
 have V8:=h.gp
 have hw:∀k,Bits.hb (Bits.wb m.used a false) k=if k=a then false else Bits.hb m.used k:=fun k=>Bits.UY _ _ _ _ (by rw[h.ul];omega)
 have hall:∀k,k/pp=a/pp->Bits.hb (Bits.wb m.used a false) k=false:=fun k hk=>by
  cases h2:Bits.hb (Bits.wb m.used a false) k with
  |false=>rfl
  |true=>
   rw[(KF h.xh).2 ⟨k,hk,h2⟩]at hu
   cases hu
 rcases h.row hq with h9|⟨r',y,h1,h2,h3⟩
 ·omega
 obtain rfl:r'=r:=by omega
 have hrel:=Z8.UC h.right.rows h2 (by omega)
 rw[hrel]
 refine⟨rfl,?_⟩
 unfold RX
 rw[hrel]
 refine⟨⟨h.right.YV,h.right.rows.less h2 (by omega),?_,?_,by simp only[Bits.XK];exact h.right.NY,fun k h7 h8=>?_,h.right.Sk,h.right.ino⟩,⟨Ou h.Vk.rows (AO (h.Vk.rows y (qad h2)) h3),?_,h.Vk.ino⟩,?_,?_⟩
 ·simp only[qag];exact h.right.OV
 ·intro x hx
  rcases qaa hx with h7|h7
  ·exact h.right.own x h7
  ·omega
 ·simp only
  rw[hw]
  split
  ·rfl
  ·exact h.right.used k h7 h8
 ·intro x hx
  rcases qaa hx with h7|h7
  ·exact h.Vk.own x h7
  ·omega
 ·intro q v hv
  simp only at hv⊢
  rcases UT hv with⟨rfl,rfl⟩|⟨hk,hv⟩
  ·exact⟨fun _=>hall,fun _=>rfl⟩
  ·rw[h.used _ _ hv]
   constructor
   ·intro e b hb2
    rw[hw]
    split
    ·rfl
    ·exact e b hb2
   ·intro e b hb2
    have:=e b hb2
    rwa[hw,if_neg (fun e2=>hk (by rw[<-hb2,e2]))]at this
 ·intro k v hv
  simp only at hv⊢
  have hc:=Fw 0 hq k
  rw[if_neg (show ¬ (0:Int)=(k:Int)+1 by omega)]at hc
  rcases UT hv with⟨rfl,rfl⟩|⟨hk,hv⟩
  ·rw[if_pos rfl]at hc
   have:=h.refs _ _ h2
   rw[KG]
   omega
  ·rw[if_neg (show ¬ (r':Int)+1=(k:Int)+1 by omega)]at hc
   have:=h.refs _ _ hv
   omega
theorem Ord.inode (h:Ord j i g pp m){o v:Z9.ZC}(hq:m.ino[q]? =some o)(hv:Z9.Right v)(hov:Z9.YP v){rows:List Z8.Rw}(hr:Z8.Right rows)(hok:Z8.zy rows)(hrefs:∀(r:Nat)(y:Z8.Rw),rows[r]? =some y->∃y0,m.rows[r]? =some y0/\y.refs+(if o.k≠0/\o.r=r then 1 else 0)=y0.refs+(if v.k≠0/\v.r=r then 1 else 0)):Ord j i g pp {m with rows:=rows,ino:=m.ino.set q v}:=by
 refine⟨⟨h.right.YV,hr,h.right.OV,h.right.own,h.right.NY,h.right.used,?_,?_⟩,⟨hok,h.Vk.own,?_⟩,h.used,?_⟩
 ·simp only[qag];exact h.right.Sk
 ·intro x hx
  rcases qaa hx with h7|h7
  ·exact h.right.ino x h7
  ·rw[h7];exact hv
 ·intro x hx
  rcases qaa hx with h7|h7
  ·exact h.Vk.ino x h7
  ·rw[h7];exact hov
 ·intro r y hy
  simp only at hy⊢
  obtain⟨y0,h1,h2⟩:=hrefs r y hy
  have hc:=pU v hq r
  have:=h.refs _ _ h1
  split at hc<;>split at hc<;>simp_all<;>omega
end
end
end Go.Proofs.YtmehhgfbnfbnaaaGreat.Zl

namespace Go.Proofs.YtmehhgfbnfbnaaaGreat.Zl
open Go.RowKit Zq Meta
structure PS where
 m:Meta.Met
 B:List (List UInt8)
 D:List (Option Nat)
def rowOf(pp:Nat)(m:Meta.Met)(a:Nat):Nat:=(m.own.getD (a/pp) 0-1).toNat
def Qw(pp:Nat)(m:Meta.Met)(a:Nat):Nat:=(m.rows.getD (rowOf pp m a) .z).lab
structure Yb(j i g pp:Nat)(s:PS):Prop where
 ord:Ord j i g pp s.m
 bl:s.B.length=g*pp
 dl:s.D.length=g*pp
 b64:∀b∈s.B,b.length=64
 zero:∀(a:Nat)(b:List UInt8),Bits.hb s.m.used a=false->s.B[a]? =some b->b=ZF
 tag:∀t,some t∈s.D->t<65536
noncomputable def Zi(pp:Nat)(s:PS)(a:Nat):PS × Nat × Nat:=
 match OZ pp s.m a with
 |some n0=>({s with m:=Yy s.m n0},n0,0)
 |none=>match TL s.m.own with
  |none=>(s,0,5)
  |some q=>if (Z8.ZH s.m.rows a).err=0 then({s with m:=Yy (YA s.m a q) (q*pp)},q*pp,0)else(s,0,(Z8.ZH s.m.rows a).err)
noncomputable def MI(pp:Nat)(m:Meta.Met)(a:Nat):Meta.Met:=if X4 pp (Bits.wb m.used a false) (a/pp)then WE m a else RX m pp a (rowOf pp m a)
def Rp(pp:Nat)(s:PS)(m:Meta.Met)(a:Nat)(b:List UInt8):PS:=⟨m,s.B.set a b,s.D.set a (some (Qw pp s.m a))⟩
noncomputable def WC(g pp:Nat)(s:PS)(a:Int):PS × Nat:=
 if 0<=a/\a<((g*pp:Nat):Int)then if Bits.hb s.m.used a.toNat then(Rp pp s (MI pp s.m a.toNat) a.toNat ZF,0)else(s,2)else(s,1)
noncomputable def YW(g pp:Nat)(s:PS)(a:Int)(b:List UInt8):PS × Nat:=
 if 0<=a/\a<((g*pp:Nat):Int)then if b.length=64 then if Bits.hb s.m.used a.toNat then(Rp pp s s.m a.toNat b,0)else(s,2)else(s,1)else(s,1)
def Vg(l:List Z9.ZC):Option Nat:=l.findIdx? (fun n=>n.k==0)
def IP(k r:Nat):Z9.ZC:=⟨k,r,0,0,[0,0,0,0,0,0,0,0,0,0]⟩
noncomputable def YX(s:PS)(k a:Nat):PS × Nat × Nat:=
 if k=1\/k=2 then
  match Vg s.m.ino with
  |none=>(s,0,5)
  |some q=>if (Z8.ZH s.m.rows a).err=0 then({s with m:={s.m with rows:=(Z8.ZH s.m.rows a).rows,ino:=s.m.ino.set q (IP k (Z8.ZH s.m.rows a).at_)}},q,0)else(s,0,(Z8.ZH s.m.rows a).err)
 else(s,0,1)
def YM(s:PS)(a:Int):Z9.ZC × Nat × Nat:=
 if 0<=a then
  match s.m.ino[a.toNat]? with
  |some n=>if n.k=0 then(.z,0,2)else(n,(s.m.rows.getD n.r .z).lab,0)
  |none=>(.z,0,1)
 else(.z,0,1)
noncomputable def Yw(s:PS)(a:Int):PS × Nat:=
 if (YM s a).2.2=0 then({s with m:={s.m with rows:=(Z8.YH s.m.rows ((YM s a).1.r:Int)).rows,ino:=s.m.ino.set a.toNat .z}},0)else(s,(YM s a).2.2)
noncomputable def Yc(s:PS)(a:Int)(n:Z9.ZC):PS × Nat:=
 if 0<=a/\a<(s.m.ino.length:Int)/\Z9.ZP n=true/\n.k≠0 then
  if (YM s a).2.2=0 then if n.k=(YM s a).1.k/\n.r=(YM s a).1.r then({s with m:={s.m with ino:=s.m.ino.set a.toNat n}},0)else(s,1)else(s,2)
 else(s,1)
section
variable {j i g pp:Nat}{s:PS}
section
variable {a q n0 k r:Nat}{m:Meta.Met}
theorem Qv(ho:Ord j i g pp m)(h:TK pp m a q=some n0):n0<g*pp/\n0/pp=q/\(∃(r:Nat)(y:Z8.Rw),m.own[q]? =some ((r:Int)+1)/\m.rows[r]? =some y/\y.lab=a)/\Bits.hb m.used n0=false/\∀k,k<n0->k/pp=q->Bits.hb m.used k=true:=by
 cases hq:m.own[q]? with
 |none=>unfold TK at h;rw[hq]at h;cases h
 |some o=>
  rcases ho.row hq with h0|⟨r,y,h1,h2,h3⟩
  ·subst h0;rw[FD hq]at h;cases h
  ·subst h1
   rw[Jb hq h2]at h
   split at h
   ·next hl=>
    unfold Bits.fst at h
    rw[List.find?_range_eq_some]at h
    obtain⟨h4,h5,h6⟩:=h
    have OT:=ho.xh
    have hm:∀a:Nat,((q:Int)*(pp:Int)<=(a:Int)/\(a:Int)<(q:Int)*(pp:Int)+(pp:Int))↔a/pp=q:=fun a=>by
     rw[qan ho.xh,<-qae]
     constructor
     ·rintro ⟨h1,h2⟩;omega
     ·rintro ⟨h1,h2⟩;omega
    simp only[Bits.cnd,qaf,decide_eq_true_eq,beq_iff_eq]at h4
    have hd:=(hm n0).1 h4.1
    refine⟨?_,hd,⟨r,y,rfl,h2,hl⟩,h4.2,fun k hk hkq=>?_⟩
    ·have hqg:q<g:=by have:=(qab.1 hq).1;rwa[ho.ol]at this
     rw[<-hd]at hqg
     exact(qak ho.xh).1 hqg
    ·have:=h6 k hk
     have hb:=(hm k).2 hkq
     simp only[Bits.cnd,decide_eq_true hb.1,decide_eq_true hb.2,Bool.true_and,Bool.not_eq_true',beq_eq_false_iff_ne,ne_eq,Bool.not_eq_false]at this
     exact this
   ·cases h
theorem Fy(ho:Ord j i g pp m)(h:OZ pp m a=some n0):n0<g*pp/\(∃(r:Nat)(y:Z8.Rw),m.own[n0/pp]? =some ((r:Int)+1)/\m.rows[r]? =some y/\y.lab=a/\0<y.refs)/\Bits.hb m.used n0=false:=by
 unfold OZ at h
 obtain⟨q,hq,h1⟩:=List.exists_of_findSome?_eq_some h
 obtain⟨h2,h3,⟨r,y,h4,h5,h6⟩,h7,-⟩:=Qv ho h1
 rw[<-h3]at h4
 refine⟨h2,⟨r,y,h4,h5,h6,?_⟩,h7⟩
 rcases ho.row h4 with h8|⟨r',y',h8,h9,h10⟩
 ·omega
 ·obtain rfl:r'=r:=by omega
  rw[h5]at h9
  cases h9
  exact h10
theorem kM{l:List Int}(h:TL l=some q):q<l.length:=(qab.1 (Qy h)).1
theorem Yb.alloc (h:Yb j i g pp s)(ha:a<65536):Yb j i g pp (Zi pp s a).1:=by
 unfold Zi
 have V8:=h.ord.gp
 cases hu:OZ pp s.m a with
 |some n0=>
  obtain⟨h1,⟨r,y,h2,h3,h4,h5⟩,h6⟩:=Fy h.ord hu
  refine⟨h.ord.take h1 h2 (by omega),h.bl,h.dl,h.b64,fun b c hb hc=>?_,h.tag⟩
  simp only[Yy]at hb
  rw[Bits.UY _ _ _ _ (by rw[h.ord.ul];omega)]at hb
  split at hb
  ·cases hb
  ·exact h.zero b c hb hc
 |none=>
  cases hq:TL s.m.own with
  |none=>exact h
  |some q=>
   simp only
   split
   ·next h0=>
    have hqg:q<g:=by have:=kM hq;rwa[h.ord.ol]at this
    have hb:q*pp<g*pp:=qam hqg h.ord.xh
    refine⟨h.ord.claim ha (Qy hq) h0,h.bl,h.dl,h.b64,fun b c hb hc=>?_,h.tag⟩
    simp only[Yy,YA]at hb
    rw[Bits.UY _ _ _ _ (by rw[h.ord.ul];omega)]at hb
    split at hb
    ·cases hb
    ·exact h.zero b c hb hc
   ·exact h
theorem Ord.rowOf (h:Ord j i g pp s.m)(hb:Bits.hb s.m.used a=true):∃y:Z8.Rw,s.m.own[a/pp]? =some ((rowOf pp s.m a:Int)+1)/\s.m.rows[Zl.rowOf pp s.m a]? =some y/\0<y.refs/\y.lab=Qw pp s.m a/\y.lab<65536:=by
 obtain⟨r,y,h1,h2,h3,h4⟩:=h.held hb
 have e:Zl.rowOf pp s.m a=r:=by unfold Zl.rowOf;rw[List.getD_eq_getElem?_getD,h1];simp
 rw[e]
 refine⟨y,h1,h2,h3,?_,h4⟩
 unfold Qw
 rw[e,Z8.getD_at h2]
theorem Yb.put (h:Yb j i g pp s){b:List UInt8}(hm:Ord j i g pp m)(hb:b.length=64)(ha:Qw pp s.m a<65536)(hz:∀k,k≠a->Bits.hb m.used k=Bits.hb s.m.used k)(hz2:Bits.hb m.used a=false->b=ZF):Yb j i g pp (Rp pp s m a b):=by
 refine⟨hm,by simp only[Rp,qag];exact h.bl,by simp only[Rp,qag];exact h.dl,fun x hx=>?_,fun k c hk hc=>?_,fun t ht=>?_⟩
 ·rcases qaa hx with h1|h1
  ·exact h.b64 x h1
  ·rw[h1];exact hb
 ·simp only[Rp]at hk hc
  rcases UT hc with⟨rfl,rfl⟩|⟨h1,hc⟩
  ·exact hz2 hk
  ·exact h.zero k c (by rw[<-hz k h1];exact hk) hc
 ·simp only[Rp]at ht
  rcases qaa ht with h1|h1
  ·exact h.tag t h1
  ·cases h1;exact ha
theorem Yb.free (h:Yb j i g pp s)(a:Int):Yb j i g pp (WC g pp s a).1:=by
 unfold WC
 split
 ·next hr=>
  split
  ·next hb=>
   have V8:=h.ord.gp
   have ha:=h.ord.bit hb
   obtain⟨y,h1,h2,h3,h4,h5⟩:=h.ord.rowOf hb
   have hw:∀k,Bits.hb (Bits.wb s.m.used a.toNat false) k=if k=a.toNat then false else Bits.hb s.m.used k:=fun k=>Bits.UY _ _ _ _ (by rw[h.ord.ul];omega)
   refine h.put ?_ rfl (by omega) (fun k hk=>?_) (fun _=>rfl)
   ·unfold MI
    split
    ·next hu=>exact h.ord.free hb hu
    ·next hu=>exact(h.ord.last hb h1 (by simpa using hu)).2
   ·unfold MI
    split
    ·simp only[WE];rw[hw,if_neg hk]
    ·simp only[RX];rw[hw,if_neg hk]
  ·exact h
 ·exact h
theorem Yb.write (h:Yb j i g pp s)(a:Int)(b:List UInt8):Yb j i g pp (YW g pp s a b).1:=by
 unfold YW
 split
 ·split
  ·next hl=>
   split
   ·next hb=>
    obtain⟨y,h1,h2,h3,h4,h5⟩:=h.ord.rowOf hb
    exact h.put h.ord hl (by omega) (fun k _=>rfl) (fun e=>by rw[hb]at e;cases e)
   ·exact h
  ·exact h
 ·exact h
theorem Yb.known (h:Yb j i g pp s)(hm:Ord j i g pp m)(hu:m.used=s.m.used):Yb j i g pp {s with m:=m}:=
 ⟨hm,h.bl,h.dl,h.b64,fun a b ha hb=>h.zero a b (by simp only at ha;rw[hu]at ha;exact ha) hb,h.tag⟩
theorem MJ{l:List Z9.ZC}(h:Vg l=some q):∃n,l[q]? =some n/\n.k=0/\∀k n',k<q->l[k]? =some n'->n'.k≠0:=by
 unfold Vg at h
 obtain⟨h1,h2,h3⟩:=List.findIdx?_eq_some_iff_getElem.1 h
 refine⟨l[q],qac h1,by simpa using h2,fun k n' hk hn=>?_⟩
 obtain⟨h4,h5⟩:=qab.1 hn
 have:=h3 k hk
 rw[h5]at this
 simpa using this
theorem Uy(hk:k=1\/k=2)(hr:r<16):Z9.Right (IP k r)/\Z9.YP (IP k r):=
 ⟨.inr ⟨hk,hr,(Int.le_refl 0:(0:Int)<=0),(by decide:(0:Int)<=65535),(Int.le_refl 0:(0:Int)<=0),(by decide:(0:Int)<=3840),rfl⟩,rfl,by show k<256;omega,by show r<256;omega⟩
theorem Fx{l:List Z8.Rw}{y y' z:Z8.Rw}(hk:l[k]? =some z)(h:(l.set k y')[r]? =some y)(d e:Nat)(hz:y'.refs+(d:Int)=z.refs+(e:Int)):∃y0,l[r]? =some y0/\y.refs+(if k=r then(d:Int)else 0)=y0.refs+(if k=r then(e:Int)else 0):=by
 rcases UT h with⟨rfl,rfl⟩|⟨h1,h2⟩
 ·exact⟨z,hk,by rw[if_pos rfl,if_pos rfl];exact hz⟩
 ·exact⟨y,h2,by rw[if_neg (fun e=>h1 e.symm),if_neg (fun e=>h1 e.symm)]⟩
theorem Yb.make (h:Yb j i g pp s)(k a:Nat)(ha:a<65536):Yb j i g pp (YX s k a).1:=by
 unfold YX
 split
 ·next hk=>
  cases hq:Vg s.m.ino with
  |none=>exact h
  |some q=>
   simp only
   split
   ·next h0=>
    obtain⟨n,h1,h2,-⟩:=MJ hq
    obtain⟨old,e1,e2,e3,e4,e5,e6⟩:=I9 h.ord.right.rows h0
    obtain⟨r1,r2⟩:=Uy hk (SV h.ord.right.rows h0)
    refine h.known (h.ord.inode h1 r1 r2 e6 (by rw[e5];exact Ou h.ord.Vk.rows ⟨ha,by simp only;omega,by simp only;omega⟩) (fun r y hy=>?_)) rfl
    rw[e5]at hy
    obtain⟨y0,h3,h4⟩:=Fx e1 hy 0 1 (by simp)
    refine⟨y0,h3,?_⟩
    have hk0:k≠0:=by omega
    simp only[IP,h2,ne_eq,not_true_eq_false,false_and,if_false,hk0,not_false_eq_true,true_and]
    split at h4<;>simp_all
   ·exact h
 ·exact h
theorem AP{a:Int}(h0:(YM s a).2.2=0):0<=a/\∃n,s.m.ino[a.toNat]? =some n/\n.k≠0/\(YM s a).1=n/\(YM s a).2.1=(s.m.rows.getD n.r .z).lab:=by
 unfold YM at h0⊢
 by_cases ha:0<=a
 ·rw[if_pos ha]at h0⊢
  cases hn:s.m.ino[a.toNat]? with
  |none=>rw[hn]at h0;cases h0
  |some n=>
   rw[hn]at h0
   simp only at h0⊢
   by_cases hk:n.k=0
   ·rw[if_pos hk]at h0;cases h0
   ·rw[if_neg hk]
    exact⟨ha,n,rfl,hk,rfl,rfl⟩
 ·rw[if_neg ha]at h0;cases h0
theorem Yb.CQ (h:Yb j i g pp s)(a:Int):Yb j i g pp (Yw s a).1/\((YM s a).2.2=0->(Z8.YH s.m.rows ((YM s a).1.r:Int)).err=0):=by
 unfold Yw
 by_cases h0:(YM s a).2.2=0
 ·rw[if_pos h0]
  obtain⟨ha,n,h1,h2,h3,-⟩:=AP h0
  rw[h3]
  obtain⟨y,h4,h5⟩:=h.ord.dn (qad h1) h2
  have hrel:=Z8.UC h.ord.right.rows h4 (by omega)
  rw[hrel]
  refine⟨h.known (h.ord.inode h1 (.inl rfl) Z9.YP.z (h.ord.right.rows.less h4 (by omega)) (Ou h.ord.Vk.rows (AO (h.ord.Vk.rows y (qad h4)) h5)) (fun r y' hy=>?_)) rfl,fun _=>rfl⟩
  obtain⟨y0,h6,h7⟩:=Fx h4 hy 1 0 (by rw[KG];omega)
  refine⟨y0,h6,?_⟩
  simp only[Z9.ZC.z,h2,ne_eq,not_true_eq_false,false_and,if_false,not_false_eq_true,true_and]
  split at h7<;>simp_all
 ·rw[if_neg h0]
  exact⟨h,fun e=>absurd e h0⟩
theorem Yb.set (h:Yb j i g pp s)(a:Int)(n:Z9.ZC)(hn:Z9.YP n):Yb j i g pp (Yc s a n).1:=by
 unfold Yc
 split
 ·next hr=>
  split
  ·next h0=>
   split
   ·next hkr=>
    obtain⟨ha,o,h1,h2,h3,-⟩:=AP h0
    rw[h3]at hkr
    have hrn:Z9.Right n:=Classical.byContradiction fun hx=>by rw[Z9.ZN hx]at hr;cases hr.2.2.1
    have:=h.ord.inode h1 hrn hn h.ord.right.rows h.ord.Vk.rows (fun r y hy=>⟨y,hy,by rw[hkr.1,hkr.2]⟩)
    exact h.known this rfl
   ·exact h
  ·exact h
 ·exact h
end
end
end Go.Proofs.YtmehhgfbnfbnaaaGreat.Zl

namespace Go.Proofs.YtmehhgfbnfbnaaaGreat.Apart
open Go.RowKit
abbrev TP:=(Nat->Prop)->qao->Prop
structure XH(A:TP):Prop where
 out:∀(P:Nat->Prop)(w w':qao),A P w->(∀i,P i->w'.heap[i]? =w.heap[i]?)->w.heap.size<=w'.heap.size->A P w'
def Bd(P:Nat->Prop)(w:qao):Prop:=∀i,P i->i<w.heap.size
def Nx(A:TP)(P:Nat->Prop)(w w':qao):Prop:=∃P':Nat->Prop,A P' w'/\Kept P w w'/\∀i,P' i->(P i\/w.heap.size<=i)/\i<w'.heap.size
def star(A C:TP):TP:=fun P w=>∃P1 P2:Nat->Prop,A P1 w/\C P2 w/\(∀i,P i↔(P1 i\/P2 i))/\∀i,P1 i->¬ P2 i
section
variable {A A' C C' D:TP}{P Q:Nat->Prop}{w u w':qao}
theorem Nx.same (h:A P w)(hb:Bd P w):Nx A P w w:=⟨P,h,Kept.refl _ _,fun i hi=>⟨.inl hi,hb i hi⟩⟩
theorem Nx.imp (h:Nx A P w w')(hi:∀P',A P' w'->A' P' w'):Nx A' P w w':=by
 obtain⟨P',h1,h2,h3⟩:=h
 exact⟨P',hi P' h1,h2,h3⟩
theorem Nx.below (h:A P w)(hA:XH A)(hb:Bd P w)(hw:Below w.heap.size w w'):Nx A P w w':=
 ⟨P,hA.out _ _ _ h (fun i hi=>hw.block i (hb i hi)) hw.size,Kept.of_below hw,fun i hi=>⟨.inl hi,qai (hb i hi) hw.size⟩⟩
theorem XH.star (hA:XH A)(hC:XH C):XH (star A C):=⟨fun _ _ _ ⟨P1,P2,h1,h2,h3,h4⟩ hk hs=>
 ⟨P1,P2,hA.out _ _ _ h1 (fun i hi=>hk i ((h3 i).2 (.inl hi))) hs,hC.out _ _ _ h2 (fun i hi=>hk i ((h3 i).2 (.inr hi))) hs,h3,h4⟩⟩
theorem Sq(h:star A C P w):star C A P w:=by
 obtain⟨P1,P2,h1,h2,h3,h4⟩:=h
 exact⟨P2,P1,h2,h1,fun i=>by rw[h3];exact Or.comm,fun i h5 h6=>h4 i h6 h5⟩
theorem vX(h:star A C P w)(hA:∀P',A P' w->A' P' w)(hC:∀P',C P' w->C' P' w):star A' C' P w:=by
 obtain⟨P1,P2,h1,h2,h3,h4⟩:=h
 exact⟨P1,P2,hA _ h1,hC _ h2,h3,h4⟩
theorem Uc(h:star (star A C) D P w):star A (star C D) P w:=by
 obtain⟨P1,P2,⟨P3,P4,h1,h2,h3,h4⟩,h5,h6,h7⟩:=h
 refine⟨P3,fun i=>P4 i\/P2 i,h1,⟨P4,P2,h2,h5,fun i=>Iff.rfl,fun i h8=>h7 i ((h3 i).2 (.inr h8))⟩,fun i=>?_,fun i h8 h9=>?_⟩
 ·rw[h6,h3]
  exact or_assoc
 ·rcases h9 with h9|h9
  ·exact h4 i h8 h9
  ·exact h7 i ((h3 i).2 (.inl h8)) h9
theorem Nx.left (hC:XH C)(h:star A C P w)(hb:Bd P w)(hn:∀P1,A P1 w->Bd P1 w->Nx A' P1 w w'):Nx (star A' C) P w w':=by
 obtain⟨P1,P2,h1,h2,h3,h4⟩:=h
 have hb2:∀i,P2 i->i<w.heap.size:=fun i hi=>hb i ((h3 i).2 (.inr hi))
 obtain⟨P1',h5,h6,h7⟩:=hn P1 h1 (fun i hi=>hb i ((h3 i).2 (.inl hi)))
 refine⟨fun i=>P1' i\/P2 i,⟨P1',P2,h5,hC.out _ _ _ h2 (fun i hi=>h6.block i (hb2 i hi) (fun h8=>h4 i h8 hi)) h6.size,fun i=>Iff.rfl,fun i h8 h9=>?_⟩,⟨h6.os,h6.tape,h6.output,h6.size,fun k hk hn=>h6.block k hk (fun h8=>hn ((h3 k).2 (.inl h8)))⟩,fun i hi=>?_⟩
 ·rcases(h7 i h8).1 with h10|h10
  ·exact h4 i h10 h9
  ·have:=hb2 i h9
   omega
 ·rcases hi with hi|hi
  ·refine⟨?_,(h7 i hi).2⟩
   rcases(h7 i hi).1 with h10|h10
   ·exact .inl ((h3 i).2 (.inl h10))
   ·exact .inr h10
  ·exact⟨.inl ((h3 i).2 (.inr hi)),qai (hb2 i hi) h6.size⟩
theorem Nx.right (hA:XH A)(h:star A C P w)(hb:Bd P w)(hn:∀P1,C P1 w->Bd P1 w->Nx C' P1 w w'):Nx (star A C') P w w':=
 (Nx.left hA (Sq h) hb hn).imp fun _ h=>Sq h
theorem Nx.add (hA:XH A)(h:A P w)(hb:Bd P w)(hw:Below w.heap.size w w')(hc:∃P2:Nat->Prop,C P2 w'/\∀i,P2 i->w.heap.size<=i/\i<w'.heap.size):Nx (star A C) P w w':=by
 obtain⟨P2,h2,h3⟩:=hc
 refine⟨fun i=>P i\/P2 i,⟨P,P2,hA.out _ _ _ h (fun i hi=>hw.block i (hb i hi)) hw.size,h2,fun i=>Iff.rfl,fun i h5 h6=>?_⟩,Kept.of_below hw,fun i hi=>?_⟩
 ·have h7:=hb i h5
  have h8:=(h3 i h6).1
  omega
 ·rcases hi with hi|hi
  ·exact⟨.inl hi,qai (hb i hi) hw.size⟩
  ·exact⟨.inr (h3 i hi).1,(h3 i hi).2⟩
theorem Nx.drop (h:Nx (star A C) P w w'):Nx A P w w':=by
 obtain⟨P',⟨P1,P2,h1,h2,h3,h4⟩,h5,h6⟩:=h
 exact⟨P1,h1,h5,fun i hi=>h6 i ((h3 i).2 (.inl hi))⟩
end
def Now(B:Nat)(A:TP)(w:qao):Prop:=∃P:Nat->Prop,A P w/\∀i,P i->B<=i/\i<w.heap.size
section
variable {B:Nat}{A A' C C':TP}{w w':qao}
theorem Now.next (h:Now B A w)(hB:B<=w.heap.size)(hn:∀P,A P w->Bd P w->Nx A' P w w'):Now B A' w'/\Below B w w':=by
 obtain⟨P,h1,h2⟩:=h
 obtain⟨P',h3,h4,h5⟩:=hn P h1 (fun i hi=>(h2 i hi).2)
 refine⟨⟨P',h3,fun i hi=>⟨?_,(h5 i hi).2⟩⟩,h4.below (fun i hi=>(h2 i hi).1) hB⟩
 rcases(h5 i hi).1 with h6|h6
 ·exact(h2 i h6).1
 ·exact qap hB h6
theorem Now.call {prog:Program}{F:FuncId}{args:Array Value}{R:Ending->Prop}(h:Now B A w)(hB:B<=w.heap.size)(hc:∀P,A P w->Bd P w->Calls prog F args w fun e w'=>R e/\Nx A' P w w'):Calls prog F args w fun e w'=>R e/\Now B A' w'/\Below B w w':=by
 have h0:=h
 obtain⟨P,h1,h2⟩:=h
 refine(hc P h1 (fun i hi=>(h2 i hi).2)).mono ?_
 rintro e w' ⟨h3,P',h4,h5,h6⟩
 refine⟨h3,⟨P',h4,fun i hi=>⟨?_,(h6 i hi).2⟩⟩,h5.below (fun i hi=>(h2 i hi).1) hB⟩
 rcases(h6 i hi).1 with h7|h7
 ·exact(h2 i h7).1
 ·exact qap hB h7
theorem Now.below (h:Now B A w)(hA:XH A)(hw:Below w.heap.size w w'):Now B A w':=by
 obtain⟨P,h1,h2⟩:=h
 exact⟨P,hA.out _ _ _ h1 (fun i hi=>hw.block i (h2 i hi).2) hw.size,fun i hi=>⟨(h2 i hi).1,qai (h2 i hi).2 hw.size⟩⟩
theorem Now.imp (h:Now B A w)(hi:∀P,A P w->A' P w):Now B A' w:=by
 obtain⟨P,h1,h2⟩:=h
 exact⟨P,hi P h1,h2⟩
end
section
variable {A A' C C':TP}{P:Nat->Prop}{w w':qao}{prog:Program}{F:FuncId}{args:Array Value}{R:Ending->Prop}
theorem VN(hC:XH C)(h:star A C P w)(hb:Bd P w)(hc:∀P1,A P1 w->Bd P1 w->Calls prog F args w fun e w'=>R e/\Nx A' P1 w w'):Calls prog F args w fun e w'=>R e/\Nx (star A' C) P w w':=by
 have h0:=h
 obtain⟨P1,P2,h1,h2,h3,h4⟩:=h
 have hb1:Bd P1 w:=fun i hi=>hb i ((h3 i).2 (.inl hi))
 refine(hc P1 h1 hb1).mono ?_
 rintro e w' ⟨h5,h6⟩
 exact⟨h5,Nx.left (A:=fun Q u=>A Q u/\Q=P1) hC ⟨P1,P2,⟨h1,rfl⟩,h2,h3,h4⟩ hb (fun Q ⟨_,hQ⟩ _=>hQ▸h6)⟩
theorem CL(hA:XH A)(h:star A C P w)(hb:Bd P w)(hc:∀P1,C P1 w->Bd P1 w->Calls prog F args w fun e w'=>R e/\Nx C' P1 w w'):Calls prog F args w fun e w'=>R e/\Nx (star A C') P w w':=by
 refine(VN hA (Sq h) hb hc).mono ?_
 rintro e w' ⟨h1,h2⟩
 exact⟨h1,h2.imp fun _ h=>Sq h⟩
end
def Bx(g:Nat)(e:TypeId)(xs:List Value):TP:=fun P w=>Bk w g e xs/\∀i,P i↔i=g
section
variable {A A' C C':TP}{P:Nat->Prop}{w u w':qao}{prog:Program}{F:FuncId}{args:Array Value}{R:Ending->Prop}
section
variable {g:Nat}{e:TypeId}{xs:List Value}
theorem Zz(g:Nat)(e:TypeId)(xs:List Value):XH (Bx g e xs):=⟨fun _ _ _ ⟨h1,h2⟩ hk _=>⟨(hk g ((h2 g).2 rfl)).trans h1,h2⟩⟩
theorem Nx.comp {P':Nat->Prop}(h2:Kept P w u)(h3:∀i,P' i->(P i\/w.heap.size<=i)/\i<u.heap.size)(h:Nx A' P' u w'):Nx A' P w w':=by
 obtain⟨P2,h4,h5,h6⟩:=h
 refine⟨P2,h4,h2.trans h5 (fun i hi=>(h3 i hi).1),fun i hi=>⟨?_,(h6 i hi).2⟩⟩
 rcases(h6 i hi).1 with h7|h7
 ·exact(h3 i h7).1
 ·exact .inr (qap h2.size h7)
theorem Nx.call (h:Nx A P w u)(hc:∀P',A P' u->Bd P' u->Calls prog F args u fun e w'=>R e/\Nx A' P' u w'):Calls prog F args u fun e w'=>R e/\Nx A' P w w':=by
 obtain⟨P',h1,h2,h3⟩:=h
 refine(hc P' h1 (fun i hi=>(h3 i hi).2)).mono ?_
 rintro e w' ⟨h4,h5⟩
 exact⟨h4,Nx.comp h2 h3 h5⟩
theorem Nx.step (h:Nx A P w u)(hc:∀P',A P' u->Bd P' u->Nx A' P' u w'):Nx A' P w w':=by
 obtain⟨P',h1,h2,h3⟩:=h
 exact Nx.comp h2 h3 (hc P' h1 (fun i hi=>(h3 i hi).2))
theorem Nx.later (h:Nx A P w u)(hA:XH A)(hb:Below u.heap.size u w'):Nx A P w w':=h.step (fun _ h1 h2=>Nx.below h1 hA h2 hb)
theorem Nx.box (h:Nx A P w u)(hA:XH A)(xs:List Value)(e:TypeId):Nx (star A (Bx u.heap.size e xs)) P w (u.alloc (.cells xs.toArray e)):=
 h.step (fun P' h1 h2=>Nx.add hA h1 h2 ((Below.refl _ u).alloc (Nat.le_refl _) _) ⟨(· =u.heap.size),⟨Bk.new u e xs,fun i=>Iff.rfl⟩,fun i hi=>by
  have hi:i=u.heap.size:=hi
  subst hi
  refine⟨Nat.le_refl _,?_⟩
  simp⟩)
theorem Nx.cell (h:Nx (star A (Bx g e xs)) P w u):Bk u g e xs:=by
 obtain⟨P',⟨P1,P2,-,h2,-,-⟩,-⟩:=h
 exact h2.1
theorem dm(h:Bx g e xs P w)(hb:Bd P w)(i:Nat)(v:Value):Nx (Bx g e (xs.set i v)) P w (w.setCell ⟨g,i,none⟩ v):=by
 obtain⟨h1,h2⟩:=h
 have hs:(w.setCell ⟨g,i,none⟩ v).heap.size=w.heap.size:=by simp
 refine⟨P,⟨h1.set i v,h2⟩,Kept.Y4 (ZT (qao.grownBy.refl w (some g)) i v) (fun k hk=>by cases hk;exact(h2 _).2 rfl),fun k hk=>⟨.inl hk,by rw[hs];exact hb k hk⟩⟩
end
end
end Go.Proofs.YtmehhgfbnfbnaaaGreat.Apart

namespace Go.Proofs.YtmehhgfbnfbnaaaGreat.Zl
open Go.RowKit Zq Meta
section
variable {j i g pp:Nat}{m:Meta.Met}
section
variable {a row:Nat}
theorem Cu(ho:Ord j i g pp m){k:Nat}(hf:Z8.TT m.rows a=some row)(hk:k<g*pp)(hq:m.own[k/pp]? =some ((row:Int)+1))(hb:Bits.hb m.used k=false)(hn:∀k',k'<k->m.own[k'/pp]? =some ((row:Int)+1)->Bits.hb m.used k'=true):OZ pp m a=some k:=by
 obtain⟨y,h1,h2,h3,-⟩:=Z8.Vx hf
 have OT:=ho.xh
 have V8:=ho.gp
 refine AR (q:=k/pp) (by rw[ho.ol];exact(qak OT).2 hk) ?_ (fun q hqk=>?_)
 ·rw[Jb hq h1,if_pos h3]
  have hm:∀b:Nat,((((k/pp:Nat):Int)*(pp:Int)<=(b:Int))/\(b:Int)<((k/pp:Nat):Int)*(pp:Int)+(pp:Int))↔b/pp=k/pp:=fun b=>by
   rw[qan OT,<-qae]
   constructor
   ·rintro ⟨h1,h2⟩;omega
   ·rintro ⟨h1,h2⟩;omega
  refine Bits.Bz (by rw[ho.ul];omega) (fun b hbk=>?_) ?_
  ·cases hc:Bits.cnd m.used (((k/pp:Nat):Int)*(pp:Int)) (((k/pp:Nat):Int)*(pp:Int)+(pp:Int)) false b with
   |false=>rfl
   |true=>
    simp only[Bits.cnd,qaf,decide_eq_true_eq,beq_iff_eq]at hc
    have:=hn b hbk (by rw[(hm b).1 hc.1];exact hq)
    rw[hc.2]at this
    cases this
  ·simp only[Bits.cnd,qaf,decide_eq_true_eq,beq_iff_eq]
   exact⟨(hm k).2 rfl,hb⟩
 ·cases hc:TK pp m a q with
  |none=>rfl
  |some n0=>
   obtain⟨h4,h5,⟨r,y',h6,h7,h8⟩,h9,-⟩:=Qv ho hc
   have hr:r=row:=by
    rcases ho.row h6 with h10|⟨r',y2,h10,h11,h12⟩
    ·omega
    ·exact zrq0
   subst hr
   rw[<-h5]at h6
   have hlt:n0<k:=by
    rcases qal n0 k with h|h
    ·exact h
    ·have:=Nat.div_le_div_right (c:=pp) h
     omega
   rw[hn n0 hlt h6]at h9
   cases h9
theorem MB(ho:Ord j i g pp m)(hf:Z8.TT m.rows a=none):OZ pp m a=none:=by
 refine ML (fun q _=>?_)
 cases hc:TK pp m a q with
 |none=>rfl
 |some n0=>
  obtain⟨h4,h5,⟨r,y',h6,h7,h8⟩,h9,-⟩:=Qv ho hc
  rcases ho.row h6 with h10|⟨r',y2,h10,h11,h12⟩
  ·omega
  ·obtain rfl:r'=r:=by omega
   rw[h7]at h11
   cases h11
   exact absurd ⟨by omega,h8⟩ (Z8.GV hf _ _ h7)
theorem pq(ho:Ord j i g pp m)(hf:Z8.TT m.rows a=some row)(hn:∀k,k<g*pp->m.own[k/pp]? =some ((row:Int)+1)->Bits.hb m.used k=true):OZ pp m a=none:=by
 refine ML (fun q _=>?_)
 cases hc:TK pp m a q with
 |none=>rfl
 |some n0=>
  obtain⟨h4,h5,⟨r,y',h6,h7,h8⟩,h9,-⟩:=Qv ho hc
  have hr:r=row:=by
   rcases ho.row h6 with h10|⟨r',y2,h10,h11,h12⟩
   ·omega
   ·exact zrq0
  subst hr
  rw[<-h5]at h6
  rw[hn n0 h4 h6]at h9
  cases h9
end
end
end Go.Proofs.YtmehhgfbnfbnaaaGreat.Zl
