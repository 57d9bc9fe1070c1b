import Derived.Test.YtmehhgfbnfbnaaaGreatQMetaN
import Derived.Test.YtmehhgfbnfbnaaaGreatQMetaL
import Derived.Test.YtmehhgfbnfbnaaaGreatQTk
set_option maxRecDepth 100000
set_option maxHeartbeats 25600000
open List renaming getElem?_eq_getElem->qaa,length_set->qac,getElem?_set_self->qad,getElem?_eq_none->qae
open Go renaming Value->qab
namespace Go.Proofs.YtmehhgfbnfbnaaaGreat.Meta
open Go.Proofs.YtmehhgfbnfbnaaaGreat
open Go.RowKit
def Kb(xs:List qab)(o:Nat):List qab->List qab
 |[]=>xs
 |v::vs=>Kb (xs.set o v) (o+1) vs
theorem Po(vs:List qab):∀(xs:List qab)(o:Nat),(Kb xs o vs).length=xs.length:=by
 induction vs with
 |nil=>intro xs o;rfl
 |cons v vs ih=>intro xs o;show(Kb (xs.set o v) (o+1) vs).length=_;rw[ih,qac]
theorem BO(vs:List qab):∀(xs:List qab)(o k:Nat),k<xs.length->(Kb xs o vs)[k]? =if o<=k/\k<o+vs.length then vs[k-o]? else xs[k]? :=by
 induction vs with
 |nil=>intro xs o k hk;rw[if_neg (by simp)];rfl
 |cons v vs ih=>
  intro xs o k hk
  show(Kb (xs.set o v) (o+1) vs)[k]? =_
  rw[ih _ _ _ (by rw[qac];exact hk),List.length_cons]
  by_cases h1:o=k
  ·subst h1
   rw[if_neg (by omega),if_pos (by omega),Nat.sub_self,qad hk]
   rfl
  ·by_cases h2:o+1<=k/\k<o+1+vs.length
   ·rw[if_pos h2,if_pos (by omega),show k-o=k-(o+1)+1 by omega]
    rfl
   ·rw[if_neg h2,if_neg (by omega),List.getElem?_set_ne h1]
theorem Lv{l:List Z9.ZC}{a:Nat}{n:Z9.ZC}(ho:∀m∈l,Z9.YP m)(hn:Z9.YP n)(h:a<l.length):Kb (Y3 l) (a*14) (Z9.ZX n)=Y3 (l.set a n):=by
 have hcn:=Z9.Y5 hn
 have hos:∀m∈l.set a n,Z9.YP m:=fun m hm=>by
  rcases List.mem_or_eq_of_mem_set hm with h|h
  ·exact ho m h
  ·rw[h];exact hn
 have hlen:(Y3 (l.set a n)).length=(Y3 l).length:=by rw[Y8 hos,Y8 ho,qac]
 apply List.ext_getElem?
 intro k
 by_cases hk:k<(Y3 l).length
 ·have hk2:=hk
  rw[Y8 ho]at hk2
  have hki:k/14<l.length:=by omega
  have ek:k=k/14*14+k%14:=by omega
  rw[BO _ _ _ _ hk,hcn]
  by_cases hin:a*14<=k/\k<a*14+14
  ·have e1:k/14=a:=by omega
   obtain⟨u,hu⟩:∃u,(Z9.ZX n)[k%14]? =some u:=⟨_,qaa (by rw[hcn];omega)⟩
   have h3:=Tv hos (i:=k/14) (n:=n) (by rw[e1,qad h]) hu
   rw[<-ek]at h3
   rw[if_pos hin,h3,<-hu]
   congr 1
   omega
  ·have e1:a≠k/14:=by omega
   obtain⟨m,hm⟩:∃m,l[k/14]? =some m:=⟨_,qaa hki⟩
   have hcm:=Z9.Y5 (ho m (List.mem_of_getElem? hm))
   obtain⟨u,hu⟩:∃u,(Z9.ZX m)[k%14]? =some u:=⟨_,qaa (by rw[hcm];omega)⟩
   have h3:=Tv hos (i:=k/14) (n:=m) (by rw[List.getElem?_set_ne e1];exact hm) hu
   have h4:=Tv ho hm hu
   rw[<-ek]at h3 h4
   rw[if_neg hin,h3,h4]
 ·rw[qae (by rw[Po];omega),qae (by omega)]
theorem Tu{base g cap n k:Nat}{e:TypeId}(vs:List qab):∀(w:World)(o:Nat)(xs:List qab),w.ownsRow base e k (.slice g n cap) n xs->
  (w.setCells g o vs).ownsRow base e k (.slice g n cap) n (Kb xs o vs)/\w.grownBy (w.setCells g o vs) (some g):=by
 induction vs with
 |nil=>intro w o xs h;exact⟨h,World.grownBy.refl _ _⟩
 |cons v vs ih=>
  intro w o xs h
  obtain⟨h1,h2⟩:=h.stored o v
  obtain⟨h3,h4⟩:=ih _ (o+1) _ h1
  exact⟨h3,h2.trans h4⟩
structure nC(w:World)(M:Nat)(G:List qab)(x:Mem)(m:Met)(u:World):Prop where
 YV:Bk u w.heap.size 29 G
 res:Bk u (w.heap.size+1) 60 [.slice none 0 0,.slice none 0 0,.slice none 0 0,.slice none 0 0]
 cur:Bk u M 60 [.slice x.rA m.rows.length x.rc,.slice x.oA m.own.length x.oc,.slice x.uA m.used.length x.uc,.slice x.iA m.ino.length x.ic]
 own:Y1 u w.heap.size x m
 below:Below w.heap.size w u
 lt:w.heap.size+1<M
section
variable {w u u':World}{M:Nat}{G:List qab}{x:Mem}{m:Met}
theorem nC.later (h:nC w M G x m u)(hb:Below u.heap.size u u'):nC w M G x m u':=
 ⟨h.YV.below hb h.YV.lt,h.res.below hb h.res.lt,h.cur.below hb h.cur.lt,h.own.below hb,h.below.trans (hb.mono h.below.size),h.lt⟩
end
section
variable {w:World}{B base n k b o:Nat}{e:TypeId}{xs:List qab}{l:List UInt8}
theorem XN{v:qab}(h:w.ownsRow base e k v n xs):∃A c,v=.slice A n c:=by
 rcases h.2 with⟨rfl,rfl⟩|⟨g,cap,cur,rfl,_⟩
 ·exact⟨none,0,rfl⟩
 ·exact⟨_,cap,rfl⟩
theorem XI{A:Option Addr}{c:Nat}(h:w.ownsRow base e k (.slice A n c) n xs)(hn:0<n):∃g,A=some ⟨g,0,none⟩/\base<=g/\g<w.heap.size:=by
 have hl:=h.lt
 rcases h.2 with⟨hv,rfl⟩|⟨g,cap,cur,hv,_⟩
 ·exact absurd hn (by omega)
 ·injection hv with h1 h2 h3
  subst h1
  exact⟨g,rfl,hl g rfl⟩
theorem aat(h:Rd w B (some ⟨b,o,none⟩) (Z6 l)){i:Nat}{x:UInt8}(hi:l[i]? =some x):w.cell? ⟨b,o+i,none⟩=some (.int .u8 x.toNat):=by
 have hg:(Z6 l)[i]? =some (.int .u8 x.toNat):=by simp[Z6,XG,hi]
 rcases h with h|⟨b',o',h1,_,h3⟩
 ·rw[h]at hg;simp at hg
 ·injection h1 with h1
  injection h1 with h1 h2 _
  subst h1 h2
  exact h3 i _ hg
theorem uM(h:Rd w B (some ⟨b,o,none⟩) (Z6 l))(i k:Nat):Rd w B (some ⟨b,o+i,none⟩) (Z6 ((l.drop i).take k)):=by
 rcases h with h|⟨b',o',h1,h2,h3⟩
 ·refine .inl ?_
  rw[Tt,WW,h]
  simp
 ·injection h1 with h1
  injection h1 with h1 h4 _
  subst h1 h4
  refine .inr ⟨b,o+i,rfl,h2,fun j u hu=>?_⟩
  have hj:j<k:=by
   have:=(List.getElem?_eq_some_iff.1 hu).1
   rw[Z4,List.length_take]at this
   omega
  rw[Tt,WW,List.getElem?_take,if_pos hj,List.getElem?_drop]at hu
  have:=h3 (i+j) u hu
  rw[show o+i+j=o+(i+j)by omega]
  exact this
theorem Yj(n:Z9.ZC):∀u∈Z9.ZX n,u.oneCell'=true:=by
 intro u hu
 simp only[Z9.ZX,List.mem_cons]at hu
 rcases hu with rfl|rfl|rfl|rfl|hu
 ·rfl
 ·rfl
 ·rfl
 ·rfl
 ·exact Z9.VI _ _ hu
theorem below_setCells{g:Nat}(hg:B<=g)(vs:List qab):∀{w u:World}(o:Nat),Below B w u->Below B w (u.setCells g o vs):=by
 induction vs with
 |nil=>intro w u o h;exact h
 |cons v vs ih=>intro w u o h;exact ih (o+1) (h.setCell hg v)
theorem UD(w:World)(xs:List qab)(e:TypeId)(n:Nat)(hn:xs.length=n):(w.alloc (.cells xs.toArray e)).there w.heap.size 0 n:=by
 intro j hj
 have hk:=Bk.new w e xs
 refine⟨?_,hk.frozen (0+j)⟩
 rw[hk.cell (0+j),qaa (by omega)]
 rfl
end
end Go.Proofs.YtmehhgfbnfbnaaaGreat.Meta
