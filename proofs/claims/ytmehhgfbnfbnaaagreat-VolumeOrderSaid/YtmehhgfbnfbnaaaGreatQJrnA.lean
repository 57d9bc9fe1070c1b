import Derived.Test.YtmehhgfbnfbnaaaGreatQF
import Derived.Test.YtmehhgfbnfbnaaaGreatQDiskB
import Derived.Test.YtmehhgfbnfbnaaaGreatQTk
import Derived.Deep.RegionHeld3
import Derived.Deep.RegionWith
set_option maxRecDepth 100000
set_option maxHeartbeats 25600000
open List renaming setIfInBounds_toArray->qaa,set_cons_zero->qab,set_cons_succ->qac,getElem?_eq_some_iff->qae,take_append_of_le_length->qag,replicate->qah,take_of_length_le->qai,append_assoc->qak,length_append->qan,length_cons->qao,mem_of_getElem?->qap,getElem?_eq_getElem->qas,nil_append->qav,drop_zero->qax,drop_append->qaA,length_map->qaC,getElem?_append_right->qaF,getElem?_cons_succ->qaG,getElem_cons_drop->qaH,drop_of_length_le->qaI,mem_iff_getElem?->qaJ,length_singleton->qaK
open Go.Act renaming put->qad
open Go.World renaming cell?_of_block->qaf
open Go.RowKit.Below renaming refl->qaj
open Nat renaming le_refl->qal,lt_of_lt_of_le->qam,le_trans->qau,lt_succ_self->qaz,zero_le->qaB
open Go renaming wp_region_held_drew->qaq,World->qar,Calls->qaw,wpAnyH_done->qaE
open Go.RowKit renaming Below->qat
open And renaming intro->qay
open Go.IntKind renaming wrap_u64->qaD
namespace Go.Proofs.YtmehhgfbnfbnaaaGreat
theorem zv0{P:Prop}(h:P:=by
 rw[hw]at Hc
 clear hw
 go_enter Tryz.func139,Tryz.ntmps139
 go_wp2_with (first|(go_at_call 71;refine Hr.out.mono ?_;rintro e w' ⟨rfl,rfl⟩)|(go_at_call 213;refine Hc.out.mono ?_;rintro e w' ⟨rfl,hb⟩))
 go_ret
 exact⟨rfl,Hb0.out.trans (hb.mono Hb0.out.size)⟩):P:=h
theorem zv1{P:Prop}(h:P:=by
 try simp only[qad,qaa,qab,qac]
 refine qaE (by kernel_rfl) ?_ _
 go_wp2
 go_ret
 exact⟨rfl,(qaj _ _).drew⟩):P:=h
theorem zv2{P:Prop}(h:P:=by
 (rintro _ rfl;go_simp<;>with_reducible rfl)):P:=h
end Go.Proofs.YtmehhgfbnfbnaaaGreat
namespace Go.Proofs.YtmehhgfbnfbnaaaGreat
open Go.RowKit
section
variable {α:Type}
structure Sx where
 b:List UInt8
 t:Nat
 hb:b.length=64
 ht:t<65536
theorem Sx.same {c d:Sx}(h1:c.b=d.b)(h2:c.t=d.t):c=d:=by
 cases c;cases d;simp only at h1 h2;subst h1;subst h2;rfl
def sx(c:Sx):List Value:=Z6 c.b++[.int .u16 c.t]
theorem Qi:Enc sx:=⟨fun c=>by simp[sx,Z4,c.hb],fun c u hu=>by
 simp only[sx,List.mem_append,List.mem_singleton]at hu
 rcases hu with hu|rfl
 ·exact YC _ u hu
 ·rfl⟩
def zx:Sx:=⟨qah 64 0,0,by simp,by decide⟩
def Bi(seq n:Nat):List UInt8:=put (put (qah 60 0) 0 (YE seq 8)) 8 (YE n 2)
theorem Nb(seq n:Nat):Bi seq n=YE seq 8++(YE n 2++qah 50 0):=by
 have h1:(YE seq 8).length=8:=ZE _ _
 have h2:(YE n 2).length=2:=ZE _ _
 simp only[Bi,put,h1,h2,List.take_zero,qav,Nat.zero_add,List.drop_replicate]
 rw[qag (by omega),qai (by omega),qaA,h1,qaI (by omega),qav,List.drop_replicate,qak]
theorem Jq(seq n:Nat):(Bi seq n).length=60:=by
 rw[Nb];simp[ZE]
def UA(seq n:Nat):List UInt8:=UQ (Bi seq n)
theorem VQ(seq n:Nat):(UA seq n).length=64:=by rw[UA,UO,Jq]
theorem yl(seq n:Nat)(h:seq<18446744073709551616):le (((UA seq n).drop 0).take 8)=seq:=by
 rw[UA,UQ,Nb,qax,qak,qag (by rw[ZE];omega),qai (by rw[ZE];omega),Xd _ _ (by omega)]
theorem yj(seq n:Nat)(h:n<65536):le (((UA seq n).drop 8).take 2)=n:=by
 rw[UA,UQ,Nb,qak,qaA,ZE,qaI (by rw[ZE];omega),qav,Nat.sub_self,qax,qak,
  qag (by rw[ZE];omega),qai (by rw[ZE];omega),Xd _ _ (by omega)]
def Yl(seq n:Nat):Sx:=⟨UA seq n,0,VQ _ _,by decide⟩
def words(g:List (Nat × Sx)):List Nat:=g.flatMap fun p=>[p.1,p.2.t]
theorem Xl(g:List (Nat × Sx)):(words g).length=2*g.length:=by
 induction g with
 |nil=>rfl
 |cons p g ih=>simp only[words,List.flatMap_cons,qan,qao,List.length_nil]at ih⊢;omega
theorem Uk(g m:List (Nat × Sx)):words (g++m)=words g++words m:=by simp[words]
theorem yu(g:List (Nat × Sx)):∀(k:Nat)(p:Nat × Sx),g[k]? =some p->(words g)[2*k]? =some p.1/\(words g)[2*k+1]? =some p.2.t:=by
 induction g with
 |nil=>intro k p h;simp at h
 |cons q g ih=>
  intro k p h
  cases k with
  |zero=>simp at h;subst h;simp[words]
  |succ k=>
   obtain⟨h1,h2⟩:=ih k p (by simpa using h)
   have e:words (q::g)=q.1::q.2.t::words g:=rfl
   rw[e,show 2*(k+1)=2*k+1+1 by omega]
   exact⟨by simpa using h1,by simpa using h2⟩
def QG(g:List (Nat × Sx)):List UInt8:=(Ya (Y0 2 (words g)) 64).take 64
theorem VP(g:List (Nat × Sx)):(QG g).length=64:=by simp[QG,Ya];omega
theorem F9(g:List (Nat × Sx))(h:g.length<=15):QG g=Ya (Y0 2 (words g)) 64:=by
 rw[QG,qai]
 rw[Xw _ _ (by rw[ZA,Xl];omega)]
 exact qal _
def KZ(g:List (Nat × Sx)):Sx:=⟨QG g,0,VP g,by decide⟩
theorem Ni(g:List (Nat × Sx))(h:g.length<=15)(j x:Nat)(hx:(words g)[j]? =some x)(hlt:x<65536):le (((QG g).drop (j*2)).take 2)=x:=by
 have hj:j<(words g).length:=(qae.1 hx).1
 rw[F9 g h,Ya,List.drop_append_of_le_length (by rw[ZA];omega),qag (by rw[List.length_drop,ZA];omega)]
 have hl:(Y0 2 (words g)).length/2=(words g).length:=by rw[ZA];omega
 obtain⟨xs,hxs⟩:∃xs,xs=words g:=⟨_,rfl⟩
 rw[<-hxs]at hx hj hl⊢
 clear hxs h
 have h1:=Xd x 2 (by omega)
 have e:xs=xs.take j++x::xs.drop (j+1):=by
  obtain⟨h2,h3⟩:=qae.1 hx
  rw[<-h3,qaH,List.take_append_drop]
 have hlen:(Y0 2 (xs.take j)).length=j*2:=by rw[ZA,List.length_take];omega
 rw[e,Tp,qaA,<-hlen,List.drop_length,Nat.sub_self,qav,qax,Y0,qag (by rw[ZE];omega),qai (by rw[ZE];omega),h1]
def PT(l:List (Nat × Sx))(c:Nat):List (Nat × Sx):=(l.drop (15*c)).take 15
def X8(l:List (Nat × Sx)):Nat->List Sx
 |0=>[]
 |c+1=>X8 l c++(KZ (PT l c)::(PT l c).map (·.2))
def stored(l:List (Nat × Sx)):List Sx:=X8 l ((l.length+14)/15)
theorem Vu(l:List (Nat × Sx))(c:Nat):(PT l c).length=min 15 (l.length-15*c):=by simp[PT]
theorem VW(l:List (Nat × Sx)):∀c,15*c<=l.length->(X8 l c).length=16*c
 |0,_=>rfl
 |c+1,h=>by
  rw[X8,qan,VW l c (by omega),qao,qaC,Vu]
  omega
theorem Yv(l:List (Nat × Sx)):(stored l).length=l.length+(l.length+14)/15:=by
 unfold stored
 obtain⟨C,hC⟩:∃C,C=(l.length+14)/15:=⟨_,rfl⟩
 rw[<-hC]
 cases C with
 |zero=>simp[X8];omega
 |succ c=>
  rw[X8,qan,VW l c (by omega),qao,qaC,Vu]
  omega
theorem Jp (l : List (Nat × Sx)) (c d : Nat) (h : c <= d) : ∃ r, X8 l d = X8 l c ++ r := by
  induction d with
  | zero => obtain rfl : c = 0 := by omega
            exact ⟨[], by simp⟩
  | succ d ih =>
    rcases Nat.lt_or_ge c (d + 1) with h1 | h1
    · obtain ⟨r, hr⟩ := ih (by omega)
      exact ⟨_, by rw [X8, hr, qak]⟩
    · obtain rfl : c = d + 1 := by omega
      exact ⟨[], by simp⟩
theorem K6(l:List (Nat × Sx))(i:Nat)(p:Nat × Sx)(h:l[i]? =some p):
  (stored l)[i/15*16]? =some (KZ (PT l (i/15)))/\(stored l)[i/15*16+1+i%15]? =some p.2:=by
 have hi:=(qae.1 h).1
 obtain⟨c,hc⟩:∃c,c=i/15:=⟨_,rfl⟩
 obtain⟨k,hk⟩:∃k,k=i%15:=⟨_,rfl⟩
 rw[<-hc,<-hk]
 obtain⟨r,hr⟩:=Jp l (c+1) ((l.length+14)/15) (by omega)
 have hl:=VW l c (by omega)
 have hg:(PT l c)[k]? =some p:=by
  rw[PT,List.getElem?_take,if_pos (by omega),List.getElem?_drop,show 15*c+k=i by omega];exact h
 have hk2:k<(PT l c).length:=(qae.1 hg).1
 unfold stored
 rw[hr,X8,qak]
 constructor
 ·rw[qaF (by omega),hl,show c*16-16*c=0 by omega];rfl
 ·rw[qaF (by omega),hl,show c*16+1+k-16*c=k+1 by omega,List.cons_append,qaG,List.getElem?_append_left (by rw[qaC];exact hk2),List.getElem?_map,hg];rfl
def room(n:Nat):Nat:=(n-1)/16*15+((n-1)%16-1)
def placed:Nat->List α->List (Nat × α)
 |_,[]=>[]
 |i,c::r=>(i,c)::placed (i+1) r
theorem Wm(l:List α):∀i,(placed i l).length=l.length:=by
 induction l with
 |nil=>exact fun _=>rfl
 |cons c r ih=>exact fun i=>by simp[placed,ih]
theorem RN(l:List α):∀i j:Nat,(placed i l)[j]? =l[j]?.map fun c=>(i+j,c):=by
 induction l with
 |nil=>exact fun i j=>rfl
 |cons c r ih=>
  intro i j
  cases j with
  |zero=>rfl
  |succ j=>simp only[placed,qaG,ih,show i+1+j=i+(j+1)by omega]
theorem RA{l:List α}{i:Nat}{p:Nat × α}(h:p∈placed i l):i<=p.1/\p.1<i+l.length/\p.2∈l:=by
 obtain⟨j,hj⟩:=qaJ.1 h
 rw[RN,Option.map_eq_some_iff]at hj
 obtain⟨c,hc,rfl⟩:=hj
 have:=(qae.1 hc).1
 exact⟨by simp,by simp;omega,qap hc⟩
theorem TA(l:List α):∀(i:Nat)(S:List α),i+l.length<=S.length->∀j c,l[j]? =some c->(puts S (placed i l))[i+j]? =some c:=by
 induction l with
 |nil=>intro i S _ j c h;simp at h
 |cons x r ih=>
  intro i S h j c hj
  simp only[qao]at h
  rw[placed,XJ]
  cases j with
  |zero=>
   simp at hj
   subst hj
   rw[YF fun p hp=>by have:=(RA hp).1;omega]
   rw[Nat.add_zero,List.getElem?_set,if_pos rfl,if_pos (by omega)]
  |succ j=>
   rw[show i+(j+1)=i+1+j by omega]
   exact ih (i+1) _ (by simp;omega) j c (by simpa using hj)
end
section
variable {α:Type}
def Dk.writes:Dk α->List (Nat × α)->Int × Dk α
 |k,[]=>(if k.off then 6 else 0,k.flush)
 |k,p::r=>if k.off then(6,k.op)else(k.wrote p.1 p.2).writes r
end
def Dk.finish (k:Dk Sx)(start seq:Nat)(l:List (Nat × Sx)):Int × Dk Sx:=
 if (k.writes l).1=0 then(k.writes l).2.writes [(start,Yl seq 0)]else k.writes l
def Dk.tell (k:Dk Sx)(start seq:Nat)(l:List (Nat × Sx)):Int × Dk Sx:=
 if (k.writes [(start,Yl seq l.length)]).1=0 then(k.writes [(start,Yl seq l.length)]).2.finish start seq l else k.writes [(start,Yl seq l.length)]
def Dk.XY (k:Dk Sx)(start seq:Nat)(l:List (Nat × Sx)):Int × Dk Sx:=
 if (k.writes (placed (start+1) (stored l))).1=0 then(k.writes (placed (start+1) (stored l))).2.tell start (seq+1) l else k.writes (placed (start+1) (stored l))
end Go.Proofs.YtmehhgfbnfbnaaaGreat

namespace Go.Proofs.YtmehhgfbnfbnaaaGreat
open Go.RowKit
attribute [local go_sem↓] Go.wp_at_zero Go.wp_at_succ
abbrev Fe(n:Int):Prop:= -9223372036854775808<=n/\n<=9223372036854775807
abbrev JB(w:qar)(bj b start n seq:Nat):Prop:=Bk w bj 194 [.pointer b,start,n,.int .u64 seq]
def uQ(n:Int):Int:=if n<1 then 0 else n+1+(n-1)/15
theorem uR(n:Int)(h:Fe n)(hm:n<=1000000)(w:qar):
  qaw Tryz.prog 184 #[n] w fun e w'=>e=.returned (.int .i64 (uQ n))/\w=w':=by
 unfold uQ
 obtain⟨h1,h2⟩:=h
 by_cases hn:n<1
 ·rw[if_pos hn]
  go_enter Tryz.func184,Tryz.ntmps184
  go_wp2
  go_ret
  exact⟨rfl,rfl⟩
 ·rw[if_neg hn]
  go_enter Tryz.func184,Tryz.ntmps184
  go_wp2
  go_ret
  exact⟨rfl,rfl⟩
theorem Nf(w:qar)(bj b start n seq:Nat)(hJ:JB w bj b start n seq)(hn:3<=n)(hn2:n<=4096):
  qaw Tryz.prog 71 #[.pointer bj] w fun e w'=>e=.returned (.int .i64 (room n:Int))/\w=w':=by
 have c2:=hJ.cell 2
 clear hJ
 go_enter Tryz.func71,Tryz.ntmps71
 go_wp2
 ·go_ret
  exact⟨by rw[show(room n:Int)=((n:Int)-1)/16*15 by unfold room;omega];rfl,rfl⟩
 ·go_ret
  exact⟨by rw[show(room n:Int)=((n:Int)-1)/16*15+(((n:Int)-1)%16-1)by unfold room;omega];rfl,rfl⟩
def Xy(m start n:Nat)(s:Int):Bool:=decide (0<=s)&&(decide (s<(m:Int))&&(decide (s<(start:Int))||decide (((start+n:Nat):Int)<=s)))
theorem K5(w:qar)(S:Nat->Prop)(bj b start n seq:Nat)(k:Dk Sx)(hJ:JB w bj b start n seq)(hD:Zv sx w S b k)(hs:start<=4096)(hn:n<=4096)(s:Int):
  qaw Tryz.prog 212 #[.pointer bj,s] w fun e w'=>e=.returned (.bool (Xy k.safe.length start n s))/\qat w.heap.size w w':=by
 have c0:=hJ.cell 0
 have c1:=hJ.cell 1
 have c2:=hJ.cell 2
 have D:=χ hD
 have Hs:=χ hs
 have Hn:=χ hn
 have hsum:(start:Int)+(n:Int)=((start+n:Nat):Int):=by omega
 have hwr:IntKind.i64.wrap ((start+n:Nat):Int)=((start+n:Nat):Int):=by rw[IntKind.wrap_i64];omega
 unfold Xy
 obtain⟨z,hz⟩:∃z:Int,z=((start+n:Nat):Int):=⟨_,rfl⟩
 rw[<-hz]at hwr hsum⊢
 clear hJ hD hz hs hn
 generalize hm:k.safe.length=m
 have hm':=hm
 cases h1:decide (0<=s)
 ·skip
  go_enter Tryz.func212,Tryz.ntmps212
  go_wp2
  refine qaq (S:=fun w'=>w'=w.drew) (by kernel_rfl) rfl (fun hHeld=>?_)
  refine tk 0 ?_ (y:=.inl ⟨by rfl,?hya0⟩) (s:=by assumption) (h:=?V6)
  case hya0=>exact zv2
  try simp only[qad,qaa,qab,qac]
  refine tk 1 ?_ (y:=.inl ⟨by rfl,?hya1⟩) (s:=by assumption) (h:=?V5)
  case hya1=>exact zv2
  try simp only[qad,qaa,qab,qac]
  refine tk 2 ?_ (y:=.inl ⟨by rfl,?hya2⟩) (s:=by assumption) (h:=?V4)
  case hya2=>exact zv2
  try simp only[qad,qaa,qab,qac]
  refine tk 3 undef (y:=.inr ⟨by rfl,rfl⟩) (s:=by assumption) (h:=?_)
  try simp only[qad,qaa,qab,qac]
  refine tk 4 undef (y:=.inr ⟨by rfl,rfl⟩) (s:=by assumption) (h:=?_)
  try simp only[qad,qaa,qab,qac]
  refine tk 5 undef (y:=.inr ⟨by rfl,rfl⟩) (s:=by assumption) (h:=?_)
  try simp only[qad,qaa,qab,qac]
  refine tk 6 undef (y:=.inr ⟨by rfl,rfl⟩) (s:=by assumption) (h:=?_)
  try simp only[qad,qaa,qab,qac]
  refine tk 7 undef (y:=.inr ⟨by rfl,rfl⟩) (s:=by assumption) (h:=?_)
  try simp only[qad,qaa,qab,qac]
  refine tk 8 undef (y:=.inr ⟨by rfl,rfl⟩) (s:=by assumption) (h:=?_)
  try simp only[qad,qaa,qab,qac]
  refine tk 9 undef (y:=.inr ⟨by rfl,rfl⟩) (s:=by assumption) (h:=?_)
  try simp only[qad,qaa,qab,qac]
  refine tk 10 ?_ (y:=.inl ⟨by rfl,?hya10⟩) (s:=by assumption) (h:=?Vb)
  case hya10=>exact zv2
  try simp only[qad,qaa,qab,qac]
  refine tk 11 ?_ (y:=.inl ⟨by rfl,?hya11⟩) (s:=by assumption) (h:=?Rb)
  case hya11=>exact zv2
  try simp only[qad,qaa,qab,qac]
  refine tk 12 undef (y:=.inr ⟨by rfl,rfl⟩) (s:=by assumption) (h:=?_)
  try simp only[qad,qaa,qab,qac]
  refine tk 13 undef (y:=.inr ⟨by rfl,rfl⟩) (s:=by assumption) (h:=?_)
  try simp only[qad,qaa,qab,qac]
  refine tk 14 undef (y:=.inr ⟨by rfl,rfl⟩) (s:=by assumption) (h:=?_)
  try simp only[qad,qaa,qab,qac]
  refine tk 15 undef (y:=.inr ⟨by rfl,rfl⟩) (s:=by assumption) (h:=?_)
  try simp only[qad,qaa,qab,qac]
  refine tk 16 undef (y:=.inr ⟨by rfl,rfl⟩) (s:=by assumption) (h:=?_)
  try simp only[qad,qaa,qab,qac]
  refine tk 17 undef (y:=.inr ⟨by rfl,rfl⟩) (s:=by assumption) (h:=?_)
  try simp only[qad,qaa,qab,qac]
  refine tk 18 undef (y:=.inr ⟨by rfl,rfl⟩) (s:=by assumption) (h:=?_)
  try simp only[qad,qaa,qab,qac]
  refine tk 19 undef (y:=.inr ⟨by rfl,rfl⟩) (s:=by assumption) (h:=?_)
  try simp only[qad,qaa,qab,qac]
  refine tk 20 undef (y:=.inr ⟨by rfl,rfl⟩) (s:=by assumption) (h:=?_)
  try simp only[qad,qaa,qab,qac]
  refine tk 21 undef (y:=.inr ⟨by rfl,rfl⟩) (s:=by assumption) (h:=?_)
  try simp only[qad,qaa,qab,qac]
  refine tk 22 undef (y:=.inr ⟨by rfl,rfl⟩) (s:=by assumption) (h:=?_)
  try simp only[qad,qaa,qab,qac]
  refine tk 23 undef (y:=.inr ⟨by rfl,rfl⟩) (s:=by assumption) (h:=?_)
  try simp only[qad,qaa,qab,qac]
  refine tk 24 undef (y:=.inr ⟨by rfl,rfl⟩) (s:=by assumption) (h:=?_)
  try simp only[qad,qaa,qab,qac]
  refine tk 25 undef (y:=.inr ⟨by rfl,rfl⟩) (s:=by assumption) (h:=?_)
  try simp only[qad,qaa,qab,qac]
  refine tk 26 undef (y:=.inr ⟨by rfl,rfl⟩) (s:=by assumption) (h:=?_)
  try simp only[qad,qaa,qab,qac]
  refine tk 27 undef (y:=.inr ⟨by rfl,rfl⟩) (s:=by assumption) (h:=?_)
  try simp only[qad,qaa,qab,qac]
  refine tk 28 undef (y:=.inr ⟨by rfl,rfl⟩) (s:=by assumption) (h:=?_)
  try simp only[qad,qaa,qab,qac]
  refine tk 29 undef (y:=.inr ⟨by rfl,rfl⟩) (s:=by assumption) (h:=?_)
  try simp only[qad,qaa,qab,qac]
  refine tk 30 undef (y:=.inr ⟨by rfl,rfl⟩) (s:=by assumption) (h:=?_)
  try simp only[qad,qaa,qab,qac]
  refine tk 31 ?_ (y:=.inl ⟨by rfl,?hya31⟩) (s:=by assumption) (h:=?acY)
  case hya31=>exact zv2
  try simp only[qad,qaa,qab,qac]
  refine tk 32 ?_ (y:=.inl ⟨by rfl,?hya32⟩) (s:=by assumption) (h:=?acZ)
  case hya32=>exact zv2
  exact zv1
 ·cases h2:decide (s<(m:Int))
  ·skip
   go_enter Tryz.func212,Tryz.ntmps212
   go_wp2
   refine qaq (S:=fun w'=>w'=w.drew) (by kernel_rfl) rfl (fun hHeld=>?_)
   refine tk 0 ?_ (y:=.inl ⟨by rfl,?hyb0⟩) (s:=by assumption) (h:=?Ad)
   case hyb0=>exact zv2
   try simp only[qad,qaa,qab,qac]
   refine tk 1 ?_ (y:=.inl ⟨by rfl,?hyb1⟩) (s:=by assumption) (h:=?Ac)
   case hyb1=>exact zv2
   try simp only[qad,qaa,qab,qac]
   refine tk 2 ?_ (y:=.inl ⟨by rfl,?hyb2⟩) (s:=by assumption) (h:=?Ab)
   case hyb2=>exact zv2
   try simp only[qad,qaa,qab,qac]
   refine tk 3 ?_ (y:=.inl ⟨by rfl,?hyb3⟩) (s:=by assumption) (h:=?Aa)
   case hyb3=>exact zv2
   try simp only[qad,qaa,qab,qac]
   refine tk 4 ?_ (y:=.inl ⟨by rfl,?hyb4⟩) (s:=by assumption) (h:=?zZ)
   case hyb4=>exact zv2
   try simp only[qad,qaa,qab,qac]
   refine tk 5 ?_ (y:=.inl ⟨by rfl,?hyb5⟩) (s:=by assumption) (h:=?vK)
   case hyb5=>exact zv2
   try simp only[qad,qaa,qab,qac]
   refine tk 6 ?_ (y:=.inl ⟨by rfl,?hyb6⟩) (s:=by assumption) (h:=?eF)
   case hyb6=>exact zv2
   try simp only[qad,qaa,qab,qac]
   refine tk 7 ?_ (y:=.inl ⟨by rfl,?hyb7⟩) (s:=by assumption) (h:=?vJ)
   case hyb7=>exact zv2
   try simp only[qad,qaa,qab,qac]
   refine rd 8 (h:=fun K hK=>?_)
   go_simp
   refine(Q5 w.drew S b k (D.out.keep fun _ _=>rfl)).mono ?_
   rintro e w' ⟨rfl,rfl⟩
   go_wp2
   refine hK.out _ _ rfl (fun Z5=>?_)
   clear hK K hHeld
   try simp only[qad,qaa,qab,qac]
   refine tk 9 ?_ (y:=.inl ⟨by rfl,?hyb9⟩) (s:=by assumption) (h:=?lQ)
   case hyb9=>exact zv2
   try simp only[qad,qaa,qab,qac]
   refine tk 10 ?_ (y:=.inl ⟨by rfl,?hyb10⟩) (s:=by assumption) (h:=?Bl)
   case hyb10=>exact zv2
   try simp only[qad,qaa,qab,qac]
   refine tk 11 ?_ (y:=.inl ⟨by rfl,?hyb11⟩) (s:=by assumption) (h:=?Bj)
   case hyb11=>exact zv2
   try simp only[qad,qaa,qab,qac]
   refine tk 12 undef (y:=.inr ⟨by rfl,rfl⟩) (s:=by assumption) (h:=?_)
   try simp only[qad,qaa,qab,qac]
   refine tk 13 undef (y:=.inr ⟨by rfl,rfl⟩) (s:=by assumption) (h:=?_)
   try simp only[qad,qaa,qab,qac]
   refine tk 14 undef (y:=.inr ⟨by rfl,rfl⟩) (s:=by assumption) (h:=?_)
   try simp only[qad,qaa,qab,qac]
   refine tk 15 undef (y:=.inr ⟨by rfl,rfl⟩) (s:=by assumption) (h:=?_)
   try simp only[qad,qaa,qab,qac]
   refine tk 16 undef (y:=.inr ⟨by rfl,rfl⟩) (s:=by assumption) (h:=?_)
   try simp only[qad,qaa,qab,qac]
   refine tk 17 undef (y:=.inr ⟨by rfl,rfl⟩) (s:=by assumption) (h:=?_)
   try simp only[qad,qaa,qab,qac]
   refine tk 18 undef (y:=.inr ⟨by rfl,rfl⟩) (s:=by assumption) (h:=?_)
   try simp only[qad,qaa,qab,qac]
   refine tk 19 undef (y:=.inr ⟨by rfl,rfl⟩) (s:=by assumption) (h:=?_)
   try simp only[qad,qaa,qab,qac]
   refine tk 20 undef (y:=.inr ⟨by rfl,rfl⟩) (s:=by assumption) (h:=?_)
   try simp only[qad,qaa,qab,qac]
   refine tk 21 undef (y:=.inr ⟨by rfl,rfl⟩) (s:=by assumption) (h:=?_)
   try simp only[qad,qaa,qab,qac]
   refine tk 22 undef (y:=.inr ⟨by rfl,rfl⟩) (s:=by assumption) (h:=?_)
   try simp only[qad,qaa,qab,qac]
   refine tk 23 undef (y:=.inr ⟨by rfl,rfl⟩) (s:=by assumption) (h:=?_)
   try simp only[qad,qaa,qab,qac]
   refine tk 24 undef (y:=.inr ⟨by rfl,rfl⟩) (s:=by assumption) (h:=?_)
   try simp only[qad,qaa,qab,qac]
   refine tk 25 undef (y:=.inr ⟨by rfl,rfl⟩) (s:=by assumption) (h:=?_)
   try simp only[qad,qaa,qab,qac]
   refine tk 26 undef (y:=.inr ⟨by rfl,rfl⟩) (s:=by assumption) (h:=?_)
   try simp only[qad,qaa,qab,qac]
   refine tk 27 undef (y:=.inr ⟨by rfl,rfl⟩) (s:=by assumption) (h:=?_)
   try simp only[qad,qaa,qab,qac]
   refine tk 28 undef (y:=.inr ⟨by rfl,rfl⟩) (s:=by assumption) (h:=?_)
   try simp only[qad,qaa,qab,qac]
   refine tk 29 undef (y:=.inr ⟨by rfl,rfl⟩) (s:=by assumption) (h:=?_)
   try simp only[qad,qaa,qab,qac]
   refine tk 30 undef (y:=.inr ⟨by rfl,rfl⟩) (s:=by assumption) (h:=?_)
   try simp only[qad,qaa,qab,qac]
   refine tk 31 ?_ (y:=.inl ⟨by rfl,?hyb31⟩) (s:=by assumption) (h:=?ac0)
   case hyb31=>exact zv2
   try simp only[qad,qaa,qab,qac]
   refine tk 32 ?_ (y:=.inl ⟨by rfl,?hyb32⟩) (s:=by assumption) (h:=?ac1)
   case hyb32=>exact zv2
   exact zv1
  ·cases h3:decide (s<(start:Int))
   ·skip
    go_enter Tryz.func212,Tryz.ntmps212
    go_wp2
    refine qaq (S:=fun w'=>w'=w.drew) (by kernel_rfl) rfl (fun hHeld=>?_)
    refine tk 0 ?_ (y:=.inl ⟨by rfl,?hyc0⟩) (s:=by assumption) (h:=?acf)
    case hyc0=>exact zv2
    try simp only[qad,qaa,qab,qac]
    refine tk 1 ?_ (y:=.inl ⟨by rfl,?hyc1⟩) (s:=by assumption) (h:=?acg)
    case hyc1=>exact zv2
    try simp only[qad,qaa,qab,qac]
    refine tk 2 ?_ (y:=.inl ⟨by rfl,?hyc2⟩) (s:=by assumption) (h:=?ach)
    case hyc2=>exact zv2
    try simp only[qad,qaa,qab,qac]
    refine tk 3 ?_ (y:=.inl ⟨by rfl,?hyc3⟩) (s:=by assumption) (h:=?aci)
    case hyc3=>exact zv2
    try simp only[qad,qaa,qab,qac]
    refine tk 4 ?_ (y:=.inl ⟨by rfl,?hyc4⟩) (s:=by assumption) (h:=?adY)
    case hyc4=>exact zv2
    try simp only[qad,qaa,qab,qac]
    refine tk 5 ?_ (y:=.inl ⟨by rfl,?hyc5⟩) (s:=by assumption) (h:=?acj)
    case hyc5=>exact zv2
    try simp only[qad,qaa,qab,qac]
    refine tk 6 ?_ (y:=.inl ⟨by rfl,?hyc6⟩) (s:=by assumption) (h:=?ack)
    case hyc6=>exact zv2
    try simp only[qad,qaa,qab,qac]
    refine tk 7 ?_ (y:=.inl ⟨by rfl,?hyc7⟩) (s:=by assumption) (h:=?adZ)
    case hyc7=>exact zv2
    try simp only[qad,qaa,qab,qac]
    refine rd 8 (h:=fun K hK=>?_)
    go_simp
    refine(Q5 w.drew S b k (D.out.keep fun _ _=>rfl)).mono ?_
    rintro e w' ⟨rfl,rfl⟩
    go_wp2
    refine hK.out _ _ rfl (fun Z5=>?_)
    clear hK K hHeld
    try simp only[qad,qaa,qab,qac]
    refine tk 9 ?_ (y:=.inl ⟨by rfl,?hyc9⟩) (s:=by assumption) (h:=?ad1)
    case hyc9=>exact zv2
    try simp only[qad,qaa,qab,qac]
    refine tk 10 ?_ (y:=.inl ⟨by rfl,?hyc10⟩) (s:=by assumption) (h:=?ac2)
    case hyc10=>exact zv2
    try simp only[qad,qaa,qab,qac]
    refine tk 11 ?_ (y:=.inl ⟨by rfl,?hyc11⟩) (s:=by assumption) (h:=?ac3)
    case hyc11=>exact zv2
    try simp only[qad,qaa,qab,qac]
    refine tk 12 ?_ (y:=.inl ⟨by rfl,?hyc12⟩) (s:=by assumption) (h:=?ac4)
    case hyc12=>exact zv2
    try simp only[qad,qaa,qab,qac]
    refine tk 13 ?_ (y:=.inl ⟨by rfl,?hyc13⟩) (s:=by assumption) (h:=?ac5)
    case hyc13=>exact zv2
    try simp only[qad,qaa,qab,qac]
    refine tk 14 ?_ (y:=.inl ⟨by rfl,?hyc14⟩) (s:=by assumption) (h:=?ac6)
    case hyc14=>exact zv2
    try simp only[qad,qaa,qab,qac]
    refine tk 15 ?_ (y:=.inl ⟨by rfl,?hyc15⟩) (s:=by assumption) (h:=?ac7)
    case hyc15=>exact zv2
    try simp only[qad,qaa,qab,qac]
    refine tk 16 ?_ (y:=.inl ⟨by rfl,?hyc16⟩) (s:=by assumption) (h:=?ac8)
    case hyc16=>exact zv2
    try simp only[qad,qaa,qab,qac]
    refine tk 17 ?_ (y:=.inl ⟨by rfl,?hyc17⟩) (s:=by assumption) (h:=?ac9)
    case hyc17=>exact zv2
    try simp only[qad,qaa,qab,qac]
    refine tk 18 ?_ (y:=.inl ⟨by rfl,?hyc18⟩) (s:=by assumption) (h:=?ac')
    case hyc18=>exact zv2
    try simp only[qad,qaa,qab,qac]
    refine tk 19 ?_ (y:=.inl ⟨by rfl,?hyc19⟩) (s:=by assumption) (h:=?ada)
    case hyc19=>exact zv2
    try simp only[qad,qaa,qab,qac]
    refine tk 20 ?_ (y:=.inl ⟨by rfl,?hyc20⟩) (s:=by assumption) (h:=?adb)
    case hyc20=>exact zv2
    try simp only[qad,qaa,qab,qac]
    refine tk 21 ?_ (y:=.inl ⟨by rfl,?hyc21⟩) (s:=by assumption) (h:=?ade)
    case hyc21=>exact zv2
    try simp only[qad,qaa,qab,qac]
    refine tk 22 ?_ (y:=.inl ⟨by rfl,?hyc22⟩) (s:=by assumption) (h:=?adf)
    case hyc22=>exact zv2
    try simp only[qad,qaa,qab,qac]
    refine tk 23 ?_ (y:=.inl ⟨by rfl,?hyc23⟩) (s:=by assumption) (h:=?adg)
    case hyc23=>exact zv2
    try simp only[qad,qaa,qab,qac]
    refine tk 24 ?_ (y:=.inl ⟨by rfl,?hyc24⟩) (s:=by assumption) (h:=?adh)
    case hyc24=>exact zv2
    try simp only[qad,qaa,qab,qac]
    refine tk 25 ?_ (y:=.inl ⟨by rfl,?hyc25⟩) (s:=by assumption) (h:=?adi)
    case hyc25=>exact zv2
    try simp only[qad,qaa,qab,qac]
    refine tk 26 ?_ (y:=.inl ⟨by rfl,?hyc26⟩) (s:=by assumption) (h:=?adj)
    case hyc26=>exact zv2
    try simp only[qad,qaa,qab,qac]
    refine tk 27 ?_ (y:=.inl ⟨by rfl,?hyc27⟩) (s:=by assumption) (h:=?adk)
    case hyc27=>exact zv2
    try simp only[qad,qaa,qab,qac]
    refine tk 28 ?_ (y:=.inl ⟨by rfl,?hyc28⟩) (s:=by assumption) (h:=?adl)
    case hyc28=>exact zv2
    try simp only[qad,qaa,qab,qac]
    refine tk 29 ?_ (y:=.inl ⟨by rfl,?hyc29⟩) (s:=by assumption) (h:=?adm)
    case hyc29=>exact zv2
    try simp only[qad,qaa,qab,qac]
    refine tk 30 ?_ (y:=.inl ⟨by rfl,?hyc30⟩) (s:=by assumption) (h:=?adn)
    case hyc30=>exact zv2
    try simp only[qad,qaa,qab,qac]
    refine tk 31 ?_ (y:=.inl ⟨by rfl,?hyc31⟩) (s:=by assumption) (h:=?ado)
    case hyc31=>exact zv2
    try simp only[qad,qaa,qab,qac]
    refine tk 32 ?_ (y:=.inl ⟨by rfl,?hyc32⟩) (s:=by assumption) (h:=?adp)
    case hyc32=>exact zv2
    exact zv1
   ·skip
    go_enter Tryz.func212,Tryz.ntmps212
    go_wp2
    refine qaq (S:=fun w'=>w'=w.drew) (by kernel_rfl) rfl (fun hHeld=>?_)
    refine tk 0 ?_ (y:=.inl ⟨by rfl,?hyd0⟩) (s:=by assumption) (h:=?ad2)
    case hyd0=>exact zv2
    try simp only[qad,qaa,qab,qac]
    refine tk 1 ?_ (y:=.inl ⟨by rfl,?hyd1⟩) (s:=by assumption) (h:=?ad3)
    case hyd1=>exact zv2
    try simp only[qad,qaa,qab,qac]
    refine tk 2 ?_ (y:=.inl ⟨by rfl,?hyd2⟩) (s:=by assumption) (h:=?ad4)
    case hyd2=>exact zv2
    try simp only[qad,qaa,qab,qac]
    refine tk 3 ?_ (y:=.inl ⟨by rfl,?hyd3⟩) (s:=by assumption) (h:=?ad5)
    case hyd3=>exact zv2
    try simp only[qad,qaa,qab,qac]
    refine tk 4 ?_ (y:=.inl ⟨by rfl,?hyd4⟩) (s:=by assumption) (h:=?ad6)
    case hyd4=>exact zv2
    try simp only[qad,qaa,qab,qac]
    refine tk 5 ?_ (y:=.inl ⟨by rfl,?hyd5⟩) (s:=by assumption) (h:=?ad7)
    case hyd5=>exact zv2
    try simp only[qad,qaa,qab,qac]
    refine tk 6 ?_ (y:=.inl ⟨by rfl,?hyd6⟩) (s:=by assumption) (h:=?ad8)
    case hyd6=>exact zv2
    try simp only[qad,qaa,qab,qac]
    refine tk 7 ?_ (y:=.inl ⟨by rfl,?hyd7⟩) (s:=by assumption) (h:=?ad9)
    case hyd7=>exact zv2
    try simp only[qad,qaa,qab,qac]
    refine rd 8 (h:=fun K hK=>?_)
    go_simp
    refine(Q5 w.drew S b k (D.out.keep fun _ _=>rfl)).mono ?_
    rintro e w' ⟨rfl,rfl⟩
    go_wp2
    refine hK.out _ _ rfl (fun Z5=>?_)
    clear hK K hHeld
    try simp only[qad,qaa,qab,qac]
    refine tk 9 ?_ (y:=.inl ⟨by rfl,?hyd9⟩) (s:=by assumption) (h:=?ad')
    case hyd9=>exact zv2
    try simp only[qad,qaa,qab,qac]
    refine tk 10 ?_ (y:=.inl ⟨by rfl,?hyd10⟩) (s:=by assumption) (h:=?adq)
    case hyd10=>exact zv2
    try simp only[qad,qaa,qab,qac]
    refine tk 11 ?_ (y:=.inl ⟨by rfl,?hyd11⟩) (s:=by assumption) (h:=?aaS)
    case hyd11=>exact zv2
    try simp only[qad,qaa,qab,qac]
    refine tk 12 ?_ (y:=.inl ⟨by rfl,?hyd12⟩) (s:=by assumption) (h:=?aaT)
    case hyd12=>exact zv2
    try simp only[qad,qaa,qab,qac]
    refine tk 13 ?_ (y:=.inl ⟨by rfl,?hyd13⟩) (s:=by assumption) (h:=?adr)
    case hyd13=>exact zv2
    try simp only[qad,qaa,qab,qac]
    refine tk 14 ?_ (y:=.inl ⟨by rfl,?hyd14⟩) (s:=by assumption) (h:=?ads)
    case hyd14=>exact zv2
    try simp only[qad,qaa,qab,qac]
    refine tk 15 ?_ (y:=.inl ⟨by rfl,?hyd15⟩) (s:=by assumption) (h:=?adt)
    case hyd15=>exact zv2
    try simp only[qad,qaa,qab,qac]
    refine tk 16 ?_ (y:=.inl ⟨by rfl,?hyd16⟩) (s:=by assumption) (h:=?adu)
    case hyd16=>exact zv2
    try simp only[qad,qaa,qab,qac]
    refine tk 17 ?_ (y:=.inl ⟨by rfl,?hyd17⟩) (s:=by assumption) (h:=?adv)
    case hyd17=>exact zv2
    try simp only[qad,qaa,qab,qac]
    refine tk 18 ?_ (y:=.inl ⟨by rfl,?hyd18⟩) (s:=by assumption) (h:=?adw)
    case hyd18=>exact zv2
    try simp only[qad,qaa,qab,qac]
    refine tk 19 undef (y:=.inr ⟨by rfl,rfl⟩) (s:=by assumption) (h:=?_)
    try simp only[qad,qaa,qab,qac]
    refine tk 20 undef (y:=.inr ⟨by rfl,rfl⟩) (s:=by assumption) (h:=?_)
    try simp only[qad,qaa,qab,qac]
    refine tk 21 undef (y:=.inr ⟨by rfl,rfl⟩) (s:=by assumption) (h:=?_)
    try simp only[qad,qaa,qab,qac]
    refine tk 22 undef (y:=.inr ⟨by rfl,rfl⟩) (s:=by assumption) (h:=?_)
    try simp only[qad,qaa,qab,qac]
    refine tk 23 undef (y:=.inr ⟨by rfl,rfl⟩) (s:=by assumption) (h:=?_)
    try simp only[qad,qaa,qab,qac]
    refine tk 24 undef (y:=.inr ⟨by rfl,rfl⟩) (s:=by assumption) (h:=?_)
    try simp only[qad,qaa,qab,qac]
    refine tk 25 undef (y:=.inr ⟨by rfl,rfl⟩) (s:=by assumption) (h:=?_)
    try simp only[qad,qaa,qab,qac]
    refine tk 26 undef (y:=.inr ⟨by rfl,rfl⟩) (s:=by assumption) (h:=?_)
    try simp only[qad,qaa,qab,qac]
    refine tk 27 undef (y:=.inr ⟨by rfl,rfl⟩) (s:=by assumption) (h:=?_)
    try simp only[qad,qaa,qab,qac]
    refine tk 28 undef (y:=.inr ⟨by rfl,rfl⟩) (s:=by assumption) (h:=?_)
    try simp only[qad,qaa,qab,qac]
    refine tk 29 undef (y:=.inr ⟨by rfl,rfl⟩) (s:=by assumption) (h:=?_)
    try simp only[qad,qaa,qab,qac]
    refine tk 30 ?_ (y:=.inl ⟨by rfl,?hyd30⟩) (s:=by assumption) (h:=?adx)
    case hyd30=>exact zv2
    try simp only[qad,qaa,qab,qac]
    refine tk 31 ?_ (y:=.inl ⟨by rfl,?hyd31⟩) (s:=by assumption) (h:=?ady)
    case hyd31=>exact zv2
    try simp only[qad,qaa,qab,qac]
    refine tk 32 ?_ (y:=.inl ⟨by rfl,?hyd32⟩) (s:=by assumption) (h:=?adz)
    case hyd32=>exact zv2
    exact zv1
end Go.Proofs.YtmehhgfbnfbnaaaGreat

namespace Go.Proofs.YtmehhgfbnfbnaaaGreat
open Go.RowKit
attribute [local go_sem↓] Go.wp_at_zero Go.wp_at_succ
section
variable {w w':qar}{T:Nat->Prop}{A:Option Addr}{L:List (Int × Sx)}
theorem XO(l m:List UInt8)(A A':Option Addr)(n c n' c' B B':Nat)(w:qar)(hn:l.length=n)(hn':m.length=n')(hr:Rd w B A (Z6 l))(hr':Rd w B' A' (Z6 m)):
  qaw Tryz.prog 145 #[.slice A n c,.slice A' n' c'] w fun e w'=>e=.returned (.bool (l==m))/\w=w':=by
 have h1:=VB (c:=c) hn hr
 have h2:=VB (c:=c') hn' hr'
 clear hr hr' hn hn'
 go_enter Tryz.func145,Tryz.ntmps145
 go_wp2
 go_ret
 exact⟨rfl,rfl⟩
theorem Nc(seq n:Nat)(hs:seq<18446744073709551616)(hn:n<65536)(w:qar):
  qaw Tryz.prog 216 #[.int .u64 seq,n] w fun e w'=>∃v,e=.returned v/\Made w (UA seq n) v w':=by
 obtain⟨C,hC⟩:∃C,C=(Z6 (qah 60 0)).toArray:=⟨_,rfl⟩
 have hmk:∀u:qar,(Instr.makeSlice 37 (.int .i64 60) (.int .i64 60)).run Tryz.prog u=.ok (.slice u.heap.size 60 60) (u.alloc (.cells C 5)):=fun u=>by
  rw[hC];exact YD 60 (by omega) u
 have hcv:IntKind.u64.wrap (n:Int)=(n:Int):=by rw[qaD];omega
 have HC:=χ hC
 have Hs:=χ hs
 have Hn:=χ hn
 clear hs hn hC
 have hB0:Rd (w.alloc (.cells C 5)) (w.alloc (.cells C 5)).heap.size (some ⟨w.heap.size,0,none⟩) (Z6 (qah 60 0)):=by
  have h:=(Bk.new w 5 (Z6 (qah 60 0))).rd 60 0
  rw[<-HC.out,qax,qai (by simp[Z4])]at h
  exact h
 have b0:qat w.heap.size w (w.alloc (.cells C 5)):=(qaj _ _).alloc (qal _) _
 have HB0:=χ hB0
 have Hb0:=χ b0
 clear hB0 b0
 go_enter Tryz.func216,Tryz.ntmps216
 go_wp2_with fail
 refine(J4 (qah 60 0) (some ⟨w.heap.size,0,none⟩) 60 60 0 8 seq _ (by simp) HB0.out (by omega) (by omega) (by omega) (by omega) Hs.out (by have:=Hs.out;simp[WB];omega)).mono ?_
 rintro e w1 ⟨v1,rfl,hM1⟩
 have lV:=χ hM1
 obtain⟨eQ,aaP⟩:=hM1
 have eP:(put (qah 60 (0:UInt8)) 0 (YE seq 8)).length=60:=by rw[Um _ _ _ (by simp[ZE])];simp
 rw[eP]at eQ
 obtain⟨hl1,A1,c1,rfl,hc1,eO,hr1⟩:=Yx eQ
 have lW:=χ hr1
 have Hb1:=χ (Hb0.out.trans (aaP.mono (by simp)))
 have Hl1:=χ eP
 clear eQ aaP hl1 eO hr1 eP lV
 go_wp2_with fail
 refine(J4 (put (qah 60 0) 0 (YE seq 8)) A1 60 c1 8 2 n _ Hl1.out lW.out (by omega) (by omega) (by omega) (by omega) (by have:=Hn.out;omega) (by have:=Hn.out;simp[WB];omega)).mono ?_
 rintro e w2 ⟨v2,rfl,hM2⟩
 obtain⟨Dw,rz⟩:=hM2
 have eH:(put (put (qah 60 (0:UInt8)) 0 (YE seq 8)) 8 (YE n 2)).length=60:=by rw[Um _ _ _ (by rw[Hl1.out,ZE];omega),Hl1.out]
 rw[eH]at Dw
 obtain⟨hl2,A2,c2,rfl,hc2,eG,hr2⟩:=Yx Dw
 have oF:=χ hr2
 have Hb2:=χ (Hb1.out.trans (rz.mono Hb1.out.size))
 have Hl2:=χ eH
 clear Dw rz hl2 eG hr2 eH
 go_wp2_with fail
 refine(Ia _ A2 60 c2 _ Hl2.out oF.out hc2 (by omega)).mono ?_
 rintro e w3 ⟨v3,rfl,oO⟩
 obtain⟨ry,ru⟩:=oO
 have H3:Hid (Made w (UA seq n) v3 w3):=⟨ZL ry Hb2.out.size,Hb2.out.trans (ru.mono Hb2.out.size)⟩
 clear ry ru
 go_wp2_with fail
 go_ret
 exact⟨_,rfl,H3.out⟩
def XR(w:qar)(T:Nat->Prop)(A:Option Addr)(L:List (Int × Sx)):Prop:=
 ∀i p,L[i]? =some p->∃b o ba oa cp,A=some ⟨b,o,none⟩/\T b/\T ba/\b<w.heap.size/\ba<w.heap.size/\64<=cp/\w.cell? ⟨b,o+i*3,none⟩=some (.int .i64 p.1)/\
  w.cell? ⟨b,o+i*3+1,none⟩=some (.slice (some ⟨ba,oa,none⟩) 64 cp)/\w.cell? ⟨b,o+i*3+2,none⟩=some (.int .u16 p.2.t)/\w.rangeAt ba oa (Z6 p.2.b)
theorem XR.keep (h:XR w T A L)(hs:w.heap.size<=w'.heap.size)(hk:∀i,T i->i<w.heap.size->w'.heap[i]? =w.heap[i]?):XR w' T A L:=fun i p hp=>by
 obtain⟨b,o,ba,oa,cp,h1,h2,h3,h4,h5,h6,h7,h8,h9,h10⟩:=h i p hp
 have hb:=hk b h2 h4
 exact⟨b,o,ba,oa,cp,h1,h2,h3,by omega,by omega,h6,(qaf (a:=⟨b,_,none⟩) hb).trans h7,(qaf (a:=⟨b,_,none⟩) hb).trans h8,(qaf (a:=⟨b,_,none⟩) hb).trans h9,ZO h10 (hk ba h3 h5)⟩
theorem XR.below (h:XR w T A L)(hb:qat w.heap.size w w'):XR w' T A L:=h.keep hb.size fun i _ hi=>hb.block i hi
theorem XR.more {T':Nat->Prop}(h:XR w T A L)(hT:∀i,i<w.heap.size->T i->T' i):XR w T' A L:=fun i p hp=>by
 obtain⟨b,o,ba,oa,cp,h1,h2,h3,h4,h5,h6⟩:=h i p hp
 exact⟨b,o,ba,oa,cp,h1,hT b h4 h2,hT ba h5 h3,h4,h5,h6⟩
def ints(g:List (Nat × Sx)):List (Int × Sx):=g.map fun p=>((p.1:Int),p.2)
theorem TC{g:List (Nat × Sx)}{i:Nat}{p:Nat × Sx}(h:g[i]? =some p):(ints g)[i]? =some ((p.1:Int),p.2):=by rw[ints,List.getElem?_map,h];rfl
theorem K4(g:List (Nat × Sx))(h:∀p∈g,p.1<65536):∀x∈words g,x<65536:=fun x hx=>by
 simp only[words,List.mem_flatMap,List.mem_cons,List.not_mem_nil,or_false]at hx
 obtain⟨p,hp,rfl|rfl⟩:=hx
 ·exact h p hp
 ·exact p.2.ht
theorem Dv(g:List (Nat × Sx))(j:Nat)(p:Nat × Sx)(h:g[j]? =some p):words (g.take (j+1))=words (g.take j)++[p.1,p.2.t]:=by
 obtain⟨hj,rfl⟩:=qae.1 h
 rw[List.take_succ_eq_append_getElem hj,Uk]
 rfl
theorem Du(g:List (Nat × Sx))(T:Nat->Prop)(A:Option Addr)(m c:Nat)(w:qar)(hL:XR w T A (ints g))(hm:g.length=m)(h15:m<=15)(hf:∀p∈g,p.1<65536):
  qaw Tryz.prog 215 #[.slice A m c] w fun e w'=>∃v,e=.returned v/\Made w (QG g) v w':=by
 have HL:=χ hL
 have Hm:=χ hm
 have Hf:=χ hf
 clear hL hm hf
 go_enter Tryz.func215,Tryz.ntmps215
 go_wp2
 go_loopw [3,5,10] (fun v _ i wr=>∃j:Nat,j<=m/\i=.int .i64 j/\wr.ownsRow w.heap.size 41 1 v (2*j) (Zg (words (g.take j)))/\qat w.heap.size w wr) (fun _ _ i _=>m-(intOf i).toNat)
 case atStart=>exact⟨0,qaB _,rfl,qar.ownsRow_nil _ _ _ _,qaj _ _⟩
 case round=>
  obtain⟨j,hj,rfl,hown,hbe⟩:=hrel
  have Hbe:=χ hbe
  have Jr:=χ hown
  clear hbe hown
  by_cases hlt:j<m
  ·obtain⟨p,hp⟩:∃p,g[j]? =some p:=⟨_,qas (by rw[Hm.out];exact hlt)⟩
   obtain⟨b,o,ba,oa,cp,rfl,_,_,hb,_,_,c0,c1,c2,_⟩:=(HL.out.below Hbe.out) j _ (TC hp)
   have hpf:=Hf.out p (qap hp)
   have htf:=p.2.ht
   have Hw:=χ (Dv g j p hp)
   simp only at c0 c2
   obtain⟨s,hs⟩:∃s,s=p.1:=⟨_,rfl⟩
   obtain⟨t,ht⟩:∃t,t=p.2.t:=⟨_,rfl⟩
   rw[<-hs,<-ht]at Hw
   rw[<-hs]at c0 hpf
   rw[<-ht]at c2 htf
   have e1:IntKind.u64.wrap (s:Int)=(s:Int):=by rw[qaD];omega
   have e2:IntKind.u64.wrap (t:Int)=(t:Int):=by rw[qaD];omega
   have hsz:=Hbe.out.size
   clear hp hs ht hpf htf hb
   go_wp2_with (at_builtin;refine QX _ rfl (.tmp 14) (.tmp 21) rfl w.heap.size _ (2*j) _ rfl ((Jr.out.alloc _).alloc _) (wr.heap.size+2) _ 2 2 [s,t] rfl rfl ?c1 (by omega) (by simp;omega) ?_)
   case c1=>exact .inr ⟨wr.heap.size+1,0,rfl,by simp,fun i u hu=>by
    match i,hu with
    |0,hu=>rw[qar.cell?_alloc_at _ _ _ _ (by simp)];simpa[Zg,Qf]using hu
    |1,hu=>rw[qar.cell?_alloc_at _ _ _ _ (by simp)];simpa[Zg,Qf]using hu
    |i+2,hu=>simp[Zg]at hu⟩
   intro v' w1 hown' hg'
   have aaQ:qat w.heap.size w w1:=((Hbe.out.alloc hsz _).alloc (by simp;omega) _).grown hg' (by simp;omega) (fun k hk=>(Jr.out.lt k hk).1)
   rw[<-Hw.out]at hown'
   have HO:=χ hown'
   have HB:=χ aaQ
   clear hown' aaQ hg'
   go_wp2
   go_roundw
   case rel=>exact⟨j+1,by omega,by go_num,HO.out,HB.out⟩
   case measure=>simp[intOf];omega
  ·obtain rfl:j=m:=by omega
   have hall:g.take j=g:=by rw[<-Hm.out];exact List.take_length
   rw[hall]at Jr
   obtain⟨hl,A1,c1,rfl,hc1,eO,hr1⟩:=Yx Jr.out
   have lW:=χ hr1
   have hfw:(words g).all (WB · 2)=true:=by
    rw[List.all_eq_true]
    intro x hx
    have:=K4 g Hf.out x hx
    simp[WB];omega
   have aP:(words g).length=2*j:=by rw[Xl,Hm.out]
   have Q0:Ez 2 (words g)=true:=by
    simp only[Ez,hfw,aP,Bool.and_true,decide_eq_true_eq];omega
   have ace:=χ Q0
   have Hlw:=χ aP
   have Hwf:Hid (∀x∈words g,x<18446744073709551616):=fun x hx=>by have:=K4 g Hf.out x hx;omega
   clear hl hr1 hall Q0 aP eO Jr hlt hj hfw
   go_wp2_with fail
   refine(Ko (words g) A1 (2*j) c1 2 _ Hlw.out lW.out (by omega) (by omega) Hwf.out).mono ?_
   rintro e w2 ⟨aaR,_⟩
   obtain⟨v2,rfl,Dw,rz⟩:=aaR ace.out
   have hl2:(Y0 2 (words g)).length=4*j:=by rw[ZA,Hlw.out];omega
   rw[hl2]at Dw
   obtain⟨_,A2,c2,rfl,hc2,eG,hr2⟩:=Yx Dw
   have oF:=χ hr2
   have Hb2:=χ (Hbe.out.trans (rz.mono Hbe.out.size))
   have Hl2:=χ hl2
   clear aaR Dw rz hr2 hl2 eG
   go_wp2_with fail
   refine(OE (Y0 2 (words g)) A2 (4*j) c2 64 _ Hl2.out oF.out (by omega) (by omega)).mono ?_
   rintro e w3 ⟨v3,rfl,oO⟩
   rw[<-F9 g (by rw[Hm.out];exact h15)]at oO
   obtain⟨ry,ru⟩:=oO
   have H3:Hid (Made w (QG g) v3 w3):=⟨ZL ry Hb2.out.size,Hb2.out.trans (ru.mono Hb2.out.size)⟩
   clear ry ru
   go_wp2_with fail
   go_ret
   exact⟨_,rfl,H3.out⟩
end
end Go.Proofs.YtmehhgfbnfbnaaaGreat

namespace Go.Proofs.YtmehhgfbnfbnaaaGreat
open Go.RowKit
attribute [local go_sem↓] Go.wp_at_zero Go.wp_at_succ
theorem Vt{w w':qar}{l:List UInt8}{v:Value}{n:Nat}(h:Made w l v w')(hl:l.length=n)(h0:0<n):∃g c,v=.slice (some ⟨g,0,none⟩) n c/\n<=c/\w.heap.size<=g/\g<w'.heap.size/\w'.rangeAt g 0 (Z6 l):=by
 subst hl
 obtain⟨_,hn⟩:=h.1
 rcases hn with⟨_,h1⟩|⟨g,c,cur,rfl,h1,h2,h3,h4,h5,h6⟩
 ·omega
 ·have hlt:g<w'.heap.size:=(Array.getElem?_eq_some_iff.1 h2).1
  refine⟨g,c,rfl,h3,h1,hlt,fun j u hu=>?_⟩
  have hj:=(qae.1 hu).1
  rw[Z4]at hj
  rw[cell_of_row _ g _ cur _ (0,0) h2,Nat.zero_add,<-hu,<-h6,List.getElem?_take,if_pos (by omega)]
  simp
theorem rC(w1:qar)(T:Nat->Prop)(g1 cc:Nat)(at_:Int)(c:Sx)(hT:T w1.heap.size)(hg:T g1)(hlt:g1<w1.heap.size)(hcc:64<=cc)(hr:w1.rangeAt g1 0 (Z6 c.b)):
  XR (w1.alloc (.cells #[at_,.slice g1 64 cc,.int .u16 c.t] 140)) T (some ⟨w1.heap.size,0,none⟩) [(at_,c)]:=fun i p hp=>by
 cases i with
 |succ i=>simp at hp
 |zero=>
  obtain rfl:(at_,c)=p:=by simpa using hp
  have hB:=Bk.new w1 140 [at_,.slice g1 64 cc,.int .u16 c.t]
  exact⟨w1.heap.size,0,g1,0,cc,rfl,hT,hg,by simp,by simp;omega,hcc,hB.cell 0,hB.cell 1,hB.cell 2,qar.rangeAt_alloc hr _⟩
theorem Gc(w:qar)(bj b start n sq seq cnt:Nat)(hJ:JB w bj b start n sq)(hs:seq<18446744073709551616)(hn:cnt<65536):
  qaw Tryz.prog 142 #[.pointer bj,.int .u64 seq,cnt] w fun e w'=>∃g,e=.returned (.slice (some ⟨g,0,none⟩) 1 1)/\XR w' (fun i=>w.heap.size<=i) (some ⟨g,0,none⟩) [((start:Int),Yl seq cnt)]/\qat w.heap.size w w':=by
 have c1:=hJ.cell 1
 have hlt:=hJ.lt
 have Hs:=χ hs
 have Hn:=χ hn
 have IV:=χ hlt
 clear hJ hs hn hlt
 go_enter Tryz.func142,Tryz.ntmps142
 go_wp2
 go_region_with (first|(go_at_call 216;(refine(Nc seq cnt Hs.out Hn.out _).mono ?_);rintro e w1 ⟨v1,rfl,hM1⟩;have hb1:=χ hM1.2;obtain⟨g1,cc,rfl,hcc,hg1,hg1',hr1⟩:=Vt hM1 (VQ _ _) (by omega);have HR:=χ hr1;have c1':=(hM1.2.cell (p:=⟨bj,1,none⟩) IV.out).trans (by assumption);clear hM1))
 all_goals(clear c1;clear hr1;go_wp2)
 all_goals go_ret
 all_goals refine⟨w1.heap.size,rfl,rC w1 _ g1 cc _ (Yl seq cnt) (qau hb1.out.size (qal _)) hg1 hg1' hcc HR.out,?_⟩
 all_goals exact((qaj _ w).drew.trans hb1.out).alloc hb1.out.size _
end Go.Proofs.YtmehhgfbnfbnaaaGreat

namespace Go.Proofs.YtmehhgfbnfbnaaaGreat
open Go.RowKit
attribute [local go_sem↓] Go.wp_at_zero Go.wp_at_succ
section
variable {α:Type}
theorem Dk.VE (k:Dk α)(s:Nat)(c:α):(k.wrote s c).safe=k.safe:=by simp only[Dk.wrote,Dk.Uh]
theorem Dk.Tx (k:Dk α)(s:Nat)(c:α):(k.wrote s c).un=k.un++[(s,c)]:=rfl
theorem Dk.yf (k:Dk α):k.flush.safe.length=k.safe.length:=by
 unfold Dk.flush
 split
 ·rw[Dk.Uh]
 ·exact Yn _ _
theorem Dk.rD (k:Dk α):k.flush.un.length<=k.un.length:=by
 unfold Dk.flush
 split
 ·rw[Dk.O7];exact qal _
 ·exact qaB _
theorem Dk.Rz (l:List (Nat × α)):∀k:Dk α,(k.writes l).2.safe.length=k.safe.length:=by
 induction l with
 |nil=>exact fun k=>Dk.yf k
 |cons p r ih=>
  intro k
  unfold Dk.writes
  split
  ·simp only[Dk.Uh]
  ·rw[ih,Dk.VE]
theorem Dk.PQ (l:List (Nat × α)):∀k:Dk α,(k.writes l).2.un.length<=k.un.length+l.length:=by
 induction l with
 |nil=>exact fun k=>Dk.rD k
 |cons p r ih=>
  intro k
  unfold Dk.writes
  split
  ·simp only[Dk.O7];omega
  ·refine qau (ih _) ?_
   rw[Dk.Tx,qan,qaK,qao]
   omega
theorem Turned.trans {f:α->List Value}{S S1:Nat->Prop}{w w1 w2:qar}{b:Nat}{k:Dk α}(hK:Kept S w w1)(hS:∀t,S1 t->S t\/w.heap.size<=t)(hT:Turned f S1 w1 w2 b k):Turned f S w w2 b k:=by
 obtain⟨hK2,S2,hD2,hS2⟩:=hT
 exact⟨hK.trans hK2 hS,S2,hD2,fun t ht=>(hS2 t ht).elim (hS t) fun h=>.inr (qau hK.size h)⟩
end
section
variable {w:qar}{S T:Nat->Prop}{bj b start n seq:Nat}{k:Dk Sx}{A:Option Addr}{g:List (Nat × Sx)}
theorem Uf(hJ:JB w bj b start n seq)(hD:Zv sx w S b k)(hb:¬ S bj)(hL:XR w T A (ints g))(hT:∀t,T t->¬ S t)(m c:Nat)(hm:g.length=m)(hin:∀p∈g,p.1<k.safe.length)(hun:k.un.length+m<=1000000):
  qaw Tryz.prog 140 #[.pointer bj,.slice A m c] w fun e w'=>e=.returned (.int .i64 (k.writes g).1)/\Turned sx S w w' b (k.writes g).2:=by
 have HJ:=χ hJ
 have HD:=χ hD
 have Hb:=χ hb
 have HL:=χ hL
 have HT:=χ hT
 have Hm:=χ hm
 have lT:=χ hin
 have yt:=χ hun
 have IV:=χ hJ.lt
 have hmm:m<=1000000:=by omega
 clear hJ hD hb hL hT hm hin hun
 go_enter Tryz.func140,Tryz.ntmps140
 go_wp2
 go_loopw [6,7,10] (fun _ _ i wr=>∃(j:Nat)(S':Nat->Prop)(kj:Dk Sx),j<=m/\i=.int .i64 j/\Zv sx wr S' b kj/\Kept S w wr/\(∀t,S' t->S t\/w.heap.size<=t)/\
  k.writes g=kj.writes (g.drop j)/\kj.un.length<=k.un.length+j/\kj.safe.length=k.safe.length) (fun _ _ i _=>m-(intOf i).toNat)
 case atStart=>exact⟨0,S,k,qaB _,rfl,HD.out,Kept.refl _ _,fun t ht=>.inl ht,rfl,qal _,rfl⟩
 case round=>
  obtain⟨j,S',kj,hj,rfl,hD,hK,hS,hw,hu,hl⟩:=hrel
  have HDj:=χ hD
  have HK:=χ hK
  have HS:=χ hS
  have Hw:=χ hw
  have Hu:=χ hu
  have Hl:=χ hl
  have hJr:JB wr bj b start n seq:=(hK.block bj IV.out Hb.out).trans HJ.out
  have hsz:=hK.size
  have cj:=hJr.cell 0
  have hnot:∀t,T t->t<w.heap.size->¬ S' t:=fun t ht hlt hs=>by
   rcases hS t hs with h|h
   ·exact HT.out t ht h
   ·omega
  have hnj:Hid (¬ S' bj):=fun hs=>by
   rcases hS bj hs with h|h
   ·exact Hb.out h
   ·have:=IV.out;omega
  have acb:=χ hnot
  have hLr:XR wr (fun t=>T t/\t<w.heap.size) A (ints g):=(HL.out.more fun i hi ht=>⟨ht,hi⟩).keep hsz fun i hi _=>hK.block i hi.2 fun hs=>HT.out i hi.1 hs
  clear hD hK hS hw hu hl hJr hnot
  by_cases hlt:j<m
  ·obtain⟨p,hp⟩:∃p,g[j]? =some p:=⟨_,qas (by rw[Hm.out];exact hlt)⟩
   obtain⟨b1,o,ba,oa,cp,rfl,hT1,hT2,hb1,hb2,hcp,c0,c1,c2,hr⟩:=hLr j _ (TC hp)
   have hdrop:Hid (g.drop j=p::g.drop (j+1)):=by
    obtain⟨h1,h2⟩:=qae.1 hp
    show _=_
    rw[<-h2,qaH]
   have hps:=lT.out p (qap hp)
   simp only at c0 c2
   obtain⟨s,x⟩:=p
   simp only at c0 c1 c2 hr hps hdrop
   have aaM:Hid (s<kj.safe.length):=by show _<_;rw[Hl.out];exact hps
   have hxt:=x.ht
   obtain⟨t,ht⟩:∃t,t=x.t:=⟨_,rfl⟩
   rw[<-ht]at c2 hxt
   have Ht:=χ ht
   have Hr:=χ hr
   have Hba:=χ (acb.out ba hT2.1 hT2.2)
   have Hb2:=χ hb2
   have hcj:bj<wr.heap.size:=by have:=IV.out;omega
   have Hcj:=χ hcj
   clear hp ht hr hps hT1 hT2 hb2 hcj hLr
   cases hoff:kj.off
   ·have QH:=χ hoff
    clear hoff
    go_wp2
    have d0:=(Bk.new wr 140 [s,.slice (some ⟨ba,oa,none⟩) 64 cp,.int .u16 t])
    have hbW:qat wr.heap.size wr (wr.alloc (.cells #[s,.slice (some ⟨ba,oa,none⟩) 64 cp,.int .u16 t] 140)):=(qaj _ wr).alloc (qal _) _
    have hW1:(wr.alloc (.cells #[s,.slice (some ⟨ba,oa,none⟩) 64 cp,.int .u16 t] 140)).heap.size=wr.heap.size+1:=by simp
    have eX:Hid (¬ S' wr.heap.size):=fun hs=>by have:=HDj.out.lt hs;omega
    have e0:=d0.cell 0
    have e1:=d0.cell 1
    have e2:=d0.cell 2
    have aJ:=(hbW.cell (p:=⟨bj,0,none⟩) Hcj.out).trans cj
    have HW:=χ hbW
    have HW1:=χ hW1
    clear d0 hbW cj c0 c1 c2 hW1
    generalize wr.alloc (.cells #[s,.slice (some ⟨ba,oa,none⟩) 64 cp,.int .u16 t] 140)=W at*
    have DW:=χ (HDj.out.below HW.out)
    have HrW:=χ (ZO Hr.out (HW.out.block ba Hb2.out))
    have aI:Hid (ba<W.heap.size):=qam Hb2.out HW.out.size
    have aaN:Hid (kj.un.length<=1073741824):=by have:=Hu.out;have:=yt.out;show _<=_;omega
    obtain⟨gp,V8⟩:∃gp,gp=wr.heap.size:=⟨_,rfl⟩
    have eU:Hid (bj<W.heap.size):=qam Hcj.out HW.out.size
    have eT:Hid (wr.heap.size<W.heap.size):=by rw[HW1.out];exact qaz _
    go_region_held3 (fun w':qar=>w'.cell? ⟨bj,0,none⟩=some (.pointer b)/\w'.cell? ⟨wr.heap.size,0,none⟩=some (.int .i64 s)/\w'.cell? ⟨wr.heap.size,1,none⟩=some (.slice (some ⟨ba,oa,none⟩) 64 cp)/\w'.cell? ⟨wr.heap.size,2,none⟩=some (.int .u16 t))
     (first|exact⟨aJ,e0,e1,e2⟩|assumption)
     (first|(go_at_call 114;(refine(LC Qi W.drew S' b kj (DW.out.keep fun _ _=>rfl) s aaM.out ba oa cp (Z6 x.b) (t:Int) x (by rw[Ht.out];rfl) (by rw[Z4,x.hb]) (ZO HrW.out rfl) Hba.out aI.out aaN.out QH.out).mono ?_);rintro e w2 ⟨rfl,hT⟩;have T2:=χ hT;have hkp:∀i,i<W.heap.size->¬ S' i->w2.heap[i]? =W.heap[i]? :=fun i hi hs=>hT.1.block i hi hs;have k0:=(qaf (a:=⟨bj,0,none⟩) (hkp bj eU.out hnj.out)).trans aJ;have k1:=(qaf (a:=⟨wr.heap.size,0,none⟩) (hkp _ eT.out eX.out)).trans e0;have k2:=(qaf (a:=⟨wr.heap.size,1,none⟩) (hkp _ eT.out eX.out)).trans e1;have k3:=(qaf (a:=⟨wr.heap.size,2,none⟩) (hkp _ eT.out eX.out)).trans e2;have kk:=qay k0 (qay k1 (qay k2 k3));clear hT hkp))
    go_wp2
    obtain⟨hK2,S2,hD2,hS2⟩:=T2.out
    have hKW:Kept S w W.drew:=(HK.out.trans (Kept.of_below (S:=S) HW.out) fun i hi=>.inl hi).drew
    have A1:=χ (hKW.trans hK2 HS.out)
    have A2:Hid (∀t,S2 t->S t\/w.heap.size<=t):=fun t ht=>(hS2 t ht).elim (HS.out t) fun h=>.inr (qau hKW.size h)
    have A3:=χ hD2
    have A4:Hid (k.writes g=(kj.wrote s x).writes (g.drop (j+1))):=by
     show _=_
     rw[Hw.out,hdrop.out,Dk.writes,QH.out];rfl
    have A5:Hid ((kj.wrote s x).un.length<=k.un.length+(j+1)):=by
     show _<=_
     rw[Dk.Tx,qan,qaK];have:=Hu.out;omega
    have A6:Hid ((kj.wrote s x).safe.length=k.safe.length):=by
     show _=_
     rw[Dk.VE];exact Hl.out
    clear hK2 hD2 hS2 hKW k0 k1 k2 k3 kk aJ e0 e1 e2 T2
    go_roundw
    case rel=>exact⟨j+1,S2,kj.wrote s x,by omega,by go_num,A3.out,A1.out,A2.out,A4.out,A5.out,A6.out⟩
    case measure=>simp[intOf];omega
   ·have QH:=χ hoff
    clear hoff
    go_wp2
    have d0:=(Bk.new wr 140 [s,.slice (some ⟨ba,oa,none⟩) 64 cp,.int .u16 t])
    have hbW:qat wr.heap.size wr (wr.alloc (.cells #[s,.slice (some ⟨ba,oa,none⟩) 64 cp,.int .u16 t] 140)):=(qaj _ wr).alloc (qal _) _
    have hW1:(wr.alloc (.cells #[s,.slice (some ⟨ba,oa,none⟩) 64 cp,.int .u16 t] 140)).heap.size=wr.heap.size+1:=by simp
    have eX:Hid (¬ S' wr.heap.size):=fun hs=>by have:=HDj.out.lt hs;omega
    have e0:=d0.cell 0
    have e1:=d0.cell 1
    have e2:=d0.cell 2
    have aJ:=(hbW.cell (p:=⟨bj,0,none⟩) Hcj.out).trans cj
    have HW:=χ hbW
    have HW1:=χ hW1
    clear d0 hbW cj c0 c1 c2 hW1
    generalize wr.alloc (.cells #[s,.slice (some ⟨ba,oa,none⟩) 64 cp,.int .u16 t] 140)=W at*
    have DW:=χ (HDj.out.below HW.out)
    have HrW:=χ (ZO Hr.out (HW.out.block ba Hb2.out))
    have aI:Hid (ba<W.heap.size):=qam Hb2.out HW.out.size
    have aaN:Hid (kj.un.length<=1073741824):=by have:=Hu.out;have:=yt.out;show _<=_;omega
    obtain⟨gp,V8⟩:∃gp,gp=wr.heap.size:=⟨_,rfl⟩
    have eU:Hid (bj<W.heap.size):=qam Hcj.out HW.out.size
    have eT:Hid (wr.heap.size<W.heap.size):=by rw[HW1.out];exact qaz _
    go_region_held3 (fun w':qar=>w'.cell? ⟨bj,0,none⟩=some (.pointer b)/\w'.cell? ⟨wr.heap.size,0,none⟩=some (.int .i64 s)/\w'.cell? ⟨wr.heap.size,1,none⟩=some (.slice (some ⟨ba,oa,none⟩) 64 cp)/\w'.cell? ⟨wr.heap.size,2,none⟩=some (.int .u16 t))
     (first|exact⟨aJ,e0,e1,e2⟩|assumption)
     (first|(go_at_call 114;(refine(yc W.drew S' b kj (DW.out.keep fun _ _=>rfl) s aaM.out (some ⟨ba,oa,none⟩) cp (.int .u16 t) QH.out).mono ?_);rintro e w2 ⟨rfl,hT⟩;have T2:=χ hT;have hkp:∀i,i<W.heap.size->¬ S' i->w2.heap[i]? =W.heap[i]? :=fun i hi hs=>hT.1.block i hi hs;have k0:=(qaf (a:=⟨bj,0,none⟩) (hkp bj eU.out hnj.out)).trans aJ;have k1:=(qaf (a:=⟨wr.heap.size,0,none⟩) (hkp _ eT.out eX.out)).trans e0;have k2:=(qaf (a:=⟨wr.heap.size,1,none⟩) (hkp _ eT.out eX.out)).trans e1;have k3:=(qaf (a:=⟨wr.heap.size,2,none⟩) (hkp _ eT.out eX.out)).trans e2;have kk:=qay k0 (qay k1 (qay k2 k3));clear hT hkp))
    go_wp2
    obtain⟨hK2,S2,hD2,hS2⟩:=T2.out
    have hKW:Kept S w W.drew:=(HK.out.trans (Kept.of_below (S:=S) HW.out) fun i hi=>.inl hi).drew
    have A4:k.writes g=(6,kj.op):=by
     rw[Hw.out,hdrop.out,Dk.writes,QH.out];rfl
    go_ret
    rw[A4]
    exact⟨rfl,hKW.trans hK2 HS.out,S2,hD2,fun t ht=>(hS2 t ht).elim (HS.out t) fun h=>.inr (qau hKW.size h)⟩
  ·obtain rfl:j=m:=by omega
   have hnil:g.drop j=[]:=by rw[<-Hm.out];exact List.drop_length
   have A4:Hid (k.writes g=(if kj.off then 6 else 0,kj.flush)):=by
    show _=_
    rw[Hw.out,hnil];rfl
   have lS:Hid (kj.un.length<=1073741824):=by have:=Hu.out;have:=yt.out;show _<=_;omega
   clear hnil hLr
   obtain⟨fe,hfe⟩:∃fe,fe=(if kj.off then(6:Int)else 0):=⟨_,rfl⟩
   have Hfe:=χ hfe
   rw[<-hfe]at A4
   clear hfe
   go_wp2_with (go_at_call 115;refine(LB Qi _ S' b kj HDj.out lS.out).mono ?_;rintro e w2 ⟨he,hT⟩;rw[<-Hfe.out]at he;subst he;have T2:=χ hT;clear hT)
   go_ret
   rw[A4.out]
   exact⟨rfl,Turned.trans HK.out HS.out T2.out⟩
theorem Ng(hJ:JB w bj b start n seq)(hD:Zv sx w S b k)(hb:¬ S bj)(hL:XR w T A (ints g))(hT:∀t,T t->¬ S t)(m c:Nat)(hm:g.length=m)(hin:∀p∈g,p.1<k.safe.length)(hst:start<k.safe.length)(hun:k.un.length+m<=900000)(q:Nat)(hq:q<18446744073709551616):
  qaw Tryz.prog 143 #[.pointer bj,.int .u64 q,.slice A m c] w fun e w'=>e=.returned (.int .i64 (k.finish start q g).1)/\Turned sx S w w' b (k.finish start q g).2:=by
 have hlen:=Dk.Rz g k
 have aaO:(k.writes g).2.un.length<=900000:=by have:=Dk.PQ g k;omega
 have Hw:=χ (fun c=>Uf (c:=c) hJ hD hb hL hT m hm hin (by omega))
 have Hq:=χ hq
 have IV:=χ hJ.lt
 have HJ:=χ hJ
 have Hb:=χ hb
 have Hst:Hid (start<(k.writes g).2.safe.length):=by show _<_;rw[hlen];exact hst
 have lS:=χ aaO
 unfold Dk.finish
 generalize hr:k.writes g=r at*
 obtain⟨e0,k1⟩:=r
 simp only at Hst lS Hw⊢
 clear hJ hD hb hL hT hm hin hun hq hr hlen aaO hst
 by_cases he:e0=0
 ·subst he
  rw[if_pos rfl]
  go_enter Tryz.func143,Tryz.ntmps143
  go_wp2_with (go_at_call 140;refine(Hw.out c).mono ?_;rintro e w1 ⟨rfl,hT1⟩;have T1:=χ hT1;clear hT1)
  have jv:JB w1 bj b start n seq:=(T1.out.1.block bj IV.out Hb.out).trans HJ.out
  refine(Gc w1 bj b start n seq q 0 jv Hq.out (by omega)).mono ?_
  rintro e w2 ⟨gh,rfl,hP,hB2⟩
  have HP:=χ hP
  have HB2:=χ hB2
  have HJ1:=χ jv
  clear hP hB2 jv
  obtain⟨hK1,S1,hD1,hS1⟩:=T1.out
  have hlt1:=qam IV.out hK1.size
  have hb1:¬ S1 bj:=fun hs=>by
   rcases hS1 bj hs with h|h
   ·exact Hb.out h
   ·have:=IV.out;omega
  have oI:=χ hK1
  have HD1:=χ (hD1.below HB2.out)
  have HS1:=χ hS1
  have Hb1:=χ hb1
  have HJ2:=χ ((HB2.out.block bj hlt1).trans HJ1.out)
  have acd:Hid (∀t,w1.heap.size<=t->¬ S1 t):=fun t ht hs=>by have:=hD1.lt hs;omega
  have Lm:=χ (oI.out.trans (Kept.of_below (S:=S) HB2.out) fun i hi=>.inl hi)
  clear hK1 hD1 hS1 hb1 hlt1
  go_wp2_with fail
  refine(Uf (g:=[(start,Yl q 0)]) (T:=fun i=>w1.heap.size<=i) HJ2.out HD1.out Hb1.out HP.out acd.out 1 1 rfl (fun p hp=>by simp only[List.mem_singleton]at hp;subst hp;exact Hst.out) (by have:=lS.out;omega)).mono ?_
  rintro e w3 ⟨rfl,aL⟩
  have T3:=χ aL
  clear aL
  go_wp2_with fail
  go_ret
  exact⟨rfl,Turned.trans Lm.out HS1.out T3.out⟩
 ·rw[if_neg he]
  have he2:(e0 != 0)=true:=by simp[he]
  go_enter Tryz.func143,Tryz.ntmps143
  go_wp2_with (go_at_call 140;refine(Hw.out c).mono ?_;rintro e w1 ⟨rfl,hT1⟩;have T1:=χ hT1;clear hT1)
  go_ret
  exact⟨rfl,T1.out⟩
end
end Go.Proofs.YtmehhgfbnfbnaaaGreat

namespace Go.Proofs.YtmehhgfbnfbnaaaGreat
open Go.RowKit
attribute [local go_sem↓] Go.wp_at_zero Go.wp_at_succ
section
variable {w:qar}{S T:Nat->Prop}{bj b start n seq:Nat}{k:Dk Sx}{A:Option Addr}
theorem yh(hJ:JB w bj b start n seq)(hD:Zv sx w S b k)(hs:start<=4096)(hn:n<=4096)(gB:Nat)(hB:w.cell? ⟨gB,0,none⟩=some (.pointer bj))(s:Int)(ba:Addr)(cp:Nat)(t:Int):
  qaw Tryz.prog 211 #[.agg #[s,.slice (some ba) 64 cp,.int .u16 t],.pointer gB] w fun e w'=>e=.returned (.bool (!Xy k.safe.length start n s))/\qat w.heap.size w w':=by
 have Ht:Hid (∀W,qat w.heap.size w W->qaw Tryz.prog 212 #[.pointer bj,s] W fun e w'=>e=.returned (.bool (Xy k.safe.length start n s))/\qat W.heap.size W w'):=fun W hW=>
  (K5 W S bj b start n seq k (hJ.below hW hJ.lt) (hD.below hW) hs hn s)
 have hlt:=qar.block_lt_of_cell? w _ hB
 have hb0:qat w.heap.size w (w.alloc (.cells #[s,.slice (some ba) 64 cp,.int .u16 t] 140)):=(qaj _ _).alloc (qal _) _
 have Hb0:=χ hb0
 clear hJ hD hb0
 cases htk:Xy k.safe.length start n s
 ·rw[htk]at Ht
  clear htk
  go_enter Tryz.func211,Tryz.ntmps211
  go_wp2_with (go_at_call 212;refine(Ht.out _ Hb0.out).mono ?_;rintro e w1 ⟨rfl,hb⟩)
  go_ret
  exact⟨rfl,Hb0.out.trans (hb.mono Hb0.out.size)⟩
 ·rw[htk]at Ht
  clear htk
  have d1:=(Bk.new w 140 [s,.slice (some ba) 64 cp,.int .u16 t])
  have hsz:(w.alloc (.cells #[s,.slice (some ba) 64 cp,.int .u16 t] 140)).heap.size=w.heap.size+1:=by simp
  go_enter Tryz.func211,Tryz.ntmps211
  go_wp2_with (go_at_call 212;refine(Ht.out _ Hb0.out).mono ?_;rintro e w1 ⟨rfl,hb⟩;have d2:=(hb.cell (p:=⟨w.heap.size,1,none⟩) (by rw[hsz];exact qaz _)).trans (d1.cell 1))
  go_ret
  exact⟨rfl,Hb0.out.trans (hb.mono Hb0.out.size)⟩
def XQ(m start n:Nat)(L:List (Int × Sx)):Bool:=L.any fun p=>!Xy m start n p.1
theorem yg(hJ:JB w bj b start n seq)(hD:Zv sx w S b k)(hs:start<=4096)(hn:n<=4096)(gB:Nat)(hB:w.cell? ⟨gB,0,none⟩=some (.pointer bj))(L:List (Int × Sx))(hL:XR w T A L)(m c:Nat)(hm:L.length=m)(hmm:m<=1000000):
  qaw Tryz.prog 251 #[.slice A m c,.func (.func 211) #[] #[.pointer gB]] w fun e w'=>∃i:Int,e=.returned (.int .i64 i)/\decide (0<=i)=XQ k.safe.length start n L/\qat w.heap.size w w':=by
 have hlt:=qar.block_lt_of_cell? w _ hB
 have Hw:Hid (∀W,qat w.heap.size w W->∀(s:Int)(ba:Addr)(cp:Nat)(t:Int),qaw Tryz.prog 211 #[.agg #[s,.slice (some ba) 64 cp,.int .u16 t],.pointer gB] W fun e w'=>e=.returned (.bool (!Xy k.safe.length start n s))/\qat W.heap.size W w'):=fun W hW s ba cp t=>
  yh (hJ.below hW hJ.lt) (hD.below hW) hs hn gB ((hW.cell (p:=⟨gB,0,none⟩) hlt).trans hB) s ba cp t
 have HL:=χ hL
 have Hm:=χ hm
 clear hJ hD hB hL hm hs hn hlt
 go_enter Tryz.func251,Tryz.ntmps251
 go_wp2
 go_loopw [5,8] (fun _ i wr=>∃j:Nat,j<=m/\i=.int .i64 j/\qat w.heap.size w wr/\Hid (∀q p,L[q]? =some p->q<j->Xy k.safe.length start n p.1=true)) (fun _ i _=>m-(intOf i).toNat)
 case atStart=>exact⟨0,qaB _,rfl,qaj _ _,fun q _ _ hq=>absurd hq (Nat.not_lt_zero _)⟩
 case round=>
  obtain⟨j,hj,rfl,hb,Hf⟩:=hrel
  have Hb:=χ hb
  clear hb
  by_cases hlt:j<m
  ·obtain⟨p,hp⟩:∃p,L[j]? =some p:=⟨_,qas (by rw[Hm.out];exact hlt)⟩
   obtain⟨b1,o,ba,oa,cp,rfl,_,_,_,_,_,c0,c1,c2,_⟩:=(HL.out.below Hb.out) j _ hp
   obtain⟨s,x⟩:=p
   simp only at c0 c2
   have hq:=Hw.out wr Hb.out s ⟨ba,oa,none⟩ cp x.t
   obtain⟨t,ht⟩:∃t:Int,t=x.t:=⟨_,rfl⟩
   rw[<-ht]at c2 hq
   have Hp:=χ hp
   clear hp ht
   cases htk:Xy k.safe.length start n s
   ·rw[htk]at hq
    have Htk:=χ htk
    clear htk
    go_wp2_with (go_at_call 211;refine hq.mono ?_;rintro e w' ⟨rfl,hb⟩)
    go_ret
    refine⟨(j:Int),rfl,?_,Hb.out.trans (hb.mono Hb.out.size)⟩
    have:XQ k.safe.length start n L=true:=by
     rw[XQ,List.any_eq_true]
     exact⟨_,qap Hp.out,by simp only[Htk.out];rfl⟩
    rw[this,decide_eq_true_eq];omega
   ·rw[htk]at hq
    have Htk:=χ htk
    clear htk
    go_wp2_with (go_at_call 211;refine hq.mono ?_;rintro e w' ⟨rfl,hb⟩)
    go_roundw
    case rel=>exact⟨j+1,by omega,by go_num,Hb.out.trans (hb.mono Hb.out.size),fun q p hq hlt=>by
     rcases Nat.lt_or_ge q j with h|h
     ·exact Hf.out q p hq h
     ·obtain rfl:q=j:=by omega
      rw[Hp.out]at hq
      cases hq
      exact Htk.out⟩
    case measure=>simp[intOf];omega
  ·obtain rfl:j=m:=by omega
   have:XQ k.safe.length start n L=false:=by
    rw[XQ,List.any_eq_false]
    intro p hp
    obtain⟨q,hq⟩:=qaJ.1 hp
    rw[Hf.out q p hq (by rw[<-Hm.out];exact(qae.1 hq).1)]
    simp
   have Hz:=χ this
   clear this
   go_wp2
   go_ret
   exact⟨-1,rfl,by rw[Hz.out];rfl,Hb.out⟩
theorem Js(hJ:JB w bj b start n seq)(hD:Zv sx w S b k)(hs:start<=4096)(hn:n<=4096)(gB:Nat)(hB:w.cell? ⟨gB,0,none⟩=some (.pointer bj))(L:List (Int × Sx))(hL:XR w T A L)(m c:Nat)(hm:L.length=m)(hmm:m<=1000000):
  qaw Tryz.prog 213 #[.slice A m c,.func (.func 211) #[] #[.pointer gB]] w fun e w'=>e=.returned (.bool (XQ k.safe.length start n L))/\qat w.heap.size w w':=by
 have Hi:=χ (yg (c:=c) hJ hD hs hn gB hB L hL m hm hmm)
 clear hJ hD hB hL hm
 go_enter Tryz.func213,Tryz.ntmps213
 go_wp2_with (go_at_call 251;refine Hi.out.mono ?_;rintro e w' ⟨i,rfl,hi,hb⟩)
 go_ret
 exact⟨by rw[<-hi];rfl,hb⟩
def Uq(m start n:Nat)(L:List (Int × Sx)):Int:=if room n<L.length then 4 else if XQ m start n L then 1 else 0
theorem Dz(hJ:JB w bj b start n seq)(hD:Zv sx w S b k)(hs:start<=4096)(Ce:3<=n)(hn:n<=4096)(hq:seq<18446744073709551615)(L:List (Int × Sx))(hL:XR w T A L)(m c:Nat)(hm:L.length=m)(hmm:m<=1000000):
  qaw Tryz.prog 139 #[.pointer bj,.slice A m c] w fun e w'=>e=.returned (.int .i64 (Uq k.safe.length start n L))/\qat w.heap.size w w':=by
 have hlt:=hJ.lt
 have hb0:qat w.heap.size w (w.alloc (.cells #[.pointer bj] 129)):=(qaj _ _).alloc (qal _) _
 have hB0:(w.alloc (.cells #[.pointer bj] 129)).cell? ⟨w.heap.size,0,none⟩=some (.pointer bj):=(Bk.new w 129 [.pointer bj]).cell 0
 have Hc:=χ (Js (c:=c) (hJ.below hb0 hlt) (hD.below hb0) hs hn w.heap.size hB0 L (hL.below hb0) m hm hmm)
 have Hr:=χ (Nf (w.alloc (.cells #[.pointer bj] 129)) bj b start n seq (hJ.below hb0 hlt) Ce hn)
 have Hb0:=χ hb0
 have c3:=(hb0.cell (p:=⟨bj,3,none⟩) hlt).trans (hJ.cell 3)
 have hsq:((seq:Int)==18446744073709551615)=false:=by rw[beq_eq_false_iff_ne];omega
 have hrm:room n<=4096:=by unfold room;omega
 unfold Uq
 rw[hm]
 obtain⟨r,hr⟩:∃r,r=room n:=⟨_,rfl⟩
 rw[<-hr]at Hr hrm⊢
 clear hJ hD hL hm hb0 hB0 hr
 by_cases hlong:r<m
 ·rw[if_pos hlong]
  go_enter Tryz.func139,Tryz.ntmps139
  go_wp2_with (first|(go_at_call 71;refine Hr.out.mono ?_;rintro e w' ⟨rfl,rfl⟩))
  go_ret
  exact⟨rfl,Hb0.out⟩
 ·rw[if_neg hlong]
  cases hw:XQ k.safe.length start n L
  ·exact zv0
  ·exact zv0
end
end Go.Proofs.YtmehhgfbnfbnaaaGreat
