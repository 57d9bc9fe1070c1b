import Derived.Test.YtmehhgfbnfbnaaaGreatQF
import Derived.Test.YtmehhgfbnfbnaaaGreatQDiskB
import Derived.Test.YtmehhgfbnfbnaaaGreatQTk
import Derived.Deep.RegionHeld3
import Derived.Deep.RegionWith
set_option maxRecDepth 100000
set_option maxHeartbeats 25600000
open List renaming setIfInBounds_toArray->qaa,set_cons_zero->qab,set_cons_succ->qac,replicate->qaf,getElem?_eq_some_iff->qag,append_assoc->qah,length_append->qaj,take_of_length_le->qak,length_cons->qal,take_append_of_le_length->qam,nil_append->qat,length_map->qau,getElem?_append_right->qaw,drop_zero->qax,getElem?_cons_succ->qay,drop_of_length_le->qaz,length_singleton->qaA
open Go.Act renaming put->qad
open Go.World renaming cell?_of_block->qae
open Nat renaming lt_of_lt_of_le->qai,le_refl->qaq,le_trans->qar
open Go renaming wp_region_held_drew->qan,World->qao,wpAnyH_done->qav
open Go.RowKit.Below renaming refl->qap
open And renaming intro->qas
namespace Go.Proofs.YtmehhgfbnfbnaaaGreat
open Go.RowKit
section
variable {α:Type}
structure Sx where
 b:List UInt8
 t:Nat
 hb:b.length=64
 ht:t<65536
theorem Sx.same {c d:Sx}(h1:c.b=d.b)(h2:c.t=d.t):c=d:=by
 cases c;cases d;simp only at h1 h2;subst h1;subst h2;rfl
def sx(c:Sx):List Value:=Z7 c.b++[.int .u16 c.t]
theorem Ti:Enc sx:=⟨fun c=>by simp[sx,Z5,c.hb],fun c u hu=>by
 simp only[sx,List.mem_append,List.mem_singleton]at hu
 rcases hu with hu|rfl
 ·exact YH _ u hu
 ·rfl⟩
def zx:Sx:=⟨qaf 64 0,0,by simp,by decide⟩
def EC(seq n:Nat):List UInt8:=put (put (qaf 60 0) 0 (YK seq 8)) 8 (YK n 2)
theorem O0(seq n:Nat):EC seq n=YK seq 8++(YK n 2++qaf 50 0):=by
 have h1:(YK seq 8).length=8:=Zw _ _
 have h2:(YK n 2).length=2:=Zw _ _
 simp only[EC,put,h1,h2,List.take_zero,qat,Nat.zero_add,List.drop_replicate]
 rw[qam (by omega),qak (by omega),List.drop_append,h1,qaz (by omega),qat,List.drop_replicate,qah]
theorem Lu(seq n:Nat):(EC seq n).length=60:=by
 rw[O0];simp[Zw]
def Vn(seq n:Nat):List UInt8:=VI (EC seq n)
theorem Ws(seq n:Nat):(Vn seq n).length=64:=by rw[Vn,VH,Lu]
theorem Cb(seq n:Nat)(h:seq<18446744073709551616):le (((Vn seq n).drop 0).take 8)=seq:=by
 rw[Vn,VI,O0,qax,qah,qam (by rw[Zw];omega),qak (by rw[Zw];omega),WT _ _ (by omega)]
theorem Ca(seq n:Nat)(h:n<65536):le (((Vn seq n).drop 8).take 2)=n:=by
 rw[Vn,VI,O0,qah,List.drop_append,Zw,qaz (by rw[Zw];omega),qat,Nat.sub_self,qax,qah,
  qam (by rw[Zw];omega),qak (by rw[Zw];omega),WT _ _ (by omega)]
def Uk(seq n:Nat):Sx:=⟨Vn seq n,0,Ws _ _,by decide⟩
def words(g:List (Nat × Sx)):List Nat:=g.flatMap fun p=>[p.1,p.2.t]
theorem Wt(g:List (Nat × Sx)):(words g).length=2*g.length:=by
 induction g with
 |nil=>rfl
 |cons p g ih=>simp only[words,List.flatMap_cons,qaj,qal,List.length_nil]at ih⊢;omega
theorem Sy(g m:List (Nat × Sx)):words (g++m)=words g++words m:=by simp[words]
def xQ(g:List (Nat × Sx)):List UInt8:=(Yg (YX 2 (words g)) 64).take 64
theorem Lt(g:List (Nat × Sx)):(xQ g).length=64:=by simp[xQ,Yg];omega
def rG(g:List (Nat × Sx)):Sx:=⟨xQ g,0,Lt g,by decide⟩
def rF(l:List (Nat × Sx))(c:Nat):List (Nat × Sx):=(l.drop (15*c)).take 15
def Xz(l:List (Nat × Sx)):Nat->List Sx
 |0=>[]
 |c+1=>Xz l c++(rG (rF l c)::(rF l c).map (·.2))
def stored(l:List (Nat × Sx)):List Sx:=Xz l ((l.length+14)/15)
theorem OZ(l:List (Nat × Sx))(c:Nat):(rF l c).length=min 15 (l.length-15*c):=by simp[rF]
theorem WC(l:List (Nat × Sx)):∀c,15*c<=l.length->(Xz l c).length=16*c
 |0,_=>rfl
 |c+1,h=>by
  rw[Xz,qaj,WC l c (by omega),qal,qau,OZ]
  omega
theorem WU(l:List (Nat × Sx)):(stored l).length=l.length+(l.length+14)/15:=by
 unfold stored
 obtain⟨C,hC⟩:∃C,C=(l.length+14)/15:=⟨_,rfl⟩
 rw[<-hC]
 cases C with
 |zero=>simp[Xz];omega
 |succ c=>
  rw[Xz,qaj,WC l c (by omega),qal,qau,OZ]
  omega
theorem Ls (l : List (Nat × Sx)) (c d : Nat) (h : c <= d) : ∃ r, Xz l d = Xz l c ++ r := by
  induction d with
  | zero => obtain rfl : c = 0 := by omega
            exact ⟨[], by simp⟩
  | succ d ih =>
    rcases Nat.lt_or_ge c (d + 1) with h1 | h1
    · obtain ⟨r, hr⟩ := ih (by omega)
      exact ⟨_, by rw [Xz, hr, qah]⟩
    · obtain rfl : c = d + 1 := by omega
      exact ⟨[], by simp⟩
theorem Cg(l:List (Nat × Sx))(i:Nat)(p:Nat × Sx)(h:l[i]? =some p):
  (stored l)[i/15*16]? =some (rG (rF l (i/15)))/\(stored l)[i/15*16+1+i%15]? =some p.2:=by
 have hi:=(qag.1 h).1
 obtain⟨c,hc⟩:∃c,c=i/15:=⟨_,rfl⟩
 obtain⟨k,hk⟩:∃k,k=i%15:=⟨_,rfl⟩
 rw[<-hc,<-hk]
 obtain⟨r,hr⟩:=Ls l (c+1) ((l.length+14)/15) (by omega)
 have hl:=WC l c (by omega)
 have hg:(rF l c)[k]? =some p:=by
  rw[rF,List.getElem?_take,if_pos (by omega),List.getElem?_drop,show 15*c+k=i by omega];exact h
 have hk2:k<(rF l c).length:=(qag.1 hg).1
 unfold stored
 rw[hr,Xz,qah]
 constructor
 ·rw[qaw (by omega),hl,show c*16-16*c=0 by omega];rfl
 ·rw[qaw (by omega),hl,show c*16+1+k-16*c=k+1 by omega,List.cons_append,qay,List.getElem?_append_left (by rw[qau];exact hk2),List.getElem?_map,hg];rfl
def room(n:Nat):Nat:=(n-1)/16*15+((n-1)%16-1)
def placed:Nat->List α->List (Nat × α)
 |_,[]=>[]
 |i,c::r=>(i,c)::placed (i+1) r
theorem Ot(l:List α):∀i,(placed i l).length=l.length:=by
 induction l with
 |nil=>exact fun _=>rfl
 |cons c r ih=>exact fun i=>by simp[placed,ih]
theorem PT(l:List α):∀i j:Nat,(placed i l)[j]? =l[j]?.map fun c=>(i+j,c):=by
 induction l with
 |nil=>exact fun i j=>rfl
 |cons c r ih=>
  intro i j
  cases j with
  |zero=>rfl
  |succ j=>simp only[placed,qay,ih,show i+1+j=i+(j+1)by omega]
theorem Gj{l:List α}{i:Nat}{p:Nat × α}(h:p∈placed i l):i<=p.1/\p.1<i+l.length/\p.2∈l:=by
 obtain⟨j,hj⟩:=List.mem_iff_getElem?.1 h
 rw[PT,Option.map_eq_some_iff]at hj
 obtain⟨c,hc,rfl⟩:=hj
 have:=(qag.1 hc).1
 exact⟨by simp,by simp;omega,List.mem_of_getElem? hc⟩
theorem KE(l:List α):∀(i:Nat)(S:List α),i+l.length<=S.length->∀j c,l[j]? =some c->(puts S (placed i l))[i+j]? =some c:=by
 induction l with
 |nil=>intro i S _ j c h;simp at h
 |cons x r ih=>
  intro i S h j c hj
  simp only[qal]at h
  rw[placed,X8]
  cases j with
  |zero=>
   simp at hj
   subst hj
   rw[Xk fun p hp=>by have:=(Gj hp).1;omega]
   rw[Nat.add_zero,List.getElem?_set,if_pos rfl,if_pos (by omega)]
  |succ j=>
   rw[show i+(j+1)=i+1+j by omega]
   exact ih (i+1) _ (by simp;omega) j c (by simpa using hj)
end
section
variable {α:Type}
def Dk.writes:Dk α->List (Nat × α)->Int × Dk α
 |k,[]=>(if k.off then 6 else 0,k.flush)
 |k,p::r=>if k.off then(6,k.op)else(k.wrote p.1 p.2).writes r
end
def Dk.finish (k:Dk Sx)(start seq:Nat)(l:List (Nat × Sx)):Int × Dk Sx:=
 if (k.writes l).1=0 then(k.writes l).2.writes [(start,Uk seq 0)]else k.writes l
end Go.Proofs.YtmehhgfbnfbnaaaGreat

namespace Go.Proofs.YtmehhgfbnfbnaaaGreat
open Go.RowKit
attribute [local go_sem↓] Go.wp_at_zero Go.wp_at_succ
abbrev DK(n:Int):Prop:= -9223372036854775808<=n/\n<=9223372036854775807
abbrev JB(w:qao)(bj b start n seq:Nat):Prop:=Bk w bj 194 [.pointer b,start,n,.int .u64 seq]
def zO(n:Int):Int:=if n<1 then 0 else n+1+(n-1)/15
theorem zP(n:Int)(h:DK n)(hm:n<=1000000)(w:qao):
  Calls Tryz.prog 184 #[n] w fun e w'=>e=.returned (.int .i64 (zO n))/\w=w':=by
 unfold zO
 obtain⟨h1,h2⟩:=h
 by_cases hn:n<1
 ·rw[if_pos hn]
  go_enter Tryz.func184,Tryz.ntmps184
  go_wp2
  go_ret
  exact⟨rfl,rfl⟩
 ·rw[if_neg hn]
  go_enter Tryz.func184,Tryz.ntmps184
  go_wp2
  go_ret
  exact⟨rfl,rfl⟩
theorem xX(w:qao)(bj b start n seq:Nat)(hJ:JB w bj b start n seq)(hn:3<=n)(hn2:n<=4096):
  Calls Tryz.prog 71 #[.pointer bj] w fun e w'=>e=.returned (.int .i64 (room n:Int))/\w=w':=by
 have c2:=hJ.cell 2
 clear hJ
 go_enter Tryz.func71,Tryz.ntmps71
 go_wp2
 ·go_ret
  exact⟨by rw[show(room n:Int)=((n:Int)-1)/16*15 by unfold room;omega];rfl,rfl⟩
 ·go_ret
  exact⟨by rw[show(room n:Int)=((n:Int)-1)/16*15+(((n:Int)-1)%16-1)by unfold room;omega];rfl,rfl⟩
def Ux(m start n:Nat)(s:Int):Bool:=decide (0<=s)&&(decide (s<(m:Int))&&(decide (s<(start:Int))||decide (((start+n:Nat):Int)<=s)))
theorem Cc(w:qao)(S:Nat->Prop)(bj b start n seq:Nat)(k:Dk Sx)(hJ:JB w bj b start n seq)(hD:Zo sx w S b k)(hs:start<=4096)(hn:n<=4096)(s:Int):
  Calls Tryz.prog 212 #[.pointer bj,s] w fun e w'=>e=.returned (.bool (Ux k.safe.length start n s))/\Below w.heap.size w w':=by
 have c0:=hJ.cell 0
 have c1:=hJ.cell 1
 have c2:=hJ.cell 2
 have D:=χ hD
 have Hs:=χ hs
 have Hn:=χ hn
 have hsum:(start:Int)+(n:Int)=((start+n:Nat):Int):=by omega
 have hwr:IntKind.i64.wrap ((start+n:Nat):Int)=((start+n:Nat):Int):=by rw[IntKind.wrap_i64];omega
 unfold Ux
 obtain⟨z,hz⟩:∃z:Int,z=((start+n:Nat):Int):=⟨_,rfl⟩
 rw[<-hz]at hwr hsum⊢
 clear hJ hD hz hs hn
 generalize hm:k.safe.length=m
 have hm':=hm
 cases h1:decide (0<=s)
 ·skip
  go_enter Tryz.func212,Tryz.ntmps212
  go_wp2
  refine qan (S:=fun w'=>w'=w.drew) (by kernel_rfl) rfl (fun hHeld=>?_)
  refine tk 0 ?_ (y:=.inl ⟨by rfl,?hya0⟩) (s:=by assumption) (h:=?V4)
  case hya0=>(rintro _ rfl;go_simp<;>with_reducible rfl)
  try simp only[qad,qaa,qab,qac]
  refine tk 1 ?_ (y:=.inl ⟨by rfl,?hya1⟩) (s:=by assumption) (h:=?Wn)
  case hya1=>(rintro _ rfl;go_simp<;>with_reducible rfl)
  try simp only[qad,qaa,qab,qac]
  refine tk 2 ?_ (y:=.inl ⟨by rfl,?hya2⟩) (s:=by assumption) (h:=?Wm)
  case hya2=>(rintro _ rfl;go_simp<;>with_reducible rfl)
  try simp only[qad,qaa,qab,qac]
  refine tk 3 undef (y:=.inr ⟨by rfl,rfl⟩) (s:=by assumption) (h:=?_)
  try simp only[qad,qaa,qab,qac]
  refine tk 4 undef (y:=.inr ⟨by rfl,rfl⟩) (s:=by assumption) (h:=?_)
  try simp only[qad,qaa,qab,qac]
  refine tk 5 undef (y:=.inr ⟨by rfl,rfl⟩) (s:=by assumption) (h:=?_)
  try simp only[qad,qaa,qab,qac]
  refine tk 6 undef (y:=.inr ⟨by rfl,rfl⟩) (s:=by assumption) (h:=?_)
  try simp only[qad,qaa,qab,qac]
  refine tk 7 undef (y:=.inr ⟨by rfl,rfl⟩) (s:=by assumption) (h:=?_)
  try simp only[qad,qaa,qab,qac]
  refine tk 8 undef (y:=.inr ⟨by rfl,rfl⟩) (s:=by assumption) (h:=?_)
  try simp only[qad,qaa,qab,qac]
  refine tk 9 undef (y:=.inr ⟨by rfl,rfl⟩) (s:=by assumption) (h:=?_)
  try simp only[qad,qaa,qab,qac]
  refine tk 10 ?_ (y:=.inl ⟨by rfl,?hya10⟩) (s:=by assumption) (h:=?UG)
  case hya10=>(rintro _ rfl;go_simp<;>with_reducible rfl)
  try simp only[qad,qaa,qab,qac]
  refine tk 11 ?_ (y:=.inl ⟨by rfl,?hya11⟩) (s:=by assumption) (h:=?Rf)
  case hya11=>(rintro _ rfl;go_simp<;>with_reducible rfl)
  try simp only[qad,qaa,qab,qac]
  refine tk 12 undef (y:=.inr ⟨by rfl,rfl⟩) (s:=by assumption) (h:=?_)
  try simp only[qad,qaa,qab,qac]
  refine tk 13 undef (y:=.inr ⟨by rfl,rfl⟩) (s:=by assumption) (h:=?_)
  try simp only[qad,qaa,qab,qac]
  refine tk 14 undef (y:=.inr ⟨by rfl,rfl⟩) (s:=by assumption) (h:=?_)
  try simp only[qad,qaa,qab,qac]
  refine tk 15 undef (y:=.inr ⟨by rfl,rfl⟩) (s:=by assumption) (h:=?_)
  try simp only[qad,qaa,qab,qac]
  refine tk 16 undef (y:=.inr ⟨by rfl,rfl⟩) (s:=by assumption) (h:=?_)
  try simp only[qad,qaa,qab,qac]
  refine tk 17 undef (y:=.inr ⟨by rfl,rfl⟩) (s:=by assumption) (h:=?_)
  try simp only[qad,qaa,qab,qac]
  refine tk 18 undef (y:=.inr ⟨by rfl,rfl⟩) (s:=by assumption) (h:=?_)
  try simp only[qad,qaa,qab,qac]
  refine tk 19 undef (y:=.inr ⟨by rfl,rfl⟩) (s:=by assumption) (h:=?_)
  try simp only[qad,qaa,qab,qac]
  refine tk 20 undef (y:=.inr ⟨by rfl,rfl⟩) (s:=by assumption) (h:=?_)
  try simp only[qad,qaa,qab,qac]
  refine tk 21 undef (y:=.inr ⟨by rfl,rfl⟩) (s:=by assumption) (h:=?_)
  try simp only[qad,qaa,qab,qac]
  refine tk 22 undef (y:=.inr ⟨by rfl,rfl⟩) (s:=by assumption) (h:=?_)
  try simp only[qad,qaa,qab,qac]
  refine tk 23 undef (y:=.inr ⟨by rfl,rfl⟩) (s:=by assumption) (h:=?_)
  try simp only[qad,qaa,qab,qac]
  refine tk 24 undef (y:=.inr ⟨by rfl,rfl⟩) (s:=by assumption) (h:=?_)
  try simp only[qad,qaa,qab,qac]
  refine tk 25 undef (y:=.inr ⟨by rfl,rfl⟩) (s:=by assumption) (h:=?_)
  try simp only[qad,qaa,qab,qac]
  refine tk 26 undef (y:=.inr ⟨by rfl,rfl⟩) (s:=by assumption) (h:=?_)
  try simp only[qad,qaa,qab,qac]
  refine tk 27 undef (y:=.inr ⟨by rfl,rfl⟩) (s:=by assumption) (h:=?_)
  try simp only[qad,qaa,qab,qac]
  refine tk 28 undef (y:=.inr ⟨by rfl,rfl⟩) (s:=by assumption) (h:=?_)
  try simp only[qad,qaa,qab,qac]
  refine tk 29 undef (y:=.inr ⟨by rfl,rfl⟩) (s:=by assumption) (h:=?_)
  try simp only[qad,qaa,qab,qac]
  refine tk 30 undef (y:=.inr ⟨by rfl,rfl⟩) (s:=by assumption) (h:=?_)
  try simp only[qad,qaa,qab,qac]
  refine tk 31 ?_ (y:=.inl ⟨by rfl,?hya31⟩) (s:=by assumption) (h:=?aak)
  case hya31=>(rintro _ rfl;go_simp<;>with_reducible rfl)
  try simp only[qad,qaa,qab,qac]
  refine tk 32 ?_ (y:=.inl ⟨by rfl,?hya32⟩) (s:=by assumption) (h:=?aal)
  case hya32=>(rintro _ rfl;go_simp<;>with_reducible rfl)
  try simp only[qad,qaa,qab,qac]
  refine qav (by kernel_rfl) ?_ _
  go_wp2
  go_ret
  exact⟨rfl,(qap _ _).drew⟩
 ·cases h2:decide (s<(m:Int))
  ·skip
   go_enter Tryz.func212,Tryz.ntmps212
   go_wp2
   refine qan (S:=fun w'=>w'=w.drew) (by kernel_rfl) rfl (fun hHeld=>?_)
   refine tk 0 ?_ (y:=.inl ⟨by rfl,?hyb0⟩) (s:=by assumption) (h:=?AU)
   case hyb0=>(rintro _ rfl;go_simp<;>with_reducible rfl)
   try simp only[qad,qaa,qab,qac]
   refine tk 1 ?_ (y:=.inl ⟨by rfl,?hyb1⟩) (s:=by assumption) (h:=?AR)
   case hyb1=>(rintro _ rfl;go_simp<;>with_reducible rfl)
   try simp only[qad,qaa,qab,qac]
   refine tk 2 ?_ (y:=.inl ⟨by rfl,?hyb2⟩) (s:=by assumption) (h:=?AQ)
   case hyb2=>(rintro _ rfl;go_simp<;>with_reducible rfl)
   try simp only[qad,qaa,qab,qac]
   refine tk 3 ?_ (y:=.inl ⟨by rfl,?hyb3⟩) (s:=by assumption) (h:=?AP)
   case hyb3=>(rintro _ rfl;go_simp<;>with_reducible rfl)
   try simp only[qad,qaa,qab,qac]
   refine tk 4 ?_ (y:=.inl ⟨by rfl,?hyb4⟩) (s:=by assumption) (h:=?AO)
   case hyb4=>(rintro _ rfl;go_simp<;>with_reducible rfl)
   try simp only[qad,qaa,qab,qac]
   refine tk 5 ?_ (y:=.inl ⟨by rfl,?hyb5⟩) (s:=by assumption) (h:=?vM)
   case hyb5=>(rintro _ rfl;go_simp<;>with_reducible rfl)
   try simp only[qad,qaa,qab,qac]
   refine tk 6 ?_ (y:=.inl ⟨by rfl,?hyb6⟩) (s:=by assumption) (h:=?pY)
   case hyb6=>(rintro _ rfl;go_simp<;>with_reducible rfl)
   try simp only[qad,qaa,qab,qac]
   refine tk 7 ?_ (y:=.inl ⟨by rfl,?hyb7⟩) (s:=by assumption) (h:=?vS)
   case hyb7=>(rintro _ rfl;go_simp<;>with_reducible rfl)
   try simp only[qad,qaa,qab,qac]
   refine rd 8 (h:=fun K hK=>?_)
   go_simp
   refine(SB w.drew S b k (D.out.keep fun _ _=>rfl)).mono ?_
   rintro e w' ⟨rfl,rfl⟩
   go_wp2
   refine hK.out _ _ rfl (fun Z4=>?_)
   clear hK K hHeld
   try simp only[qad,qaa,qab,qac]
   refine tk 9 ?_ (y:=.inl ⟨by rfl,?hyb9⟩) (s:=by assumption) (h:=?vR)
   case hyb9=>(rintro _ rfl;go_simp<;>with_reducible rfl)
   try simp only[qad,qaa,qab,qac]
   refine tk 10 ?_ (y:=.inl ⟨by rfl,?hyb10⟩) (s:=by assumption) (h:=?FE)
   case hyb10=>(rintro _ rfl;go_simp<;>with_reducible rfl)
   try simp only[qad,qaa,qab,qac]
   refine tk 11 ?_ (y:=.inl ⟨by rfl,?hyb11⟩) (s:=by assumption) (h:=?FD)
   case hyb11=>(rintro _ rfl;go_simp<;>with_reducible rfl)
   try simp only[qad,qaa,qab,qac]
   refine tk 12 undef (y:=.inr ⟨by rfl,rfl⟩) (s:=by assumption) (h:=?_)
   try simp only[qad,qaa,qab,qac]
   refine tk 13 undef (y:=.inr ⟨by rfl,rfl⟩) (s:=by assumption) (h:=?_)
   try simp only[qad,qaa,qab,qac]
   refine tk 14 undef (y:=.inr ⟨by rfl,rfl⟩) (s:=by assumption) (h:=?_)
   try simp only[qad,qaa,qab,qac]
   refine tk 15 undef (y:=.inr ⟨by rfl,rfl⟩) (s:=by assumption) (h:=?_)
   try simp only[qad,qaa,qab,qac]
   refine tk 16 undef (y:=.inr ⟨by rfl,rfl⟩) (s:=by assumption) (h:=?_)
   try simp only[qad,qaa,qab,qac]
   refine tk 17 undef (y:=.inr ⟨by rfl,rfl⟩) (s:=by assumption) (h:=?_)
   try simp only[qad,qaa,qab,qac]
   refine tk 18 undef (y:=.inr ⟨by rfl,rfl⟩) (s:=by assumption) (h:=?_)
   try simp only[qad,qaa,qab,qac]
   refine tk 19 undef (y:=.inr ⟨by rfl,rfl⟩) (s:=by assumption) (h:=?_)
   try simp only[qad,qaa,qab,qac]
   refine tk 20 undef (y:=.inr ⟨by rfl,rfl⟩) (s:=by assumption) (h:=?_)
   try simp only[qad,qaa,qab,qac]
   refine tk 21 undef (y:=.inr ⟨by rfl,rfl⟩) (s:=by assumption) (h:=?_)
   try simp only[qad,qaa,qab,qac]
   refine tk 22 undef (y:=.inr ⟨by rfl,rfl⟩) (s:=by assumption) (h:=?_)
   try simp only[qad,qaa,qab,qac]
   refine tk 23 undef (y:=.inr ⟨by rfl,rfl⟩) (s:=by assumption) (h:=?_)
   try simp only[qad,qaa,qab,qac]
   refine tk 24 undef (y:=.inr ⟨by rfl,rfl⟩) (s:=by assumption) (h:=?_)
   try simp only[qad,qaa,qab,qac]
   refine tk 25 undef (y:=.inr ⟨by rfl,rfl⟩) (s:=by assumption) (h:=?_)
   try simp only[qad,qaa,qab,qac]
   refine tk 26 undef (y:=.inr ⟨by rfl,rfl⟩) (s:=by assumption) (h:=?_)
   try simp only[qad,qaa,qab,qac]
   refine tk 27 undef (y:=.inr ⟨by rfl,rfl⟩) (s:=by assumption) (h:=?_)
   try simp only[qad,qaa,qab,qac]
   refine tk 28 undef (y:=.inr ⟨by rfl,rfl⟩) (s:=by assumption) (h:=?_)
   try simp only[qad,qaa,qab,qac]
   refine tk 29 undef (y:=.inr ⟨by rfl,rfl⟩) (s:=by assumption) (h:=?_)
   try simp only[qad,qaa,qab,qac]
   refine tk 30 undef (y:=.inr ⟨by rfl,rfl⟩) (s:=by assumption) (h:=?_)
   try simp only[qad,qaa,qab,qac]
   refine tk 31 ?_ (y:=.inl ⟨by rfl,?hyb31⟩) (s:=by assumption) (h:=?aam)
   case hyb31=>(rintro _ rfl;go_simp<;>with_reducible rfl)
   try simp only[qad,qaa,qab,qac]
   refine tk 32 ?_ (y:=.inl ⟨by rfl,?hyb32⟩) (s:=by assumption) (h:=?aan)
   case hyb32=>(rintro _ rfl;go_simp<;>with_reducible rfl)
   try simp only[qad,qaa,qab,qac]
   refine qav (by kernel_rfl) ?_ _
   go_wp2
   go_ret
   exact⟨rfl,(qap _ _).drew⟩
  ·cases h3:decide (s<(start:Int))
   ·skip
    go_enter Tryz.func212,Tryz.ntmps212
    go_wp2
    refine qan (S:=fun w'=>w'=w.drew) (by kernel_rfl) rfl (fun hHeld=>?_)
    refine tk 0 ?_ (y:=.inl ⟨by rfl,?hyc0⟩) (s:=by assumption) (h:=?bQ)
    case hyc0=>(rintro _ rfl;go_simp<;>with_reducible rfl)
    try simp only[qad,qaa,qab,qac]
    refine tk 1 ?_ (y:=.inl ⟨by rfl,?hyc1⟩) (s:=by assumption) (h:=?bO)
    case hyc1=>(rintro _ rfl;go_simp<;>with_reducible rfl)
    try simp only[qad,qaa,qab,qac]
    refine tk 2 ?_ (y:=.inl ⟨by rfl,?hyc2⟩) (s:=by assumption) (h:=?bM)
    case hyc2=>(rintro _ rfl;go_simp<;>with_reducible rfl)
    try simp only[qad,qaa,qab,qac]
    refine tk 3 ?_ (y:=.inl ⟨by rfl,?hyc3⟩) (s:=by assumption) (h:=?bK)
    case hyc3=>(rintro _ rfl;go_simp<;>with_reducible rfl)
    try simp only[qad,qaa,qab,qac]
    refine tk 4 ?_ (y:=.inl ⟨by rfl,?hyc4⟩) (s:=by assumption) (h:=?abq)
    case hyc4=>(rintro _ rfl;go_simp<;>with_reducible rfl)
    try simp only[qad,qaa,qab,qac]
    refine tk 5 ?_ (y:=.inl ⟨by rfl,?hyc5⟩) (s:=by assumption) (h:=?bH)
    case hyc5=>(rintro _ rfl;go_simp<;>with_reducible rfl)
    try simp only[qad,qaa,qab,qac]
    refine tk 6 ?_ (y:=.inl ⟨by rfl,?hyc6⟩) (s:=by assumption) (h:=?bF)
    case hyc6=>(rintro _ rfl;go_simp<;>with_reducible rfl)
    try simp only[qad,qaa,qab,qac]
    refine tk 7 ?_ (y:=.inl ⟨by rfl,?hyc7⟩) (s:=by assumption) (h:=?abr)
    case hyc7=>(rintro _ rfl;go_simp<;>with_reducible rfl)
    try simp only[qad,qaa,qab,qac]
    refine rd 8 (h:=fun K hK=>?_)
    go_simp
    refine(SB w.drew S b k (D.out.keep fun _ _=>rfl)).mono ?_
    rintro e w' ⟨rfl,rfl⟩
    go_wp2
    refine hK.out _ _ rfl (fun Z4=>?_)
    clear hK K hHeld
    try simp only[qad,qaa,qab,qac]
    refine tk 9 ?_ (y:=.inl ⟨by rfl,?hyc9⟩) (s:=by assumption) (h:=?abt)
    case hyc9=>(rintro _ rfl;go_simp<;>with_reducible rfl)
    try simp only[qad,qaa,qab,qac]
    refine tk 10 ?_ (y:=.inl ⟨by rfl,?hyc10⟩) (s:=by assumption) (h:=?aao)
    case hyc10=>(rintro _ rfl;go_simp<;>with_reducible rfl)
    try simp only[qad,qaa,qab,qac]
    refine tk 11 ?_ (y:=.inl ⟨by rfl,?hyc11⟩) (s:=by assumption) (h:=?aap)
    case hyc11=>(rintro _ rfl;go_simp<;>with_reducible rfl)
    try simp only[qad,qaa,qab,qac]
    refine tk 12 ?_ (y:=.inl ⟨by rfl,?hyc12⟩) (s:=by assumption) (h:=?aaq)
    case hyc12=>(rintro _ rfl;go_simp<;>with_reducible rfl)
    try simp only[qad,qaa,qab,qac]
    refine tk 13 ?_ (y:=.inl ⟨by rfl,?hyc13⟩) (s:=by assumption) (h:=?aar)
    case hyc13=>(rintro _ rfl;go_simp<;>with_reducible rfl)
    try simp only[qad,qaa,qab,qac]
    refine tk 14 ?_ (y:=.inl ⟨by rfl,?hyc14⟩) (s:=by assumption) (h:=?aas)
    case hyc14=>(rintro _ rfl;go_simp<;>with_reducible rfl)
    try simp only[qad,qaa,qab,qac]
    refine tk 15 ?_ (y:=.inl ⟨by rfl,?hyc15⟩) (s:=by assumption) (h:=?aat)
    case hyc15=>(rintro _ rfl;go_simp<;>with_reducible rfl)
    try simp only[qad,qaa,qab,qac]
    refine tk 16 ?_ (y:=.inl ⟨by rfl,?hyc16⟩) (s:=by assumption) (h:=?aau)
    case hyc16=>(rintro _ rfl;go_simp<;>with_reducible rfl)
    try simp only[qad,qaa,qab,qac]
    refine tk 17 ?_ (y:=.inl ⟨by rfl,?hyc17⟩) (s:=by assumption) (h:=?aav)
    case hyc17=>(rintro _ rfl;go_simp<;>with_reducible rfl)
    try simp only[qad,qaa,qab,qac]
    refine tk 18 ?_ (y:=.inl ⟨by rfl,?hyc18⟩) (s:=by assumption) (h:=?aaw)
    case hyc18=>(rintro _ rfl;go_simp<;>with_reducible rfl)
    try simp only[qad,qaa,qab,qac]
    refine tk 19 ?_ (y:=.inl ⟨by rfl,?hyc19⟩) (s:=by assumption) (h:=?aax)
    case hyc19=>(rintro _ rfl;go_simp<;>with_reducible rfl)
    try simp only[qad,qaa,qab,qac]
    refine tk 20 ?_ (y:=.inl ⟨by rfl,?hyc20⟩) (s:=by assumption) (h:=?aay)
    case hyc20=>(rintro _ rfl;go_simp<;>with_reducible rfl)
    try simp only[qad,qaa,qab,qac]
    refine tk 21 ?_ (y:=.inl ⟨by rfl,?hyc21⟩) (s:=by assumption) (h:=?aaz)
    case hyc21=>(rintro _ rfl;go_simp<;>with_reducible rfl)
    try simp only[qad,qaa,qab,qac]
    refine tk 22 ?_ (y:=.inl ⟨by rfl,?hyc22⟩) (s:=by assumption) (h:=?aaA)
    case hyc22=>(rintro _ rfl;go_simp<;>with_reducible rfl)
    try simp only[qad,qaa,qab,qac]
    refine tk 23 ?_ (y:=.inl ⟨by rfl,?hyc23⟩) (s:=by assumption) (h:=?aaB)
    case hyc23=>(rintro _ rfl;go_simp<;>with_reducible rfl)
    try simp only[qad,qaa,qab,qac]
    refine tk 24 ?_ (y:=.inl ⟨by rfl,?hyc24⟩) (s:=by assumption) (h:=?aaC)
    case hyc24=>(rintro _ rfl;go_simp<;>with_reducible rfl)
    try simp only[qad,qaa,qab,qac]
    refine tk 25 ?_ (y:=.inl ⟨by rfl,?hyc25⟩) (s:=by assumption) (h:=?aaD)
    case hyc25=>(rintro _ rfl;go_simp<;>with_reducible rfl)
    try simp only[qad,qaa,qab,qac]
    refine tk 26 ?_ (y:=.inl ⟨by rfl,?hyc26⟩) (s:=by assumption) (h:=?aaE)
    case hyc26=>(rintro _ rfl;go_simp<;>with_reducible rfl)
    try simp only[qad,qaa,qab,qac]
    refine tk 27 ?_ (y:=.inl ⟨by rfl,?hyc27⟩) (s:=by assumption) (h:=?aaF)
    case hyc27=>(rintro _ rfl;go_simp<;>with_reducible rfl)
    try simp only[qad,qaa,qab,qac]
    refine tk 28 ?_ (y:=.inl ⟨by rfl,?hyc28⟩) (s:=by assumption) (h:=?aaG)
    case hyc28=>(rintro _ rfl;go_simp<;>with_reducible rfl)
    try simp only[qad,qaa,qab,qac]
    refine tk 29 ?_ (y:=.inl ⟨by rfl,?hyc29⟩) (s:=by assumption) (h:=?aaH)
    case hyc29=>(rintro _ rfl;go_simp<;>with_reducible rfl)
    try simp only[qad,qaa,qab,qac]
    refine tk 30 ?_ (y:=.inl ⟨by rfl,?hyc30⟩) (s:=by assumption) (h:=?aaI)
    case hyc30=>(rintro _ rfl;go_simp<;>with_reducible rfl)
    try simp only[qad,qaa,qab,qac]
    refine tk 31 ?_ (y:=.inl ⟨by rfl,?hyc31⟩) (s:=by assumption) (h:=?aaJ)
    case hyc31=>(rintro _ rfl;go_simp<;>with_reducible rfl)
    try simp only[qad,qaa,qab,qac]
    refine tk 32 ?_ (y:=.inl ⟨by rfl,?hyc32⟩) (s:=by assumption) (h:=?aaK)
    case hyc32=>(rintro _ rfl;go_simp<;>with_reducible rfl)
    try simp only[qad,qaa,qab,qac]
    refine qav (by kernel_rfl) ?_ _
    go_wp2
    go_ret
    exact⟨rfl,(qap _ _).drew⟩
   ·skip
    go_enter Tryz.func212,Tryz.ntmps212
    go_wp2
    refine qan (S:=fun w'=>w'=w.drew) (by kernel_rfl) rfl (fun hHeld=>?_)
    refine tk 0 ?_ (y:=.inl ⟨by rfl,?hyd0⟩) (s:=by assumption) (h:=?abu)
    case hyd0=>(rintro _ rfl;go_simp<;>with_reducible rfl)
    try simp only[qad,qaa,qab,qac]
    refine tk 1 ?_ (y:=.inl ⟨by rfl,?hyd1⟩) (s:=by assumption) (h:=?abv)
    case hyd1=>(rintro _ rfl;go_simp<;>with_reducible rfl)
    try simp only[qad,qaa,qab,qac]
    refine tk 2 ?_ (y:=.inl ⟨by rfl,?hyd2⟩) (s:=by assumption) (h:=?abw)
    case hyd2=>(rintro _ rfl;go_simp<;>with_reducible rfl)
    try simp only[qad,qaa,qab,qac]
    refine tk 3 ?_ (y:=.inl ⟨by rfl,?hyd3⟩) (s:=by assumption) (h:=?abx)
    case hyd3=>(rintro _ rfl;go_simp<;>with_reducible rfl)
    try simp only[qad,qaa,qab,qac]
    refine tk 4 ?_ (y:=.inl ⟨by rfl,?hyd4⟩) (s:=by assumption) (h:=?aby)
    case hyd4=>(rintro _ rfl;go_simp<;>with_reducible rfl)
    try simp only[qad,qaa,qab,qac]
    refine tk 5 ?_ (y:=.inl ⟨by rfl,?hyd5⟩) (s:=by assumption) (h:=?abz)
    case hyd5=>(rintro _ rfl;go_simp<;>with_reducible rfl)
    try simp only[qad,qaa,qab,qac]
    refine tk 6 ?_ (y:=.inl ⟨by rfl,?hyd6⟩) (s:=by assumption) (h:=?abA)
    case hyd6=>(rintro _ rfl;go_simp<;>with_reducible rfl)
    try simp only[qad,qaa,qab,qac]
    refine tk 7 ?_ (y:=.inl ⟨by rfl,?hyd7⟩) (s:=by assumption) (h:=?abB)
    case hyd7=>(rintro _ rfl;go_simp<;>with_reducible rfl)
    try simp only[qad,qaa,qab,qac]
    refine rd 8 (h:=fun K hK=>?_)
    go_simp
    refine(SB w.drew S b k (D.out.keep fun _ _=>rfl)).mono ?_
    rintro e w' ⟨rfl,rfl⟩
    go_wp2
    refine hK.out _ _ rfl (fun Z4=>?_)
    clear hK K hHeld
    try simp only[qad,qaa,qab,qac]
    refine tk 9 ?_ (y:=.inl ⟨by rfl,?hyd9⟩) (s:=by assumption) (h:=?abC)
    case hyd9=>(rintro _ rfl;go_simp<;>with_reducible rfl)
    try simp only[qad,qaa,qab,qac]
    refine tk 10 ?_ (y:=.inl ⟨by rfl,?hyd10⟩) (s:=by assumption) (h:=?aaL)
    case hyd10=>(rintro _ rfl;go_simp<;>with_reducible rfl)
    try simp only[qad,qaa,qab,qac]
    refine tk 11 ?_ (y:=.inl ⟨by rfl,?hyd11⟩) (s:=by assumption) (h:=?jw)
    case hyd11=>(rintro _ rfl;go_simp<;>with_reducible rfl)
    try simp only[qad,qaa,qab,qac]
    refine tk 12 ?_ (y:=.inl ⟨by rfl,?hyd12⟩) (s:=by assumption) (h:=?jv)
    case hyd12=>(rintro _ rfl;go_simp<;>with_reducible rfl)
    try simp only[qad,qaa,qab,qac]
    refine tk 13 ?_ (y:=.inl ⟨by rfl,?hyd13⟩) (s:=by assumption) (h:=?aaM)
    case hyd13=>(rintro _ rfl;go_simp<;>with_reducible rfl)
    try simp only[qad,qaa,qab,qac]
    refine tk 14 ?_ (y:=.inl ⟨by rfl,?hyd14⟩) (s:=by assumption) (h:=?aaN)
    case hyd14=>(rintro _ rfl;go_simp<;>with_reducible rfl)
    try simp only[qad,qaa,qab,qac]
    refine tk 15 ?_ (y:=.inl ⟨by rfl,?hyd15⟩) (s:=by assumption) (h:=?aaO)
    case hyd15=>(rintro _ rfl;go_simp<;>with_reducible rfl)
    try simp only[qad,qaa,qab,qac]
    refine tk 16 ?_ (y:=.inl ⟨by rfl,?hyd16⟩) (s:=by assumption) (h:=?aaP)
    case hyd16=>(rintro _ rfl;go_simp<;>with_reducible rfl)
    try simp only[qad,qaa,qab,qac]
    refine tk 17 ?_ (y:=.inl ⟨by rfl,?hyd17⟩) (s:=by assumption) (h:=?aaQ)
    case hyd17=>(rintro _ rfl;go_simp<;>with_reducible rfl)
    try simp only[qad,qaa,qab,qac]
    refine tk 18 ?_ (y:=.inl ⟨by rfl,?hyd18⟩) (s:=by assumption) (h:=?aaR)
    case hyd18=>(rintro _ rfl;go_simp<;>with_reducible rfl)
    try simp only[qad,qaa,qab,qac]
    refine tk 19 undef (y:=.inr ⟨by rfl,rfl⟩) (s:=by assumption) (h:=?_)
    try simp only[qad,qaa,qab,qac]
    refine tk 20 undef (y:=.inr ⟨by rfl,rfl⟩) (s:=by assumption) (h:=?_)
    try simp only[qad,qaa,qab,qac]
    refine tk 21 undef (y:=.inr ⟨by rfl,rfl⟩) (s:=by assumption) (h:=?_)
    try simp only[qad,qaa,qab,qac]
    refine tk 22 undef (y:=.inr ⟨by rfl,rfl⟩) (s:=by assumption) (h:=?_)
    try simp only[qad,qaa,qab,qac]
    refine tk 23 undef (y:=.inr ⟨by rfl,rfl⟩) (s:=by assumption) (h:=?_)
    try simp only[qad,qaa,qab,qac]
    refine tk 24 undef (y:=.inr ⟨by rfl,rfl⟩) (s:=by assumption) (h:=?_)
    try simp only[qad,qaa,qab,qac]
    refine tk 25 undef (y:=.inr ⟨by rfl,rfl⟩) (s:=by assumption) (h:=?_)
    try simp only[qad,qaa,qab,qac]
    refine tk 26 undef (y:=.inr ⟨by rfl,rfl⟩) (s:=by assumption) (h:=?_)
    try simp only[qad,qaa,qab,qac]
    refine tk 27 undef (y:=.inr ⟨by rfl,rfl⟩) (s:=by assumption) (h:=?_)
    try simp only[qad,qaa,qab,qac]
    refine tk 28 undef (y:=.inr ⟨by rfl,rfl⟩) (s:=by assumption) (h:=?_)
    try simp only[qad,qaa,qab,qac]
    refine tk 29 undef (y:=.inr ⟨by rfl,rfl⟩) (s:=by assumption) (h:=?_)
    try simp only[qad,qaa,qab,qac]
    refine tk 30 ?_ (y:=.inl ⟨by rfl,?hyd30⟩) (s:=by assumption) (h:=?aaS)
    case hyd30=>(rintro _ rfl;go_simp<;>with_reducible rfl)
    try simp only[qad,qaa,qab,qac]
    refine tk 31 ?_ (y:=.inl ⟨by rfl,?hyd31⟩) (s:=by assumption) (h:=?aaT)
    case hyd31=>(rintro _ rfl;go_simp<;>with_reducible rfl)
    try simp only[qad,qaa,qab,qac]
    refine tk 32 ?_ (y:=.inl ⟨by rfl,?hyd32⟩) (s:=by assumption) (h:=?aaU)
    case hyd32=>(rintro _ rfl;go_simp<;>with_reducible rfl)
    try simp only[qad,qaa,qab,qac]
    refine qav (by kernel_rfl) ?_ _
    go_wp2
    go_ret
    exact⟨rfl,(qap _ _).drew⟩
end Go.Proofs.YtmehhgfbnfbnaaaGreat

namespace Go.Proofs.YtmehhgfbnfbnaaaGreat
open Go.RowKit
attribute [local go_sem↓] Go.wp_at_zero Go.wp_at_succ
section
variable {w:qao}{T:Nat->Prop}{A:Option Addr}{L:List (Int × Sx)}
theorem XJ(l m:List UInt8)(A A':Option Addr)(n c n' c' B B':Nat)(w:qao)(hn:l.length=n)(hn':m.length=n')(hr:Rd w B A (Z7 l))(hr':Rd w B' A' (Z7 m)):
  Calls Tryz.prog 145 #[.slice A n c,.slice A' n' c'] w fun e w'=>e=.returned (.bool (l==m))/\w=w':=by
 have h1:=WK (c:=c) hn hr
 have h2:=WK (c:=c') hn' hr'
 clear hr hr' hn hn'
 go_enter Tryz.func145,Tryz.ntmps145
 go_wp2
 go_ret
 exact⟨rfl,rfl⟩
theorem O4(seq n:Nat)(hs:seq<18446744073709551616)(hn:n<65536)(w:qao):
  Calls Tryz.prog 216 #[.int .u64 seq,n] w fun e w'=>∃v,e=.returned v/\Made w (Vn seq n) v w':=by
 obtain⟨C,hC⟩:∃C,C=(Z7 (qaf 60 0)).toArray:=⟨_,rfl⟩
 have hmk:∀u:qao,(Instr.makeSlice 37 (.int .i64 60) (.int .i64 60)).run Tryz.prog u=.ok (.slice u.heap.size 60 60) (u.alloc (.cells C 5)):=fun u=>by
  rw[hC];exact YG 60 (by omega) u
 have hcv:IntKind.u64.wrap (n:Int)=(n:Int):=by rw[IntKind.wrap_u64];omega
 have HC:=χ hC
 have Hs:=χ hs
 have Hn:=χ hn
 clear hs hn hC
 have hB0:Rd (w.alloc (.cells C 5)) (w.alloc (.cells C 5)).heap.size (some ⟨w.heap.size,0,none⟩) (Z7 (qaf 60 0)):=by
  have h:=(Bk.new w 5 (Z7 (qaf 60 0))).rd 60 0
  rw[<-HC.out,qax,qak (by simp[Z5])]at h
  exact h
 have b0:Below w.heap.size w (w.alloc (.cells C 5)):=(qap _ _).alloc (qaq _) _
 have HB0:=χ hB0
 have Hb0:=χ b0
 clear hB0 b0
 go_enter Tryz.func216,Tryz.ntmps216
 go_wp2_with fail
 refine(MJ (qaf 60 0) (some ⟨w.heap.size,0,none⟩) 60 60 0 8 seq _ (by simp) HB0.out (by omega) (by omega) (by omega) (by omega) Hs.out (by have:=Hs.out;simp[Us];omega)).mono ?_
 rintro e w1 ⟨v1,rfl,hM1⟩
 have gJ:=χ hM1
 obtain⟨nV,jC⟩:=hM1
 have nU:(put (qaf 60 (0:UInt8)) 0 (YK seq 8)).length=60:=by rw[U8 _ _ _ (by simp[Zw])];simp
 rw[nU]at nV
 obtain⟨hl1,A1,c1,rfl,hc1,bU,hr1⟩:=YC nV
 have Hr1:=χ hr1
 have Hb1:=χ (Hb0.out.trans (jC.mono (by simp)))
 have bT:=χ nU
 clear nV jC hl1 bU hr1 nU gJ
 go_wp2_with fail
 refine(MJ (put (qaf 60 0) 0 (YK seq 8)) A1 60 c1 8 2 n _ bT.out Hr1.out (by omega) (by omega) (by omega) (by omega) (by have:=Hn.out;omega) (by have:=Hn.out;simp[Us];omega)).mono ?_
 rintro e w2 ⟨v2,rfl,hM2⟩
 obtain⟨nT,jB⟩:=hM2
 have nS:(put (put (qaf 60 (0:UInt8)) 0 (YK seq 8)) 8 (YK n 2)).length=60:=by rw[U8 _ _ _ (by rw[bT.out,Zw];omega),bT.out]
 rw[nS]at nT
 obtain⟨hl2,A2,c2,rfl,hc2,bR,hr2⟩:=YC nT
 have dx:=χ hr2
 have Hb2:=χ (Hb1.out.trans (jB.mono Hb1.out.size))
 have Hl2:=χ nS
 clear nT jB hl2 bR hr2 nS
 go_wp2_with fail
 refine(Kq _ A2 60 c2 _ Hl2.out dx.out hc2 (by omega)).mono ?_
 rintro e w3 ⟨v3,rfl,hM3⟩
 obtain⟨jA,jy⟩:=hM3
 have H3:Hid (Made w (Vn seq n) v3 w3):=⟨ZI jA Hb2.out.size,Hb2.out.trans (jy.mono Hb2.out.size)⟩
 clear jA jy
 go_wp2_with fail
 go_ret
 exact⟨_,rfl,H3.out⟩
def Sa(w:qao)(T:Nat->Prop)(A:Option Addr)(L:List (Int × Sx)):Prop:=
 ∀i p,L[i]? =some p->∃b o ba oa cp,A=some ⟨b,o,none⟩/\T b/\T ba/\b<w.heap.size/\ba<w.heap.size/\64<=cp/\w.cell? ⟨b,o+i*3,none⟩=some (.int .i64 p.1)/\
  w.cell? ⟨b,o+i*3+1,none⟩=some (.slice (some ⟨ba,oa,none⟩) 64 cp)/\w.cell? ⟨b,o+i*3+2,none⟩=some (.int .u16 p.2.t)/\w.rangeAt ba oa (Z7 p.2.b)
theorem Sa.keep {w':qao}(h:Sa w T A L)(hs:w.heap.size<=w'.heap.size)(hk:∀i,T i->i<w.heap.size->w'.heap[i]? =w.heap[i]?):Sa w' T A L:=fun i p hp=>by
 obtain⟨b,o,ba,oa,cp,h1,h2,h3,h4,h5,h6,h7,h8,h9,h10⟩:=h i p hp
 have hb:=hk b h2 h4
 exact⟨b,o,ba,oa,cp,h1,h2,h3,by omega,by omega,h6,(qae (a:=⟨b,_,none⟩) hb).trans h7,(qae (a:=⟨b,_,none⟩) hb).trans h8,(qae (a:=⟨b,_,none⟩) hb).trans h9,ZL h10 (hk ba h3 h5)⟩
theorem Sa.more {T':Nat->Prop}(h:Sa w T A L)(hT:∀i,i<w.heap.size->T i->T' i):Sa w T' A L:=fun i p hp=>by
 obtain⟨b,o,ba,oa,cp,h1,h2,h3,h4,h5,h6⟩:=h i p hp
 exact⟨b,o,ba,oa,cp,h1,hT b h4 h2,hT ba h5 h3,h4,h5,h6⟩
def ints(g:List (Nat × Sx)):List (Int × Sx):=g.map fun p=>((p.1:Int),p.2)
theorem xU{g:List (Nat × Sx)}{i:Nat}{p:Nat × Sx}(h:g[i]? =some p):(ints g)[i]? =some ((p.1:Int),p.2):=by rw[ints,List.getElem?_map,h];rfl
end
end Go.Proofs.YtmehhgfbnfbnaaaGreat

namespace Go.Proofs.YtmehhgfbnfbnaaaGreat
open Go.RowKit
attribute [local go_sem↓] Go.wp_at_zero Go.wp_at_succ
theorem O3{w w':qao}{l:List UInt8}{v:Value}{n:Nat}(h:Made w l v w')(hl:l.length=n)(h0:0<n):∃g c,v=.slice (some ⟨g,0,none⟩) n c/\n<=c/\w.heap.size<=g/\g<w'.heap.size/\w'.rangeAt g 0 (Z7 l):=by
 subst hl
 obtain⟨_,hn⟩:=h.1
 rcases hn with⟨_,h1⟩|⟨g,c,cur,rfl,h1,h2,h3,h4,h5,h6⟩
 ·omega
 ·have hlt:g<w'.heap.size:=(Array.getElem?_eq_some_iff.1 h2).1
  refine⟨g,c,rfl,h3,h1,hlt,fun j u hu=>?_⟩
  have hj:=(qag.1 hu).1
  rw[Z5]at hj
  rw[cell_of_row _ g _ cur _ (0,0) h2,Nat.zero_add,<-hu,<-h6,List.getElem?_take,if_pos (by omega)]
  simp
theorem xR(w1:qao)(T:Nat->Prop)(g1 cc:Nat)(at_:Int)(c:Sx)(hT:T w1.heap.size)(hg:T g1)(hlt:g1<w1.heap.size)(hcc:64<=cc)(hr:w1.rangeAt g1 0 (Z7 c.b)):
  Sa (w1.alloc (.cells #[at_,.slice g1 64 cc,.int .u16 c.t] 140)) T (some ⟨w1.heap.size,0,none⟩) [(at_,c)]:=fun i p hp=>by
 cases i with
 |succ i=>simp at hp
 |zero=>
  obtain rfl:(at_,c)=p:=by simpa using hp
  have hB:=Bk.new w1 140 [at_,.slice g1 64 cc,.int .u16 c.t]
  exact⟨w1.heap.size,0,g1,0,cc,rfl,hT,hg,by simp,by simp;omega,hcc,hB.cell 0,hB.cell 1,hB.cell 2,qao.rangeAt_alloc hr _⟩
theorem xS(w:qao)(bj b start n sq seq cnt:Nat)(hJ:JB w bj b start n sq)(hs:seq<18446744073709551616)(hn:cnt<65536):
  Calls Tryz.prog 142 #[.pointer bj,.int .u64 seq,cnt] w fun e w'=>∃g,e=.returned (.slice (some ⟨g,0,none⟩) 1 1)/\Sa w' (fun i=>w.heap.size<=i) (some ⟨g,0,none⟩) [((start:Int),Uk seq cnt)]/\Below w.heap.size w w':=by
 have c1:=hJ.cell 1
 have hlt:=hJ.lt
 have Hs:=χ hs
 have Hn:=χ hn
 have I4:=χ hlt
 clear hJ hs hn hlt
 go_enter Tryz.func142,Tryz.ntmps142
 go_wp2
 go_region_with (first|(go_at_call 216;(refine(O4 seq cnt Hs.out Hn.out _).mono ?_);rintro e w1 ⟨v1,rfl,hM1⟩;have hb1:=χ hM1.2;obtain⟨g1,cc,rfl,hcc,hg1,hg1',hr1⟩:=O3 hM1 (Ws _ _) (by omega);have HR:=χ hr1;have c1':=(hM1.2.cell (p:=⟨bj,1,none⟩) I4.out).trans (by assumption);clear hM1))
 all_goals(clear c1;clear hr1;go_wp2)
 all_goals go_ret
 all_goals refine⟨w1.heap.size,rfl,xR w1 _ g1 cc _ (Uk seq cnt) (qar hb1.out.size (qaq _)) hg1 hg1' hcc HR.out,?_⟩
 all_goals exact((qap _ w).drew.trans hb1.out).alloc hb1.out.size _
end Go.Proofs.YtmehhgfbnfbnaaaGreat

namespace Go.Proofs.YtmehhgfbnfbnaaaGreat
open Go.RowKit
attribute [local go_sem↓] Go.wp_at_zero Go.wp_at_succ
section
variable {α:Type}
theorem Dk.Wi (k:Dk α)(s:Nat)(c:α):(k.wrote s c).safe=k.safe:=by simp only[Dk.wrote,Dk.UZ]
theorem Dk.Uy (k:Dk α)(s:Nat)(c:α):(k.wrote s c).un=k.un++[(s,c)]:=rfl
theorem Dk.BZ (k:Dk α):k.flush.safe.length=k.safe.length:=by
 unfold Dk.flush
 split
 ·rw[Dk.UZ]
 ·exact XV _ _
theorem Dk.xV (k:Dk α):k.flush.un.length<=k.un.length:=by
 unfold Dk.flush
 split
 ·rw[Dk.QV];exact qaq _
 ·exact Nat.zero_le _
theorem Dk.Gl (l:List (Nat × α)):∀k:Dk α,(k.writes l).2.safe.length=k.safe.length:=by
 induction l with
 |nil=>exact fun k=>Dk.BZ k
 |cons p r ih=>
  intro k
  unfold Dk.writes
  split
  ·simp only[Dk.UZ]
  ·rw[ih,Dk.Wi]
theorem Dk.BX (l:List (Nat × α)):∀k:Dk α,(k.writes l).2.un.length<=k.un.length+l.length:=by
 induction l with
 |nil=>exact fun k=>Dk.xV k
 |cons p r ih=>
  intro k
  unfold Dk.writes
  split
  ·simp only[Dk.QV];omega
  ·refine qar (ih _) ?_
   rw[Dk.Uy,qaj,qaA,qal]
   omega
theorem Turned.trans {f:α->List Value}{S S1:Nat->Prop}{w w1 w2:qao}{b:Nat}{k:Dk α}(hK:Kept S w w1)(hS:∀t,S1 t->S t\/w.heap.size<=t)(hT:Turned f S1 w1 w2 b k):Turned f S w w2 b k:=by
 obtain⟨hK2,S2,hD2,hS2⟩:=hT
 exact⟨hK.trans hK2 hS,S2,hD2,fun t ht=>(hS2 t ht).elim (hS t) fun h=>.inr (qar hK.size h)⟩
end
section
variable {w:qao}{S T:Nat->Prop}{bj b start n seq:Nat}{k:Dk Sx}{A:Option Addr}{g:List (Nat × Sx)}
theorem O1(hJ:JB w bj b start n seq)(hD:Zo sx w S b k)(hb:¬ S bj)(hL:Sa w T A (ints g))(hT:∀t,T t->¬ S t)(m c:Nat)(hm:g.length=m)(hin:∀p∈g,p.1<k.safe.length)(hun:k.un.length+m<=1000000):
  Calls Tryz.prog 140 #[.pointer bj,.slice A m c] w fun e w'=>e=.returned (.int .i64 (k.writes g).1)/\Turned sx S w w' b (k.writes g).2:=by
 have HJ:=χ hJ
 have HD:=χ hD
 have Hb:=χ hb
 have HL:=χ hL
 have HT:=χ hT
 have Hm:=χ hm
 have uk:=χ hin
 have wF:=χ hun
 have I4:=χ hJ.lt
 have hmm:m<=1000000:=by omega
 clear hJ hD hb hL hT hm hin hun
 go_enter Tryz.func140,Tryz.ntmps140
 go_wp2
 go_loopw [6,7,10] (fun _ _ i wr=>∃(j:Nat)(S':Nat->Prop)(kj:Dk Sx),j<=m/\i=.int .i64 j/\Zo sx wr S' b kj/\Kept S w wr/\(∀t,S' t->S t\/w.heap.size<=t)/\
  k.writes g=kj.writes (g.drop j)/\kj.un.length<=k.un.length+j/\kj.safe.length=k.safe.length) (fun _ _ i _=>m-(intOf i).toNat)
 case atStart=>exact⟨0,S,k,Nat.zero_le _,rfl,HD.out,Kept.refl _ _,fun t ht=>.inl ht,rfl,qaq _,rfl⟩
 case round=>
  obtain⟨j,S',kj,hj,rfl,hD,hK,hS,hw,hu,hl⟩:=hrel
  have jG:=χ hD
  have HK:=χ hK
  have HS:=χ hS
  have Hw:=χ hw
  have Hu:=χ hu
  have Hl:=χ hl
  have hJr:JB wr bj b start n seq:=(hK.block bj I4.out Hb.out).trans HJ.out
  have hsz:=hK.size
  have cj:=hJr.cell 0
  have hnot:∀t,T t->t<w.heap.size->¬ S' t:=fun t ht hlt hs=>by
   rcases hS t hs with h|h
   ·exact HT.out t ht h
   ·omega
  have hnj:Hid (¬ S' bj):=fun hs=>by
   rcases hS bj hs with h|h
   ·exact Hb.out h
   ·have:=I4.out;omega
  have bY:=χ hnot
  have bX:Sa wr (fun t=>T t/\t<w.heap.size) A (ints g):=(HL.out.more fun i hi ht=>⟨ht,hi⟩).keep hsz fun i hi _=>hK.block i hi.2 fun hs=>HT.out i hi.1 hs
  clear hD hK hS hw hu hl hJr hnot
  by_cases hlt:j<m
  ·obtain⟨p,hp⟩:∃p,g[j]? =some p:=⟨_,List.getElem?_eq_getElem (by rw[Hm.out];exact hlt)⟩
   obtain⟨b1,o,ba,oa,cp,rfl,hT1,bW,hb1,hb2,hcp,c0,c1,c2,hr⟩:=bX j _ (xU hp)
   have hdrop:Hid (g.drop j=p::g.drop (j+1)):=by
    obtain⟨h1,h2⟩:=qag.1 hp
    show _=_
    rw[<-h2,List.getElem_cons_drop]
   have hps:=uk.out p (List.mem_of_getElem? hp)
   simp only at c0 c2
   obtain⟨s,x⟩:=p
   simp only at c0 c1 c2 hr hps hdrop
   have jF:Hid (s<kj.safe.length):=by show _<_;rw[Hl.out];exact hps
   have hxt:=x.ht
   obtain⟨t,ht⟩:∃t,t=x.t:=⟨_,rfl⟩
   rw[<-ht]at c2 hxt
   have Ht:=χ ht
   have Hr:=χ hr
   have Hba:=χ (bY.out ba bW.1 bW.2)
   have Hb2:=χ hb2
   have hcj:bj<wr.heap.size:=by have:=I4.out;omega
   have gK:=χ hcj
   clear hp ht hr hps hT1 bW hb2 hcj bX
   cases hoff:kj.off
   ·have R8:=χ hoff
    clear hoff
    go_wp2
    have d0:=(Bk.new wr 140 [s,.slice (some ⟨ba,oa,none⟩) 64 cp,.int .u16 t])
    have hbW:Below wr.heap.size wr (wr.alloc (.cells #[s,.slice (some ⟨ba,oa,none⟩) 64 cp,.int .u16 t] 140)):=(qap _ wr).alloc (qaq _) _
    have hW1:(wr.alloc (.cells #[s,.slice (some ⟨ba,oa,none⟩) 64 cp,.int .u16 t] 140)).heap.size=wr.heap.size+1:=by simp
    have nY:Hid (¬ S' wr.heap.size):=fun hs=>by have:=jG.out.lt hs;omega
    have e0:=d0.cell 0
    have e1:=d0.cell 1
    have e2:=d0.cell 2
    have lK:=(hbW.cell (p:=⟨bj,0,none⟩) gK.out).trans cj
    have HW:=χ hbW
    have HW1:=χ hW1
    clear d0 hbW cj c0 c1 c2 hW1
    generalize wr.alloc (.cells #[s,.slice (some ⟨ba,oa,none⟩) 64 cp,.int .u16 t] 140)=W at*
    have DW:=χ (jG.out.below HW.out)
    have HrW:=χ (ZL Hr.out (HW.out.block ba Hb2.out))
    have HbW:Hid (ba<W.heap.size):=qai Hb2.out HW.out.size
    have jE:Hid (kj.un.length<=1073741824):=by have:=Hu.out;have:=wF.out;show _<=_;omega
    obtain⟨gp,WV⟩:∃gp,gp=wr.heap.size:=⟨_,rfl⟩
    have nX:Hid (bj<W.heap.size):=qai gK.out HW.out.size
    have nW:Hid (wr.heap.size<W.heap.size):=by rw[HW1.out];exact Nat.lt_succ_self _
    go_region_held3 (fun w':qao=>w'.cell? ⟨bj,0,none⟩=some (.pointer b)/\w'.cell? ⟨wr.heap.size,0,none⟩=some (.int .i64 s)/\w'.cell? ⟨wr.heap.size,1,none⟩=some (.slice (some ⟨ba,oa,none⟩) 64 cp)/\w'.cell? ⟨wr.heap.size,2,none⟩=some (.int .u16 t))
     (first|exact⟨lK,e0,e1,e2⟩|assumption)
     (first|(go_at_call 114;(refine(NF Ti W.drew S' b kj (DW.out.keep fun _ _=>rfl) s jF.out ba oa cp (Z7 x.b) (t:Int) x (by rw[Ht.out];rfl) (by rw[Z5,x.hb]) (ZL HrW.out rfl) Hba.out HbW.out jE.out R8.out).mono ?_);rintro e w2 ⟨rfl,hT⟩;have T2:=χ hT;have hkp:∀i,i<W.heap.size->¬ S' i->w2.heap[i]? =W.heap[i]? :=fun i hi hs=>hT.1.block i hi hs;have k0:=(qae (a:=⟨bj,0,none⟩) (hkp bj nX.out hnj.out)).trans lK;have k1:=(qae (a:=⟨wr.heap.size,0,none⟩) (hkp _ nW.out nY.out)).trans e0;have k2:=(qae (a:=⟨wr.heap.size,1,none⟩) (hkp _ nW.out nY.out)).trans e1;have k3:=(qae (a:=⟨wr.heap.size,2,none⟩) (hkp _ nW.out nY.out)).trans e2;have kk:=qas k0 (qas k1 (qas k2 k3));clear hT hkp))
    go_wp2
    obtain⟨hK2,S2,hD2,hS2⟩:=T2.out
    have hKW:Kept S w W.drew:=(HK.out.trans (Kept.of_below (S:=S) HW.out) fun i hi=>.inl hi).drew
    have A1:=χ (hKW.trans hK2 HS.out)
    have A2:Hid (∀t,S2 t->S t\/w.heap.size<=t):=fun t ht=>(hS2 t ht).elim (HS.out t) fun h=>.inr (qar hKW.size h)
    have A3:=χ hD2
    have A4:Hid (k.writes g=(kj.wrote s x).writes (g.drop (j+1))):=by
     show _=_
     rw[Hw.out,hdrop.out,Dk.writes,R8.out];rfl
    have A5:Hid ((kj.wrote s x).un.length<=k.un.length+(j+1)):=by
     show _<=_
     rw[Dk.Uy,qaj,qaA];have:=Hu.out;omega
    have A6:Hid ((kj.wrote s x).safe.length=k.safe.length):=by
     show _=_
     rw[Dk.Wi];exact Hl.out
    clear hK2 hD2 hS2 hKW k0 k1 k2 k3 kk lK e0 e1 e2 T2
    go_roundw
    case rel=>exact⟨j+1,S2,kj.wrote s x,by omega,by go_num,A3.out,A1.out,A2.out,A4.out,A5.out,A6.out⟩
    case measure=>simp[intOf];omega
   ·have R8:=χ hoff
    clear hoff
    go_wp2
    have d0:=(Bk.new wr 140 [s,.slice (some ⟨ba,oa,none⟩) 64 cp,.int .u16 t])
    have hbW:Below wr.heap.size wr (wr.alloc (.cells #[s,.slice (some ⟨ba,oa,none⟩) 64 cp,.int .u16 t] 140)):=(qap _ wr).alloc (qaq _) _
    have hW1:(wr.alloc (.cells #[s,.slice (some ⟨ba,oa,none⟩) 64 cp,.int .u16 t] 140)).heap.size=wr.heap.size+1:=by simp
    have nY:Hid (¬ S' wr.heap.size):=fun hs=>by have:=jG.out.lt hs;omega
    have e0:=d0.cell 0
    have e1:=d0.cell 1
    have e2:=d0.cell 2
    have lK:=(hbW.cell (p:=⟨bj,0,none⟩) gK.out).trans cj
    have HW:=χ hbW
    have HW1:=χ hW1
    clear d0 hbW cj c0 c1 c2 hW1
    generalize wr.alloc (.cells #[s,.slice (some ⟨ba,oa,none⟩) 64 cp,.int .u16 t] 140)=W at*
    have DW:=χ (jG.out.below HW.out)
    have HrW:=χ (ZL Hr.out (HW.out.block ba Hb2.out))
    have HbW:Hid (ba<W.heap.size):=qai Hb2.out HW.out.size
    have jE:Hid (kj.un.length<=1073741824):=by have:=Hu.out;have:=wF.out;show _<=_;omega
    obtain⟨gp,WV⟩:∃gp,gp=wr.heap.size:=⟨_,rfl⟩
    have nX:Hid (bj<W.heap.size):=qai gK.out HW.out.size
    have nW:Hid (wr.heap.size<W.heap.size):=by rw[HW1.out];exact Nat.lt_succ_self _
    go_region_held3 (fun w':qao=>w'.cell? ⟨bj,0,none⟩=some (.pointer b)/\w'.cell? ⟨wr.heap.size,0,none⟩=some (.int .i64 s)/\w'.cell? ⟨wr.heap.size,1,none⟩=some (.slice (some ⟨ba,oa,none⟩) 64 cp)/\w'.cell? ⟨wr.heap.size,2,none⟩=some (.int .u16 t))
     (first|exact⟨lK,e0,e1,e2⟩|assumption)
     (first|(go_at_call 114;(refine(BV W.drew S' b kj (DW.out.keep fun _ _=>rfl) s jF.out (some ⟨ba,oa,none⟩) cp (.int .u16 t) R8.out).mono ?_);rintro e w2 ⟨rfl,hT⟩;have T2:=χ hT;have hkp:∀i,i<W.heap.size->¬ S' i->w2.heap[i]? =W.heap[i]? :=fun i hi hs=>hT.1.block i hi hs;have k0:=(qae (a:=⟨bj,0,none⟩) (hkp bj nX.out hnj.out)).trans lK;have k1:=(qae (a:=⟨wr.heap.size,0,none⟩) (hkp _ nW.out nY.out)).trans e0;have k2:=(qae (a:=⟨wr.heap.size,1,none⟩) (hkp _ nW.out nY.out)).trans e1;have k3:=(qae (a:=⟨wr.heap.size,2,none⟩) (hkp _ nW.out nY.out)).trans e2;have kk:=qas k0 (qas k1 (qas k2 k3));clear hT hkp))
    go_wp2
    obtain⟨hK2,S2,hD2,hS2⟩:=T2.out
    have hKW:Kept S w W.drew:=(HK.out.trans (Kept.of_below (S:=S) HW.out) fun i hi=>.inl hi).drew
    have A4:k.writes g=(6,kj.op):=by
     rw[Hw.out,hdrop.out,Dk.writes,R8.out];rfl
    go_ret
    rw[A4]
    exact⟨rfl,hKW.trans hK2 HS.out,S2,hD2,fun t ht=>(hS2 t ht).elim (HS.out t) fun h=>.inr (qar hKW.size h)⟩
  ·obtain rfl:j=m:=by omega
   have hnil:g.drop j=[]:=by rw[<-Hm.out];exact List.drop_length
   have A4:Hid (k.writes g=(if kj.off then 6 else 0,kj.flush)):=by
    show _=_
    rw[Hw.out,hnil];rfl
   have uj:Hid (kj.un.length<=1073741824):=by have:=Hu.out;have:=wF.out;show _<=_;omega
   clear hnil bX
   obtain⟨fe,hfe⟩:∃fe,fe=(if kj.off then(6:Int)else 0):=⟨_,rfl⟩
   have Hfe:=χ hfe
   rw[<-hfe]at A4
   clear hfe
   go_wp2_with (go_at_call 115;refine(ND Ti _ S' b kj jG.out uj.out).mono ?_;rintro e w2 ⟨he,hT⟩;rw[<-Hfe.out]at he;subst he;have T2:=χ hT;clear hT)
   go_ret
   rw[A4.out]
   exact⟨rfl,Turned.trans HK.out HS.out T2.out⟩
theorem Gm(hJ:JB w bj b start n seq)(hD:Zo sx w S b k)(hb:¬ S bj)(hL:Sa w T A (ints g))(hT:∀t,T t->¬ S t)(m c:Nat)(hm:g.length=m)(hin:∀p∈g,p.1<k.safe.length)(hst:start<k.safe.length)(hun:k.un.length+m<=900000)(q:Nat)(hq:q<18446744073709551616):
  Calls Tryz.prog 143 #[.pointer bj,.int .u64 q,.slice A m c] w fun e w'=>e=.returned (.int .i64 (k.finish start q g).1)/\Turned sx S w w' b (k.finish start q g).2:=by
 have hlen:=Dk.Gl g k
 have jD:(k.writes g).2.un.length<=900000:=by have:=Dk.BX g k;omega
 have Hw:=χ (fun c=>O1 (c:=c) hJ hD hb hL hT m hm hin (by omega))
 have Hq:=χ hq
 have I4:=χ hJ.lt
 have HJ:=χ hJ
 have Hb:=χ hb
 have Hst:Hid (start<(k.writes g).2.safe.length):=by show _<_;rw[hlen];exact hst
 have uj:=χ jD
 unfold Dk.finish
 generalize hr:k.writes g=r at*
 obtain⟨e0,k1⟩:=r
 simp only at Hst uj Hw⊢
 clear hJ hD hb hL hT hm hin hun hq hr hlen jD hst
 by_cases he:e0=0
 ·subst he
  rw[if_pos rfl]
  go_enter Tryz.func143,Tryz.ntmps143
  go_wp2_with (go_at_call 140;refine(Hw.out c).mono ?_;rintro e w1 ⟨rfl,hT1⟩;have T1:=χ hT1;clear hT1)
  have rM:JB w1 bj b start n seq:=(T1.out.1.block bj I4.out Hb.out).trans HJ.out
  refine(xS w1 bj b start n seq q 0 rM Hq.out (by omega)).mono ?_
  rintro e w2 ⟨gh,rfl,hP,hB2⟩
  have HP:=χ hP
  have HB2:=χ hB2
  have HJ1:=χ rM
  clear hP hB2 rM
  obtain⟨hK1,S1,hD1,hS1⟩:=T1.out
  have hlt1:=qai I4.out hK1.size
  have hb1:¬ S1 bj:=fun hs=>by
   rcases hS1 bj hs with h|h
   ·exact Hb.out h
   ·have:=I4.out;omega
  have wH:=χ hK1
  have HD1:=χ (hD1.below HB2.out)
  have HS1:=χ hS1
  have Hb1:=χ hb1
  have HJ2:=χ ((HB2.out.block bj hlt1).trans HJ1.out)
  have bV:Hid (∀t,w1.heap.size<=t->¬ S1 t):=fun t ht hs=>by have:=hD1.lt hs;omega
  have Nt:=χ (wH.out.trans (Kept.of_below (S:=S) HB2.out) fun i hi=>.inl hi)
  clear hK1 hD1 hS1 hb1 hlt1
  go_wp2_with fail
  refine(O1 (g:=[(start,Uk q 0)]) (T:=fun i=>w1.heap.size<=i) HJ2.out HD1.out Hb1.out HP.out bV.out 1 1 rfl (fun p hp=>by simp only[List.mem_singleton]at hp;subst hp;exact Hst.out) (by have:=uj.out;omega)).mono ?_
  rintro e w3 ⟨rfl,hT3⟩
  have T3:=χ hT3
  clear hT3
  go_wp2_with fail
  go_ret
  exact⟨rfl,Turned.trans Nt.out HS1.out T3.out⟩
 ·rw[if_neg he]
  have he2:(e0 != 0)=true:=by simp[he]
  go_enter Tryz.func143,Tryz.ntmps143
  go_wp2_with (go_at_call 140;refine(Hw.out c).mono ?_;rintro e w1 ⟨rfl,hT1⟩;have T1:=χ hT1;clear hT1)
  go_ret
  exact⟨rfl,T1.out⟩
end
end Go.Proofs.YtmehhgfbnfbnaaaGreat

namespace Go.Proofs.YtmehhgfbnfbnaaaGreat
open Go.RowKit
attribute [local go_sem↓] Go.wp_at_zero Go.wp_at_succ
section
variable {w:qao}{S T:Nat->Prop}{bj b start n seq:Nat}{k:Dk Sx}{A:Option Addr}
end
end Go.Proofs.YtmehhgfbnfbnaaaGreat
