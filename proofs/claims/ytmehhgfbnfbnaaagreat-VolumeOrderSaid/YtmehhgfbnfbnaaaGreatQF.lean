import Derived.Test.YtmehhgfbnfbnaaaGreatQTk
import Derived.Laws.BitsAllLaws
import Derived.Laws.Bits64
import Derived.Laws.BitsLemmas
import Derived.Below
import Derived.WalkKit
import Derived.WalkSpells
import Derived.Laws.AppendOwnNone
import Derived.Laws.CopyOwn
import Derived.Deep.Draws
import Derived.Test.YtmehhgfbnfbnaaaGreatRows
import Derived.BigQuiet
import Derived.Deep.QuietTactic
import Derived.Lib.Hide
import Derived.Scope
import Derived.WalkMore
import Derived.Lib.AppendZeros
import Derived.Deep.DeepAppendRoom
import Derived.Deep.RegionHeld3
import Derived.ProofKit
import Derived.OpenShut
set_option maxRecDepth 100000
set_option maxHeartbeats 25600000
open List renaming replicate->qaa,getElem?_eq_getElem->qad,take_succ_eq_append_getElem->qae,getElem?_eq_some_iff->qaj,getElem_mem->qan,take_of_length_le->qay,length_append->qaD,append_assoc->qaG,length_cons->qaI,length->qaJ,take_append_drop->qaN,set_append_right->qaO,getElem?_eq_none->qaP
open Go renaming World->qab,Value->qaf,Calls->qao,Addr->qap,TypeId->qaq,step_scope->qas,info_parts->qaH
open Nat renaming le_refl->qac,zero_le->qag,mod_lt->qai,min_eq_left->qak,add_mul->qau,le_mul_of_pos_right->qav,pow_succ->qaw,mul_comm->qax,mul_le_mul_right->qaA,le_trans->qaE,le_of_lt->qaF
open Go.RowKit.Below renaming refl->qah
open Go.RowKit renaming Below->qal
open Go.World.grownBy renaming refl->qam
open Go.Builtin renaming append_->qar
open UInt8 renaming ofNat->qat
open Int renaming natCast_mul->qaz,le_ediv_of_mul_le->qaQ
open Go.Instr renaming makeSlice->qaB
open Go.World renaming cell?_alloc_at->qaC
open Go.Addr renaming add_lit->qaK
open Go.IntKind renaming u64->qaL
open Array renaming getElem?_eq_none->qaM
namespace Go.Proofs.YtmehhgfbnfbnaaaGreat
open Go.RowKit
section
variable {α:Type}
def le:List UInt8->Nat
 |[]=>0
 |b::r=>b.toNat+256*le r
def YE(n:Nat):Nat->List UInt8
 |0=>[]
 |k+1=>qat (n%256)::YE (n/256) k
theorem ZE(n k:Nat):(YE n k).length=k:=by
 induction k generalizing n with
 |zero=>rfl
 |succ k ih=>simp[YE,ih]
theorem BK(l:List UInt8):le l<256^l.length:=by
 induction l with
 |nil=>simp[le]
 |cons b r ih=>
  have:=b.toNat_lt
  simp only[le,qaI,qaw]
  omega
theorem ze(a b:List UInt8):le (a++b)=le a+256^a.length*le b:=by
 induction a with
 |nil=>simp[le]
 |cons x r ih=>
  simp only[List.cons_append,le,ih,qaI,qaw,Nat.mul_add]
  have:256*(256^r.length*le b)=256^r.length*256*le b:=by rw[<-Nat.mul_assoc,qax 256]
  omega
theorem JY(l:List UInt8)(j:Nat)(h:j<l.length):le (l.take (j+1))=le (l.take j)+256^j*l[j].toNat:=by
 rw[qae h,ze]
 simp[le,qak (qaF h)]
theorem BJ(k:Nat)(h:k<=8):256^k<=18446744073709551616:=by
 have:256^k<=256^8:=Nat.pow_le_pow_right (by omega) h
 simpa using this
theorem mR(n k:Nat):le (YE n k)=n%256^k:=by
 induction k generalizing n with
 |zero=>simp[YE,le,Nat.mod_one]
 |succ k ih=>
  have h1:(qat (n%256)).toNat=n%256:=by simp
  simp only[YE,le,ih,h1,qaw]
  rw[qax (256^k) 256,Nat.mod_mul]
theorem Xd(n k:Nat)(h:n<256^k):le (YE n k)=n:=by rw[mR,Nat.mod_eq_of_lt h]
theorem BI(l:List UInt8):YE (le l) l.length=l:=by
 induction l with
 |nil=>rfl
 |cons b r ih=>
  have hb:=b.toNat_lt
  have h1:(b.toNat+256*le r)%256=b.toNat:=by omega
  have h2:(b.toNat+256*le r)/256=le r:=by omega
  simp only[qaI,YE,le,h1,h2,ih]
  simp
theorem Vz(j:Nat):2^(8*j)=256^j:=by rw[Nat.pow_mul]
theorem zk(n k:Nat):YE n (k+1)=YE n k++[qat (n/256^k%256)]:=by
 induction k generalizing n with
 |zero=>simp[YE]
 |succ k ih=>
  rw[YE,ih,YE]
  simp[Nat.div_div_eq_div_mul,qaw,qax]
theorem zg(l:List UInt8)(j:Nat)(h:j<l.length)(h8:j<8):
  bits .or .u64 (le (l.take j):Int) (qaL.wrap (qaL.wrap (l[j].toNat:Int)*2^(8*j)))=(le (l.take (j+1)):Int):=by
 have hb:=l[j].toNat_lt
 have hp:256^(j+1)<=18446744073709551616:=BJ _ (by omega)
 have h1:le (l.take j)<256^j:=by
  have:=BK (l.take j)
  rwa[List.length_take,qak (qaF h)]at this
 have h2:l[j].toNat*256^j<256^(j+1):=by
  rw[qaw,qax]
  exact Nat.mul_lt_mul_of_pos_left hb (Nat.pow_pos (by omega))
 have e1:qaL.wrap (l[j].toNat:Int)=(l[j].toNat:Int):=by rw[IntKind.wrap_u64];omega
 have e2:((l[j].toNat:Int)*2^(8*j))=((l[j].toNat*256^j:Nat):Int):=by
  rw[<-Vz];simp
 have e3:qaL.wrap ((l[j].toNat*256^j:Nat):Int)=((l[j].toNat*256^j:Nat):Int):=by rw[IntKind.wrap_u64];omega
 have h3:256^j<=18446744073709551616:=BJ _ (by omega)
 rw[e1,e2,e3,u64_or_nat _ _ (by omega) (by omega)]
 have e4:le (l.take j)|||l[j].toNat*256^j=le (l.take j)+256^j*l[j].toNat:=by
  have:=Nat.two_pow_add_eq_or_of_lt (i:=8*j) (b:=le (l.take j)) (by rw[Vz];exact h1) l[j].toNat
  rw[Vz]at this
  rw[Nat.or_comm,qax,<-this,Nat.add_comm]
 rw[e4,JY l j h]
def WB(n size:Nat):Bool:=decide (n<256^size)
theorem zh(n size:Nat):(((n:Int)/2^(8*size))==0)=WB n size:=by
 have e:((n:Int)/2^(8*size))=((n/256^size:Nat):Int):=by rw[<-Vz];simp
 rw[e,Bool.eq_iff_iff,beq_iff_eq]
 have hp:0<256^size:=Nat.pow_pos (by omega)
 have h1:n/256^size=0↔n<256^size:=by rw[Nat.div_eq_zero_iff];omega
 simp only[WB,decide_eq_true_eq]
 rw[<-h1]
 omega
def put(l:List α)(o:Nat)(d:List α):List α:=l.take o++d++l.drop (o+d.length)
theorem Um(l:List α)(o:Nat)(d:List α)(h:o+d.length<=l.length):(put l o d).length=l.length:=by
 simp[put];omega
theorem mV(l:List α)(o:Nat):put l o []=l:=by simp[put]
theorem uq(l:List α)(o:Nat)(d:List α)(x:α)(k:Nat)(hk:k=o+d.length)(h:k<l.length):(put l o d).set k x=put l o (d++[x]):=by
 subst hk
 have e:l.drop (o+d.length)=l[o+d.length]::l.drop (o+d.length+1):=List.drop_eq_getElem_cons h
 have hl:(l.take o++d).length=o+d.length:=by simp;omega
 unfold put
 rw[e,qaO _ _ (by omega),hl]
 simp[qaG,Nat.add_assoc]
theorem mU{β:Type}(f:α->β)(l:List α)(o:Nat)(d:List α):(put l o d).map f=put (l.map f) o (d.map f):=by
 simp[put,List.map_take,List.map_drop]
def Y0(size:Nat):List Nat->List UInt8
 |[]=>[]
 |n::r=>YE n size++Y0 size r
theorem ZA(size:Nat)(L:List Nat):(Y0 size L).length=L.length*size:=by
 induction L with
 |nil=>simp[Y0]
 |cons n r ih=>simp[Y0,ih,ZE,qau];omega
theorem Tp(size:Nat)(L K:List Nat):Y0 size (L++K)=Y0 size L++Y0 size K:=by
 induction L with
 |nil=>rfl
 |cons n r ih=>simp[Y0,ih]
theorem Tn(size:Nat)(L:List Nat)(j:Nat)(h:j<L.length):Y0 size (L.take (j+1))=Y0 size (L.take j)++YE L[j] size:=by
 rw[qae h,Tp]
 simp[Y0]
def filled(size:Nat)(L:List Nat)(j:Nat):List UInt8:=Y0 size (L.take j)++qaa ((L.length-j)*size) 0
theorem Pk(size:Nat)(L:List Nat):filled size L 0=qaa (L.length*size) 0:=by simp[filled,Y0]
theorem EA(size:Nat)(L:List Nat):filled size L L.length=Y0 size L:=by simp[filled]
theorem R4(size:Nat)(L:List Nat)(j:Nat)(h:j<=L.length):(filled size L j).length=L.length*size:=by
 have e:L.length*size=j*size+(L.length-j)*size:=by rw[<-qau];congr 1;omega
 simp[filled,ZA,qak h,e]
theorem Ho(size:Nat)(L:List Nat)(j:Nat)(h:j<L.length):put (filled size L j) (j*size) (YE L[j] size)=filled size L (j+1):=by
 have hl:(Y0 size (L.take j)).length=j*size:=by simp[ZA,qak (qaF h)]
 have e:(L.length-j)*size-size=(L.length-(j+1))*size:=by
  rw[show L.length-j=(L.length-(j+1))+1 by omega,qau];omega
 have h1:(filled size L j).take (j*size)=Y0 size (L.take j):=by
  unfold filled;rw[<-hl];exact List.take_left
 have h2:(filled size L j).drop (j*size+size)=qaa ((L.length-(j+1))*size) 0:=by
  unfold filled
  rw[<-List.drop_drop,<-hl,List.drop_left,List.drop_replicate,e]
 unfold put
 rw[ZE,h1,h2,<-Tn size L j h]
 rfl
def Ze(size:Nat)(l:List UInt8):List Nat:=(List.range (l.length/size)).map fun k=>le ((l.drop (k*size)).take size)
theorem XX(size:Nat)(l:List UInt8):(Ze size l).length=l.length/size:=by simp[Ze]
theorem Vy(size:Nat)(l:List UInt8)(j:Nat)(h:j<l.length/size):(Ze size l)[j]? =some (le ((l.drop (j*size)).take size)):=by
 simp[Ze,h]
theorem NP(size:Nat)(hs:1<=size)(L:List Nat)(hf:∀x∈L,WB x size=true):Ze size (Y0 size L)=L:=by
 have hdiv:(L.length*size)/size=L.length:=Nat.mul_div_cancel _ (by omega)
 apply List.ext_getElem?
 intro j
 by_cases hj:j<L.length
 ·rw[Vy _ _ _ (by rw[ZA,hdiv];exact hj),qad hj]
  congr 1
  have e:Y0 size L=Y0 size (L.take j)++(YE L[j] size++Y0 size (L.drop (j+1))):=by
   have h1:=Tp size (L.take (j+1)) (L.drop (j+1))
   rw[qaN]at h1
   rw[h1,Tn size L j hj,qaG]
  have hl:(Y0 size (L.take j)).length=j*size:=by simp[ZA,qak (qaF hj)]
  have h2:(Y0 size L).drop (j*size)=YE L[j] size++Y0 size (L.drop (j+1)):=by rw[e,<-hl];exact List.drop_left
  have h3:((Y0 size L).drop (j*size)).take size=YE L[j] size:=by
   rw[h2]
   have:=List.take_left (l₁:=YE L[j] size) (l₂:=Y0 size (L.drop (j+1)))
   rwa[ZE]at this
  rw[h3]
  have:=hf L[j] (qan hj)
  simp only[WB,decide_eq_true_eq]at this
  exact Xd _ _ this
 ·rw[qaP (by rw[XX,ZA,hdiv];omega),qaP (by omega)]
def Ez(size:Nat)(L:List Nat):Bool:=decide (L.length*size<=4096)&&L.all (WB · size)
end
end Go.Proofs.YtmehhgfbnfbnaaaGreat

namespace Go.Proofs.YtmehhgfbnfbnaaaGreat
open Go.RowKit
def XG(b:UInt8):qaf:=.int .u8 b.toNat
def Qf(n:Nat):qaf:=.int .u64 n
def Z6(l:List UInt8):List qaf:=l.map XG
def Zg(l:List Nat):List qaf:=l.map Qf
theorem Z4(l:List UInt8):(Z6 l).length=l.length:=by simp[Z6]
theorem WN(l:List Nat):(Zg l).length=l.length:=by simp[Zg]
theorem Xc(l m:List UInt8):Z6 (l++m)=Z6 l++Z6 m:=by simp[Z6]
theorem J3(l m:List Nat):Zg (l++m)=Zg l++Zg m:=by simp[Zg]
theorem Tt(l:List UInt8)(k:Nat):Z6 (l.take k)=(Z6 l).take k:=by simp[Z6,List.map_take]
theorem WW(l:List UInt8)(k:Nat):Z6 (l.drop k)=(Z6 l).drop k:=by simp[Z6,List.map_drop]
theorem YC(l:List UInt8):∀u∈Z6 l,u.oneCell'=true:=by
 intro u hu
 simp only[Z6,List.mem_map]at hu
 obtain⟨b,_,rfl⟩:=hu
 rfl
theorem zf(l:List Nat):∀u∈Zg l,u.oneCell'=true:=by
 intro u hu
 simp only[Zg,List.mem_map]at hu
 obtain⟨b,_,rfl⟩:=hu
 rfl
theorem EJ{l m:List UInt8}(h:Z6 l=Z6 m):l=m:=by
 unfold Z6 at h
 refine(List.map_inj_right fun a b hab=>?_).1 h
 unfold XG at hab
 injection hab with _ h'
 exact UInt8.toNat_inj.1 (by omega)
def Rd(w:qab)(B:Nat)(A:Option qap)(xs:List qaf):Prop:=
 xs=[]\/∃b o,A=some ⟨b,o,none⟩/\b<B/\∀j u,xs[j]? =some u->w.cell? ⟨b,o+j,none⟩=some u
section
variable {w w':qab}{B:Nat}{A:Option qap}{xs:List qaf}
theorem Rd.keep (h:Rd w B A xs)(hk:∀p:qap,p.block<B->w'.cell? p=w.cell? p):Rd w' B A xs:=by
 rcases h with h|⟨b,o,h1,h2,h3⟩
 ·exact .inl h
 ·exact .inr ⟨b,o,h1,h2,fun j u hu=>(hk _ h2).trans (h3 j u hu)⟩
theorem Rd.more {B':Nat}(h:Rd w B A xs)(hB:B<=B'):Rd w B' A xs:=by
 rcases h with h|⟨b,o,h1,h2,h3⟩
 ·exact .inl h
 ·exact .inr ⟨b,o,h1,by omega,h3⟩
theorem Rd.below (h:Rd w B A xs)(hb:qal B w w'):Rd w' B A xs:=h.keep fun _ hp=>hb.cell hp
theorem Rd.take (h:Rd w B A xs)(k:Nat):Rd w B A (xs.take k):=by
 rcases h with h|⟨b,o,h1,h2,h3⟩
 ·exact .inl (by simp[h])
 ·exact .inr ⟨b,o,h1,h2,fun j u hu=>h3 j u (by
   rw[List.getElem?_take]at hu
   split at hu
   ·exact hu
   ·cases hu)⟩
theorem Rd.drop (h:Rd w B A xs){k c:Nat}(hk:k<=xs.length)(hc:xs.length<=c):Rd w B (if c=k then A else A.map (·.add k)) (xs.drop k):=by
 rcases h with h|⟨b,o,rfl,h2,h3⟩
 ·exact .inl (by simp[h])
 ·by_cases he:xs.length=k
  ·exact .inl (by simp[he])
  ·rw[if_neg (by omega)]
   exact .inr ⟨b,o+k,by simp[qaK],h2,fun j u hu=>by
    rw[Nat.add_assoc]
    exact h3 _ u (by rw[<-hu,List.getElem?_drop])⟩
theorem Rd.drewN (h:Rd w B A xs)(n:Nat):Rd (w.drewN n) B A xs:=h
end
def Bk(w:qab)(g:Nat)(e:qaq)(xs:List qaf):Prop:=w.heap[g]? =some (.cells xs.toArray e (0,0))
section
variable {w w':qab}{g:Nat}{e:qaq}{xs:List qaf}
theorem Bk.lt (h:Bk w g e xs):g<w.heap.size:=by
 rcases Nat.lt_or_ge g w.heap.size with hlt|hge
 ·exact hlt
 ·unfold Bk at h;rw[qaM hge]at h;cases h
theorem Bk.cell (h:Bk w g e xs)(i:Nat):w.cell? ⟨g,i,none⟩=xs[i]? :=by
 rw[cell_of_row w g i xs.toArray e (0,0) h];simp
theorem Bk.frozen (h:Bk w g e xs)(i:Nat):w.frozen? ⟨g,i,none⟩=false:=by
 unfold Bk at h
 simp[qab.frozen?,h]
theorem Bk.new (w:qab)(e:qaq)(xs:List qaf):Bk (w.alloc (.cells xs.toArray e)) w.heap.size e xs:=heap_alloc_new w _
theorem Bk.below {B:Nat}(h:Bk w g e xs)(hb:qal B w w')(hg:g<B):Bk w' g e xs:=(hb.block g hg).trans h
theorem Bk.grown {row:Option Nat}(h:Bk w g e xs)(hb:w.grownBy w' row)(hg:some g≠row):Bk w' g e xs:=(hb.block g h.lt hg).trans h
theorem Bk.set (h:Bk w g e xs)(i:Nat)(u:qaf):Bk (w.setCell ⟨g,i,none⟩ u) g e (xs.set i u):=by
 unfold Bk at h⊢
 simp[qab.setCell,Array.getElem?_modify,h]
theorem Bk.rd (h:Bk w g e xs)(n o:Nat):Rd w w.heap.size (some ⟨g,o,none⟩) ((xs.drop o).take n):=
 .inr ⟨g,o,rfl,h.lt,fun j u hu=>by
  rw[h.cell,<-List.getElem?_drop]
  rw[List.getElem?_take]at hu
  split at hu
  ·exact hu
  ·cases hu⟩
theorem Bk.own {base:Nat}(h:Bk w g e xs)(n:Nat)(hn:xs.length=n)(hb:base<=g)(hm:n<=maxLen):w.ownsRow base e 1 (.slice g n n) n xs:=
 ⟨by simp[hn],.inr ⟨g,n,xs.toArray,rfl,hb,h,qac _,hm,by simp[hn],by rw[Nat.mul_one];exact qay (Nat.le_of_eq hn)⟩⟩
end
section
variable {w a:qab}{base n size g:Nat}{e:qaq}{xs:List qaf}{v:qaf}{P:Program}
theorem ZT(h:a.grownBy w (some g))(i:Nat)(u:qaf):a.grownBy (w.setCell ⟨g,i,none⟩ u) (some g):=
 ⟨h.os,h.tape,h.output,by simpa[qab.setCell]using h.size,fun k hk hne=>(qal.heap_setCell w _ u k (by rintro rfl;exact hne rfl)).trans (h.block k hk hne)⟩
theorem XM{B:Nat}(h:a.grownBy w (some g))(hB:B<=a.heap.size)(hg:B<=g):qal B a w:=
 (qah B a).grown h hB (by rintro k hk;injection hk with hk;omega)
theorem Yx(h:w.ownsRow base e 1 v n xs):
  xs.length=n/\∃A c,v=.slice A n c/\n<=c/\c<=maxLen/\Rd w w.heap.size A xs:=by
 refine⟨by simpa using h.1,?_⟩
 rcases h.2 with⟨rfl,rfl⟩|⟨g,cap,cur,rfl,hb,hg,h1,h2,h3,h4⟩
 ·exact⟨none,0,rfl,qac _,qag _,.inl (List.eq_nil_of_length_eq_zero (by simpa using h.1))⟩
 ·refine⟨_,cap,rfl,h1,h2,.inr ⟨g,0,rfl,?_,fun j u hu=>?_⟩⟩
  ·rcases Nat.lt_or_ge g w.heap.size with hlt|hge
   ·exact hlt
   ·rw[qaM hge]at hg;cases hg
  ·have hj:j<n*1:=by have:=(qaj.1 hu).1;have:=h.1;omega
   rw[Nat.zero_add,h.cellAt j hj,hu]
theorem J2(w:qab)(base:Nat)(t ty e:qaq)(i:TypeInfo)(ht:P.underlying t=some (.slice e))(hi:P.info? e=some i)(v:qaf)(n:Nat)(xs:List qaf)(hown:w.ownsRow base e 1 v n xs)(c:Nat):(qar #[t,t] ty #[v,.slice none 0 c]).run P w=.ok v w:=by
 rcases hown.2 with⟨rfl,rfl⟩|⟨g,cap,cur,rfl,_,_,hnc,_⟩
 ·simp[qar,run_underlying ht,sizeOf,typeInfo,hi,Builtin.lenOf,Builtin.firstCells]
 ·simp[qar,run_underlying ht,sizeOf,typeInfo,hi,Builtin.lenOf,Builtin.firstCells,hnc,storeCells]
theorem U6(w:qab)(base:Nat)(t ty e:qaq)(i:TypeInfo)(z:qaf)(bytes:Nat)(ht:P.underlying t=some (.slice e))(hi:P.info? e=some i)(hz:i.zero=some z)(hsize:i.size=1)(hby:i.bytes=bytes)(hzs:z.cells.size=1)(v:qaf)(n:Nat)(xs:List qaf)(hown:w.ownsRow base e 1 v n xs)(B:Nat)(A:Option qap)(m c:Nat)(news:List qaf)(hm:news.length=m)(hr:Rd w B A news)(h1:∀u∈news,u.oneCell'=true)(h63:n+m<=maxLen)(hbytes:(n+m)*bytes<=140737488355328)(hbase:base<=w.heap.size):
  ∃v' w',(qar #[t,t] ty #[v,.slice A m c]).run P w=.ok v' w'/\w'.ownsRow base e 1 v' (n+m) (xs++news)/\w.grownBy w' v.ownBlock:=by
 cases A with
 |none=>
  have hn:news=[]:=by
   rcases hr with h|⟨_,_,h,_⟩
   ·exact h
   ·cases h
  subst hn
  obtain rfl:m=0:=by simpa using hm.symm
  exact⟨v,w,J2 w base t ty e i ht hi v n xs hown c,by simpa using hown,qam w _⟩
 |some ad=>
  obtain⟨v',w',hrun,h2,h3,_⟩:=run_append_own (P:=P) w base t ty e i z 1 bytes ht hi hz hsize hby hzs (by omega) v n xs hown ad m c news (by simpa using hm) (by
   rcases hr with h|⟨b,o,h,_,hc⟩
   ·subst h
    intro j u hu
    simp at hu
   ·injection h with h
    subst h
    intro j u hu
    rw[qaK]
    exact hc j u hu) h1 h63 hbytes hbase
  exact⟨v',w',hrun,h2,h3⟩
theorem Ul(w:qab){ops:Array Oper}{rest:List Oper}{o:Oper}{a:Act}{Q:Exit->Act->qab->Prop}(hgd:o.guard=none)(s x:Operand)(t:qaq)(ho:o.op=.call {callee:=.builtin .append,args:=#[s,x],argTypes:=#[t,t]})(base:Nat)(e:qaq)(i:TypeInfo)(z:qaf)(bytes:Nat)(ht:P.underlying t=some (.slice e))(hi:P.info? e=some i)(hz:i.zero=some z)(hsize:i.size=1)(hby:i.bytes=bytes)(hzs:z.cells.size=1)(v:qaf)(n:Nat)(xs:List qaf)(hs:a.eval s=v)(hown:w.ownsRow base e 1 v n xs)(B:Nat)(A:Option qap)(m c:Nat)(news:List qaf)(hx:a.eval x=.slice A m c)(hm:news.length=m)(hr:Rd w B A news)(h1:∀u∈news,u.oneCell'=true)(h63:n+m<=maxLen)(hbytes:(n+m)*bytes<=140737488355328)(hbase:base<=w.heap.size)(h:∀v' w',w'.ownsRow base e 1 v' (n+m) (xs++news)->w.grownBy w' v.ownBlock->wpList P ops Q rest (a.put o.dst v') w'):wpList P ops Q (o::rest) a w:=by
 refine wpList_plain hgd fun K hK=>?_
 obtain⟨v',w',hrun,h2,h3⟩:=U6 (P:=P) w base t o.type e i z bytes ht hi hz hsize hby hzs v n xs hown B A m c news hm hr h1 h63 hbytes hbase
 unfold Oper.wp execOp
 simp only[ho,resolve,invoke,builtin,Sem.run_bind,Sem.run_pure,Result.andThen_ok,List.map_toArray,List.map_cons,List.map_nil,hs,hx,hrun]
 exact hK _ _ (h v' w' h2 h3)
theorem BM(w:qab)(src dst e:qaq)(hs:P.underlying src=some (.slice e))(he:P.underlying e=some (.int .u8))(hd:P.underlying dst=some .string)(B:Nat)(A:Option qap)(n c:Nat)(l:List UInt8)(hn:l.length=n)(hr:Rd w B A (Z6 l)):
  (convert src dst (.slice A n c)).run P w=.ok (.string ⟨l.toArray⟩) w:=by
 subst hn
 cases A with
 |none=>
  have h0:l=[]:=by
   rcases hr with h|⟨_,_,h,_⟩
   ·simpa[Z6]using h
   ·cases h
  subst h0
  rw[run_convert_bytes_string w src dst e none _ c hs he hd]
  rfl
 |some ad=>
  refine run_convert_bytes_back w src dst e ad c l hs he hd fun j hj=>?_
  rcases hr with h|⟨b,o,h,_,hc⟩
  ·have h0:l=[]:=by simpa[Z6]using h
   subst h0
   simp at hj
  ·injection h with h
   subst h
   rw[qaK]
   exact hc j _ (by simp[Z6,XG,hj])
theorem Zp(h:w.ownsRow base e size v n xs)(hn:0<n):∃g c,v=.slice (some ⟨g,0,none⟩) n c/\n<=c:=by
 rcases h.2 with⟨_,h0⟩|⟨g,cap,_,hv,_,_,hc,_⟩
 ·omega
 ·exact⟨g,cap,hv,hc⟩
theorem JZ{A:Option qap}{c:Nat}(h:w.ownsRow base e 1 (.slice A n c) n xs):Rd w w.heap.size A xs:=by
 obtain⟨_,A',c',hv,_,_,hr⟩:=Yx h
 injection hv with h1
 subst h1
 exact hr
theorem ZL{base':Nat}(h:w.ownsRow base e size v n xs)(hb:base'<=base):w.ownsRow base' e size v n xs:=by
 refine⟨h.1,?_⟩
 rcases h.2 with h|⟨g,cap,cur,h1,h2,h3⟩
 ·exact .inl h
 ·exact .inr ⟨g,cap,cur,h1,by omega,h3⟩
theorem own_below{w':qab}(h:w.ownsRow base e size v n xs)(hb:qal w.heap.size w w'):w'.ownsRow base e size v n xs:=
 h.kept (row:=none) ⟨hb.os,hb.tape,hb.output,hb.size,fun k hk _=>hb.block k hk⟩ (by
  cases h':v.ownBlock with
  |none=>exact .inl rfl
  |some k=>exact .inr (by simp))
theorem EB{α:Type}(l:List α)(o:Nat)(d:List α):splice l o d=put l o d:=by simp[splice,put]
theorem RI(l:List UInt8)(o:Nat)(d:List UInt8):Z6 (put l o d)=put (Z6 l) o (Z6 d):=mU _ _ _ _
end
end Go.Proofs.YtmehhgfbnfbnaaaGreat

namespace Go.Proofs.YtmehhgfbnfbnaaaGreat
open Go.RowKit
theorem Wi(n:Int)(w:qab)(h1:1<=n)(h2:n<=8):
  qao Tryz.prog 235 #[n] w fun e w'=>e=.returned (.bool true)/\w=w':=by
 go_enter Tryz.func235,Tryz.ntmps235
 go_wp2
 go_ret
 exact⟨rfl,rfl⟩
theorem Q3(n size:Nat)(w:qab)(_h1:n<18446744073709551616)(hs:1<=size)(hs2:size<=8):
  qao Tryz.prog 236 #[.int .u64 n,size] w fun e w'=>e=.returned (.bool (WB n size))/\w=w':=by
 go_enter Tryz.func236,Tryz.ntmps236
 go_wp2
 go_ret
 exact⟨by rw[<-zh];rfl,rfl⟩
theorem Pm(A:Option qap)(n c:Nat)(at_ size:Int)(w:qab)(h1:1<=size)(h2:size<=8)(h3:0<=at_)(h4:at_<=n-size)(hn:n<=9223372036854775807):
  qao Tryz.prog 258 #[.slice A n c,at_,size] w fun e w'=>e=.returned (.bool true)/\w=w':=by
 go_enter Tryz.func258,Tryz.ntmps258
 go_wp2_with (go_at_call 235;refine(Wi _ _ h1 h2).mono ?_;rintro e w' ⟨rfl,rfl⟩)
 go_ret
 exact⟨rfl,rfl⟩
theorem H6(l:List UInt8)(A:Option qap)(n c:Nat)(B:Nat)(size:Nat)(w:qab)(hn:l.length=n)(hr:Rd w B A (Z6 l))(hs:size<=n)(Lu:size<=8)(hs1:1<=size):
  qao Tryz.prog 257 #[.slice A n c,size] w fun e w'=>e=.returned (.int .u64 (le (l.take size):Nat))/\w=w':=by
 rcases hr with h|⟨b,o,rfl,hb,hc⟩
 ·exfalso;simp[Z6]at h;subst h;simp at hn;omega
 have Hn:=χ hn
 clear hn
 go_enter Tryz.func257,Tryz.ntmps257
 go_wp2
 go_loop [5,8] (fun x k=>∃j:Nat,j<=size/\k=.int .i64 j/\x=.int .u64 (le (l.take j):Nat)) (fun _ k=>size-(intOf k).toNat)
 case atStart=>exact⟨0,qag _,rfl,rfl⟩
 case round=>
  obtain⟨j,hj,rfl,rfl⟩:=hrel
  by_cases hlt:j<size
  ·have hjl:j<l.length:=by have:=Hn.out;omega
   have hcell:w.cell? ⟨b,o+j,none⟩=some (.int .u8 (l[j].toNat:Int)):=hc j _ (by simp[Z6,XG];exact⟨_,qad _,rfl⟩)
   have HS:=χ (zg l j hjl (by omega))
   clear hc
   go_wp2
   go_round
   case rel=>exact⟨j+1,by omega,by go_num,by rw[HS.out]⟩
   case measure=>simp[intOf];omega
  ·go_wp2
   go_ret
   have:j=size:=by omega
   subst this
   exact⟨rfl,rfl⟩
end Go.Proofs.YtmehhgfbnfbnaaaGreat

namespace Go.Proofs.YtmehhgfbnfbnaaaGreat
open Go.RowKit
section
variable {w wr:qab}{g off n j:Nat}{l:List UInt8}
theorem info5:(Tryz.prog.info? 5).map (fun i=>(i.zero,i.size,i.bytes))=some (some (.int .u8 0),1,1):=by kernel_rfl
theorem aau:(Tryz.prog.info? 5).map (·.size)=some 1:=by kernel_rfl
theorem zn(n j:Nat):IntKind.u8.wrap ((n:Int)/2^(8*j))=((qat (n/256^j%256)).toNat:Int):=by
 have e:((n:Int)/2^(8*j))=((n/256^j:Nat):Int):=by rw[<-Vz];simp
 rw[e,IntKind.wrap_u8]
 simp
def SL(w:qab)(g:Nat)(l:List UInt8)(off n j:Nat)(wr:qab):Prop:=
 Bk wr g 5 (Z6 (put l off (YE n j)))/\w.grownBy wr (some g)
theorem J7(h:SL w g l off n j wr)(hj:off+j<l.length):
  SL w g l off n (j+1) (wr.setCell ⟨g,off+j,none⟩ (.int .u8 (IntKind.u8.wrap ((n:Int)/2^(8*j))))):=by
 refine⟨?_,ZT h.2 _ _⟩
 have h1:=h.1.set (off+j) (XG (qat (n/256^j%256)))
 have e:(Z6 (put l off (YE n j))).set (off+j) (XG (qat (n/256^j%256)))=Z6 (put l off (YE n (j+1))):=by
  rw[RI,RI,uq _ _ _ _ _ (by simp[Z4,ZE]) (by simpa[Z4]using hj),zk,Xc]
  rfl
 rw[e]at h1
 rw[zn]
 exact h1
theorem J6(h:SL w g l off n j wr)(hj:off+j<l.length):
  (∃v,wr.cell? ⟨g,off+j,none⟩=some v)/\wr.frozen? ⟨g,off+j,none⟩=false:=by
 refine⟨?_,h.1.frozen _⟩
 rw[h.1.cell]
 have hl:off+j<(Z6 (put l off (YE n j))).length:=by rw[Z4,Um _ _ _ (by rw[ZE];omega)];exact hj
 exact⟨_,qad hl⟩
theorem Qd(l:List UInt8)(g off len cap size n:Nat)(w:qab)(hb:Bk w g 5 (Z6 l))(hl:off+len<=l.length)(hs:size<=len)(Lu:size<=8):
  qao Tryz.prog 237 #[.slice (some ⟨g,off,none⟩) len cap,size,.int .u64 n] w fun e w'=>e=.returned (.tuple #[])/\SL w g l off n size w':=by
 go_enter Tryz.func237,Tryz.ntmps237
 go_wp2
 go_loopw [8] (fun k wr=>∃j:Nat,j<=size/\k=.int .i64 j/\SL w g l off n j wr) (fun k _=>size-(intOf k).toNat)
 case atStart=>exact⟨0,qag _,rfl,by rw[show YE n 0=[]from rfl,mV];exact hb,qam _ _⟩
 case round=>
  obtain⟨j,hj,rfl,hst⟩:=hrel
  by_cases hlt:j<size
  ·have hstep:=J7 hst (by omega)
   obtain⟨⟨v,hcell⟩,hfr⟩:=J6 hst (by omega)
   clear hst
   go_wp2
   go_roundw
   case rel=>exact⟨j+1,by omega,by go_num,hstep⟩
   case measure=>simp[intOf];omega
  ·go_wp2
   go_end0
   obtain rfl:j=size:=by omega
   exact⟨rfl,hst⟩
theorem YD(n:Nat)(h:n<=65536)(u:qab):(qaB 37 (.int .i64 n) (.int .i64 n)).run Tryz.prog u=
  .ok (.slice u.heap.size n n) (u.alloc (.cells (Z6 (qaa n 0)).toArray 5)):=by
 obtain⟨i0,hi,hz0,hz1,hz2⟩:=qaH info5
 have hr:=run_make (P:=Tryz.prog) u 37 5 i0 (.int .u8 0) Tryz.underlying37 hi hz0 .i64 .i64 (n:Int) (n:Int) (by omega) (Int.le_refl _) (by rw[hz2];omega) (by omega)
 have e:(madeCells (qaf.int .u8 0).cells (n*i0.size))=(Z6 (qaa n 0)).toArray:=by
  apply Array.ext'
  rw[hz1,Nat.mul_one]
  have:=toList_madeCells_one (.int .u8 0) n
  simp[Z6,XG]at this⊢
  exact this
 simp only[Int.toNat_natCast,e]at hr
 exact hr
def Ya(l:List UInt8)(size:Nat):List UInt8:=l++qaa (size-l.length) 0
theorem uo(l:List UInt8)(size:Nat):put (qaa size 0) 0 l=Ya l size:=by
 simp[put,Ya]
theorem zi(l:List UInt8):Ya l l.length=l:=by simp[Ya]
theorem Xw(l:List UInt8)(size:Nat)(h:l.length<=size):(Ya l size).length=size:=by simp[Ya];omega
def gz(w:qab)(l:List UInt8)(size:Nat)(w':qab):Prop:=Bk w' w.heap.size 5 (Z6 (Ya l size))/\qal w.heap.size w w'
theorem NQ(l:List UInt8)(A:Option qap)(n c size:Nat)(w:qab)(hn:l.length=n)(hr:Rd w w.heap.size A (Z6 l))(hs:n<=size)(hm:size<=65536):
  qao Tryz.prog 238 #[.slice A n c,size] w fun e w'=>e=.returned (.slice w.heap.size size size)/\gz w l size w':=by
 have hmk:=YD size hm
 have hbk:=Bk.new w 5 (Z6 (qaa size 0))
 have hbel:qal w.heap.size w (w.alloc (.cells (Z6 (qaa size 0)).toArray 5)):=(qah _ _).alloc (qac _) _
 have hsrc:=hr.below hbel
 have H:=χ hbk
 have Hn:=χ hn
 clear hbk hr hn
 go_enter Tryz.func238,Tryz.ntmps238
 go_wp2_with (refine wpList_copy_splice rfl (.tmp 8) (.tmp 9) 37 37 rfl 5 Tryz.underlying37 aau _ _ _ _ _ _ rfl rfl w.heap.size 0 (Z6 (qaa size 0)) 5 H.out (Z6 l) ?c1 ?c2 ?c3 (YC l) w.heap.size w hbel (qac _) ?_)
 case c1=>rw[Z4,Hn.out];exact(qak hs).symm
 case c2=>
  intro hpos
  rcases hsrc with h|⟨b,o,rfl,_,hc⟩
  ·rw[h]at hpos;simp at hpos
  ·exact⟨_,rfl,fun j v hj=>by rw[qaK];exact hc j v hj⟩
 case c3=>rw[Z4,Z4,List.length_replicate,Hn.out];omega
 intro w' hb' aav
 go_wp2
 go_ret
 refine⟨rfl,?_,aav⟩
 have:=hb'.out
 rw[EB,<-RI,uo l size]at this
 exact this
theorem J5(l:List UInt8)(A:Option qap)(n c:Nat)(B:Nat)(at_ size:Nat)(w:qab)(hn:l.length=n)(hr:Rd w B A (Z6 l))(hc:n<=c)(hs:at_+size<=n)(Lu:size<=8)(hs1:1<=size)(hm:n<=9223372036854775807):
  qao Tryz.prog 221 #[.slice A n c,at_,size] w fun e w'=>e=.returned (.tuple #[.int .u64 (le ((l.drop at_).take size):Nat),()])/\w=w':=by
 have hd:=hr.drop (k:=at_) (c:=c) (by rw[Z4];omega) (by rw[Z4];omega)
 rw[<-WW]at hd
 have hd':Rd w B (A.map (·.add at_)) (Z6 (l.drop at_)):=by
  rw[if_neg (by omega)]at hd;exact hd
 have hln:(l.drop at_).length=n-at_:=by rw[List.length_drop,hn]
 have H:=χ hln
 clear hln hn hd hr
 go_enter Tryz.func221,Tryz.ntmps221
 go_wp2_with (first
  |(go_at_call 258;refine(Pm _ _ _ _ _ _ (by omega) (by omega) (by omega) (by omega) hm).mono ?_;rintro e w' ⟨rfl,rfl⟩)
  |(go_at_call 257;refine(H6 (l.drop at_) _ _ _ B size _ H.out hd' (by omega) Lu hs1).mono ?_;rintro e w' ⟨rfl,rfl⟩))
 go_ret2
 exact⟨rfl,rfl⟩
def Made(w:qab)(l:List UInt8)(v:qaf)(w':qab):Prop:=w'.ownsRow w.heap.size 5 1 v l.length (Z6 l)/\qal w.heap.size w w'
theorem J4(l:List UInt8)(A:Option qap)(n c:Nat)(at_ size x:Nat)(w:qab)(hn:l.length=n)(hr:Rd w w.heap.size A (Z6 l))(hs:at_+size<=n)(Lu:size<=8)(hs1:1<=size)(hm:n<=65536)(hx:x<18446744073709551616)(hf:WB x size=true):
  qao Tryz.prog 253 #[.slice A n c,at_,size,.int .u64 x] w fun e w'=>∃v,e=.returned (.tuple #[v,()])/\Made w (put l at_ (YE x size)) v w':=by
 have H:=χ hn
 have Hf:=χ hf
 clear hn hf
 go_enter Tryz.func253,Tryz.ntmps253
 go_wp2_with (first
  |(go_at_call 258;refine(Pm _ _ _ _ _ _ (by omega) (by omega) (by omega) (by omega) (by omega)).mono ?_;rintro e w' ⟨rfl,rfl⟩)
  |(go_at_call 236;refine(Q3 x size _ hx hs1 Lu).mono ?_;rintro e w' ⟨rfl,rfl⟩;rw[Hf.out])
  |(go_at_call 238;refine(NQ l _ _ _ _ _ H.out hr (qac _) hm).mono ?_;rintro e w1 ⟨rfl,hp⟩))
 have hb:=hp.1
 have hbe:=hp.2
 have e:Ya l n=l:=by have:=H.out;subst this;exact zi l
 rw[e]at hb
 clear hp e
 go_wp2_with (first
  |(go_at_call 237;refine(Qd l w.heap.size at_ (n-at_) _ size x _ hb (by have:=H.out;omega) (by omega) Lu).mono ?_;rintro e w2 ⟨rfl,hst⟩))
 go_ret2
 have hl:(put l at_ (YE x size)).length=n:=by rw[Um _ _ _ (by rw[ZE,H.out];omega),H.out]
 refine⟨_,rfl,?_,hbe.trans (XM hst.2 hbe.size (qac _))⟩
 rw[hl]
 exact hst.1.own n (by rw[Z4,hl]) (qac _) (by simp only[maxLen];omega)
theorem Wj(w:qab){ops:Array Oper}{rest:List Oper}{o:Oper}{a:Act}{Q:Exit->Act->qab->Prop}(hgd:o.guard=none)(s x:Operand)(ho:o.op=.call {callee:=.builtin .append,args:=#[s,x],argTypes:=#[37,37]})(base:Nat)(v:qaf)(n:Nat)(l:List UInt8)(hs:a.eval s=v)(hown:w.ownsRow base 5 1 v n (Z6 l))(B:Nat)(A:Option qap)(m c:Nat)(k:List UInt8)(hx:a.eval x=.slice A m c)(hm:k.length=m)(hr:Rd w B A (Z6 k))(hbytes:n+m<=140737488355328)(hbase:base<=w.heap.size)(h:∀v' w',w'.ownsRow base 5 1 v' (n+m) (Z6 (l++k))->w.grownBy w' v.ownBlock->wpList Tryz.prog ops Q rest (a.put o.dst v') w'):wpList Tryz.prog ops Q (o::rest) a w:=by
 obtain⟨i0,hi,hz0,hz1,hz2⟩:=qaH info5
 rw[Xc]at h
 exact Ul w hgd s x 37 ho base 5 i0 _ 1 Tryz.underlying37 hi hz0 hz1 hz2 rfl v n _ hs hown B A m c _ hx (by rw[Z4,hm]) hr (YC _) (by simp only[maxLen];omega) (by omega) hbase h
end
end Go.Proofs.YtmehhgfbnfbnaaaGreat

namespace Go.Proofs.YtmehhgfbnfbnaaaGreat
section
variable {s:Nat × Nat}
def um(s:Nat × Nat)(c:UInt8):Nat × Nat:=((s.1+c.toNat)%65521,(s.2+(s.1+c.toNat)%65521)%65521)
def TU(s:Nat × Nat)(l:List UInt8):Nat × Nat:=l.foldl um s
def uk(s:Nat × Nat):Nat:=s.2*65536+s.1
def BL(n:Nat):Nat × Nat:=(n%65536%65521,n/65536%65521)
def OG(n:Nat)(l:List UInt8):Nat:=uk (TU (BL n) l)
def sumOf(l:List UInt8):Nat:=OG 1 l
def aOk(s:Nat × Nat):Prop:=s.1<65521/\s.2<65521
theorem JX(s:Nat × Nat)(l m:List UInt8):TU s (l++m)=TU (TU s l) m:=by simp[TU]
theorem EC(s:Nat × Nat)(l:List UInt8)(c:UInt8):TU s (l++[c])=um (TU s l) c:=by rw[JX];rfl
theorem uj(s:Nat × Nat)(c:UInt8):aOk (um s c):=⟨qai _ (by decide),qai _ (by decide)⟩
theorem ui(h:aOk s)(l:List UInt8):aOk (TU s l):=by
 induction l generalizing s with
 |nil=>exact h
 |cons c l ih=>exact ih (uj s c)
theorem uh(n:Nat):aOk (BL n):=⟨qai _ (by decide),qai _ (by decide)⟩
theorem ug(h:aOk s):uk s<4294967296:=by
 obtain⟨h1,h2⟩:=h
 unfold uk;omega
theorem ED(n:Nat)(l:List UInt8):OG n l<4294967296:=ug (ui (uh n) l)
end
end Go.Proofs.YtmehhgfbnfbnaaaGreat

namespace Go.Proofs.YtmehhgfbnfbnaaaGreat
open Go
def jumps(l:Nat)(J:Act->qab->Prop)(m:Nat)(K:Act->qab->Prop)(Q:Exit->Act->qab->Prop):Exit->Act->qab->Prop
 | .goto i,a,w=>(i=l/\J a w)\/(i=m/\K a w)
 |e,a,w=>Q e a w
section
variable {P:Program}{a:Act}{w:qab}{Q:Exit->Act->qab->Prop}
theorem VH(l:Nat)(J:Act->qab->Prop)(m:Nat)(K:Act->qab->Prop)(a:Act)(w:qab):jumps l J m K Q .ret a w=Q .ret a w:=rfl
theorem VZ{c r1 r2:Code}(l m:Nat)(J K:Act->qab->Prop)(μ:Act->qab->Nat)(hf1:findLabel c l=some r1)(hf2:findLabel c m=some r2)
  (start:c.wp P (jumps l J m K Q) a w)
  (pass:∀a w,J a w->r1.wp P (jumps l (fun a' w'=>J a' w'/\μ a' w'<μ a w) m K Q) a w)
  (last:∀a w,K a w->r2.wp P (jumps l (fun _ _=>False) m (fun _ _=>False) Q) a w):(Code.scope c).wp P Q a w:=by
 intro b k cs
 have hg1:gotoIn l (.inScope c::k)=some (.code r1:: .inScope c::k):=by simp[gotoIn,hf1]
 have hg2:gotoIn m (.inScope c::k)=some (.code r2:: .inScope c::k):=by simp[gotoIn,hf2]
 have fin:∀a w,K a w->∃e a' w',Q e a' w'/\Arrives P (lone (b.at a (.code r2:: .inScope c::k)) cs w) b k cs e a' w':=by
  intro a w hK
  obtain⟨e,a1,w1,hq,harr⟩:=last a w hK b (.inScope c::k) cs
  cases e with
  |normal=>exact⟨.normal,a1,w1,hq,Steps.trans harr (.one step_inScope)⟩
  |exit id=>exact⟨.exit id,a1,w1,hq,fun k' hk=>harr k' (by simp[exitTo,hk])⟩
  |goto i=>rcases hq with⟨_,h⟩|⟨_,h⟩<;>exact h.elim
  |ret=>exact⟨_,a1,w1,hq,harr⟩
  |panic ch=>exact⟨_,a1,w1,hq,harr⟩
  |outgrown=>exact⟨_,a1,w1,hq,harr⟩
 have key:∀n a w,μ a w=n->J a w->∃e a' w',Q e a' w'/\Arrives P (lone (b.at a (.code r1:: .inScope c::k)) cs w) b k cs e a' w':=by
  intro n
  induction n using Nat.strongRecOn with
  |_ n ih=>
   intro a w hn hJ
   obtain⟨e,a1,w1,hq,harr⟩:=pass a w hJ b (.inScope c::k) cs
   cases e with
   |normal=>exact⟨.normal,a1,w1,hq,Steps.trans harr (.one step_inScope)⟩
   |exit id=>exact⟨.exit id,a1,w1,hq,fun k' hk=>harr k' (by simp[exitTo,hk])⟩
   |goto i=>
    rcases hq with⟨rfl,hJ',hlt⟩|⟨rfl,hK⟩
    ·obtain⟨e2,a2,w2,hq2,NN⟩:=ih _ (by omega) a1 w1 rfl hJ'
     exact⟨e2,a2,w2,hq2,.of_steps (harr _ hg1) NN⟩
    ·obtain⟨e2,a2,w2,hq2,NN⟩:=fin a1 w1 hK
     exact⟨e2,a2,w2,hq2,.of_steps (harr _ hg2) NN⟩
   |ret=>exact⟨_,a1,w1,hq,harr⟩
   |panic ch=>exact⟨_,a1,w1,hq,harr⟩
   |outgrown=>exact⟨_,a1,w1,hq,harr⟩
 obtain⟨e,a1,w1,hq,harr⟩:=start b (.inScope c::k) cs
 cases e with
 |normal=>exact⟨.normal,a1,w1,hq,.head qas (Steps.trans harr (.one step_inScope))⟩
 |exit id=>exact⟨.exit id,a1,w1,hq,fun k' hk=>.head qas (harr k' (by simp[exitTo,hk]))⟩
 |goto i=>
  rcases hq with⟨rfl,hJ'⟩|⟨rfl,hK⟩
  ·obtain⟨e2,a2,w2,hq2,NN⟩:=key _ a1 w1 rfl hJ'
   exact⟨e2,a2,w2,hq2,.of_steps (.head qas (harr _ hg1)) NN⟩
  ·obtain⟨e2,a2,w2,hq2,NN⟩:=fin a1 w1 hK
   exact⟨e2,a2,w2,hq2,.of_steps (.head qas (harr _ hg2)) NN⟩
 |ret=>exact⟨_,a1,w1,hq,.of_steps (.one qas) harr⟩
 |panic ch=>exact⟨_,a1,w1,hq,.of_steps (.one qas) harr⟩
 |outgrown=>exact⟨_,a1,w1,hq,.of_steps (.one qas) harr⟩
end
end Go.Proofs.YtmehhgfbnfbnaaaGreat

namespace Go.Proofs.YtmehhgfbnfbnaaaGreat
open Go.RowKit
def uw(w:qab)(s:Nat)(A:Option qap)(n c:Nat)(l:List UInt8)(k:Nat)(a:Act)(w':qab):Prop:=
 w'=w/\∃(lo hi:Nat)(u8 u9 Pn Qe zq Mv ng mZ u16 mY mX mW u20 u21 u22 u23 u24 u25 u26 u27 u28 u29 u30 u31:qaf),a={tmps:=#[.int .u32 s,.slice A n c,undef,undef,.int .u32 0,.int .u32 (lo:Nat),.int .u32 (hi:Nat),.int .i64 (k:Nat),u8,u9,Pn,Qe,zq,Mv,ng,mZ,u16,mY,mX,mW,u20,u21,u22,u23,u24,u25,u26,u27,u28,u29,u30,u31,undef,undef,undef,undef],defers:=[]}/\lo<65521/\hi<65521/\TU (BL s) (l.take k)=(lo,hi)
theorem NR{s:Nat × Nat}{l:List UInt8}{k lo hi:Nat}(h:TU s (l.take k)=(lo,hi)){x:UInt8}(hx:l[k]? =some x):
  TU s (l.take (k+1))=((lo+x.toNat)%65521,(hi+(lo+x.toNat)%65521)%65521):=by
 obtain⟨hk,rfl⟩:=qaj.1 hx
 rw[qae hk,EC,h];rfl
theorem uu(l:List UInt8)(A:Option qap)(n c B:Nat)(s:Nat)(w:qab)(hs:s<4294967296)(hn:l.length=n)(hr:Rd w B A (Z6 l))(hm:n<=9223372036854775807):
  qao Tryz.prog 262 #[.int .u32 s,.slice A n c] w fun e w'=>e=.returned (.int .u32 (OG s l:Nat))/\w=w':=by
 have Hn:=χ hn
 clear hn
 have hcells:∀k,k<n->∃(x:UInt8)(b o:Nat),A=some ⟨b,o,none⟩/\l[k]? =some x/\w.cell? ⟨b,o+k,none⟩=some (.int .u8 x.toNat)/\(x.toNat:Int)<256:=fun k hk=>by
  have hkl:k<l.length:=by rw[Hn.out];exact hk
  rcases hr with h|⟨b,o,rfl,hb,hc⟩
  ·exfalso;have:=congrArg qaJ h;rw[Z4]at this;simp at this;simp[this]at hkl
  ·exact⟨l[k],b,o,rfl,qad hkl,hc k _ (by simp[Z6,XG];exact⟨_,qad _,rfl⟩),by have:=l[k].toNat_lt;omega⟩
 have Hc:=χ hcells
 clear hcells
 go_enter Tryz.func262,Tryz.ntmps262
 go_wp2
 have hp1:s%65536%65521<65521:=qai _ (by decide)
 have hp2:s/65536%65521<65521:=qai _ (by decide)
 have Hz:=χ (show TU (BL s) (l.take 0)=(s%65536%65521,s/65536%65521)from rfl)
 refine VZ 1 0 (fun a w'=>∃k:Nat,k<=n/\uw w s A n c l k a w') (fun a w'=>uw w s A n c l n a w') (fun a _=>n-(intOf (a.tmps.getD 7 undef)).toNat) rfl rfl ?_ ?_ ?_
 ·go_wp2
  go_step3
  have el:(s:Int)%65536%65521=((s%65536%65521:Nat):Int):=rfl
  have eh:(s:Int)/65536%65521=((s/65536%65521:Nat):Int):=rfl
  rw[el,eh]
  clear el eh
  generalize s%65536%65521=lo at*
  generalize s/65536%65521=hi at*
  by_cases hlt:0<n
  ·obtain⟨x,b,o,rfl,hx,hcell,hx256⟩:=Hc.out 0 hlt
   have hx0:0<=(x.toNat:Int):=by omega
   have Hx:=χ hx
   clear hx
   have hne:((0:Int)==(n:Int))=false:=beq_eq_false_iff_ne.2 (by omega)
   rw[Nat.add_zero]at hcell
   go_wp2
   go_step3
   exact .inl ⟨rfl,1,hlt,rfl,(lo+x.toNat)%65521,(hi+(lo+x.toNat)%65521)%65521,_,_,_,_,_,_,_,_,_,_,_,_,_,_,_,_,_,_,_,_,_,_,_,_,rfl,qai _ (by decide),qai _ (by decide),NR Hz.out Hx.out⟩
  ·obtain rfl:n=0:=by omega
   go_wp2
   go_step3
   exact .inr ⟨rfl,rfl,_,_,_,_,_,_,_,_,_,_,_,_,_,_,_,_,_,_,_,_,_,_,_,_,_,_,rfl,hp1,hp2,Hz.out⟩
 ·rintro a w' ⟨k,hk,rfl,lo,hi,u8,u9,Pn,Qe,zq,Mv,ng,mZ,u16,mY,mX,mW,u20,u21,u22,u23,u24,u25,u26,u27,u28,u29,u30,u31,rfl,hlo,hhi,hsum⟩
  have Hs:=χ hsum
  clear hsum
  by_cases hlt:k<n
  ·obtain⟨x,b,o,rfl,hx,hcell,hx256⟩:=Hc.out k hlt
   have hx0:0<=(x.toNat:Int):=by omega
   have Hx:=χ hx
   clear hx
   have hne:((k:Int)==(n:Int))=false:=beq_eq_false_iff_ne.2 (by omega)
   go_wp2
   go_step3
   exact .inl ⟨rfl,⟨k+1,hlt,rfl,(lo+x.toNat)%65521,(hi+(lo+x.toNat)%65521)%65521,_,_,_,_,_,_,_,_,_,_,_,_,_,_,_,_,_,_,_,_,_,_,_,_,rfl,qai _ (by decide),qai _ (by decide),NR Hs.out Hx.out⟩,by simp[intOf];omega⟩
  ·obtain rfl:k=n:=by omega
   go_wp2
   go_step3
   exact .inr ⟨rfl,rfl,_,_,_,_,_,_,_,_,_,_,_,_,_,_,_,_,_,_,_,_,_,_,_,_,_,_,rfl,hlo,hhi,Hs.out⟩
 ·rintro a w' ⟨rfl,lo,hi,u8,u9,Pn,Qe,zq,Mv,ng,mZ,u16,mY,mX,mW,u20,u21,u22,u23,u24,u25,u26,u27,u28,u29,u30,u31,rfl,hlo,hhi,hsum⟩
  have Hs:=χ hsum
  clear hsum
  go_wp2
  rw[VH]
  go_ret
  refine⟨?_,rfl⟩
  have h:=Hs.out
  rw[qay (by rw[Hn.out];omega)]at h
  unfold OG
  rw[h]
  show Ending.returned (.int .u32 (bits .or .u32 ((hi:Int)*65536) lo))=Ending.returned (.int .u32 ((hi*65536+lo:Nat):Int))
  have:=u32_or_nat (hi*65536) lo (by omega) (by omega)
  rw[nat_join 16 _ _ (by omega) (by omega)]at this
  rw[<-this];rfl
theorem gD(l:List UInt8)(A:Option qap)(n c B:Nat)(w:qab)(hn:l.length=n)(hr:Rd w B A (Z6 l))(hm:n<=9223372036854775807):
  qao Tryz.prog 240 #[.slice A n c] w fun e w'=>e=.returned (.int .u32 (sumOf l:Nat))/\w=w':=by
 have Hn:=χ hn
 clear hn
 go_enter Tryz.func240,Tryz.ntmps240
 go_wp2_with (go_at_call 262;refine(uu l A n c B 1 _ (by omega) Hn.out hr hm).mono ?_;rintro e w' ⟨rfl,rfl⟩)
 go_ret
 exact⟨rfl,rfl⟩
end Go.Proofs.YtmehhgfbnfbnaaaGreat

namespace Go.Proofs.YtmehhgfbnfbnaaaGreat
open Go.RowKit
theorem RJ(l:List UInt8)(ad:qap)(n c:Nat)(w:qab)(hn:l.length=n)(hr:Rd w w.heap.size (some ad) (Z6 l))(hm:n<=140737488355328):
  qao Tryz.prog 232 #[.slice (some ad) n c] w fun e w'=>∃v,e=.returned v/\w'.ownsRow w.heap.size 5 1 v n (Z6 l)/\qal w.heap.size w w':=by
 have Hn:=χ hn
 clear hn
 have hne:=fun(u:qab)=>Lib.run_eql_slice_nil (P:=Tryz.prog) u 37 5 ad n c 0 0 Tryz.underlying37
 have uB:(w.alloc (.cells #[] 5)).ownsRow w.heap.size 5 1 (.slice w.heap.size 0 0) 0 (Z6 []):=qab.ownsRow_lit w #[] 0 (qac _) (qag _) rfl
 have hr1:=hr.below ((qah _ w).alloc (qac _) (.cells #[] 5))
 go_enter Tryz.func232,Tryz.ntmps232
 go_wp2_with (at_builtin;refine Wj _ rfl (.tmp 5) (.tmp 6) rfl w.heap.size _ 0 [] rfl uB w.heap.size (some ad) n c l rfl Hn.out hr1 (by omega) (by simp) ?_;intro v w1 hown hgrow)
 go_ret
 rw[Nat.zero_add,List.nil_append]at hown
 exact⟨_,rfl,hown,((qah _ w).alloc (qac _) _).grown hgrow (by simp) (fun k hk=>(uB.lt k hk).1)⟩
theorem uz(n:Nat)(w:qab)(ty:qaq)(h0:0<n)(hm:n<=140737488355328):
  ∃c' w',(qar #[37,3] ty #[.slice none 0 0,n]).run Tryz.prog w=.ok (.slice w.heap.size n c') w'/\n<=c'/\c'<=maxLen/\
   w'.ownsRow w.heap.size 5 1 (.slice w.heap.size 0 c') 0 []/\qal w.heap.size w w':=by
 obtain⟨i0,hi,hz0,hz1,hz2⟩:=qaH info5
 have hc:=grownCap_ge w n 0 5
 have hcm:=grownCap_le_maxLen w n 0 5 (by simp only[maxLen];omega)
 refine⟨_,_,Lib.run_append_nil_zeros w 37 3 ty 5 i0 _ .i64 .i64 Tryz.underlying37 Tryz.underlying3 hi hz0 n h0 (by omega) (by omega) (by rw[hz2];omega),hc,hcm,?_,?_⟩
 ·exact qab.ownsRow_made w.drew _ _ (qac _) hcm (by simp[Builtin.zeroCells,qaf.cells];omega)
 ·exact(qah _ _).drew.alloc (qac _) _
theorem zt(n:Nat)(w:qab)(hm:n<=140737488355328):
  qao Tryz.prog 239 #[.slice none 0 0,n] w fun e w'=>∃v,e=.returned v/\w'.ownsRow w.heap.size 5 1 v 0 []/\qal w.heap.size w w':=by
 by_cases h0:0<n
 ·obtain⟨c',w1,hrun,hc1,hc2,hown,hbel⟩:=uz n w 37 h0 hm
  unfold maxLen at hc2
  go_enter Tryz.func239,Tryz.ntmps239
  go_wp2_with (at_builtin;refine Lib.wpList_append_run _ rfl _ _ _ _ rfl _ _ rfl rfl _ _ hrun ?_)
  go_ret
  exact⟨_,rfl,hown,hbel⟩
 ·obtain rfl:n=0:=by omega
  go_enter Tryz.func239,Tryz.ntmps239
  go_wp2
  go_ret
  exact⟨_,rfl,qab.ownsRow_nil _ _ _ _,qah _ _⟩
def Part(w:qab)(p:qaf × List UInt8):Prop:=∃A n c,p.1=.slice A n c/\p.2.length=n/\n<=c/\Rd w w.heap.size A (Z6 p.2)
def total(ps:List (qaf × List UInt8)):List UInt8:=ps.flatMap (·.2)
theorem NS(ps:List (qaf × List UInt8))(k:Nat)(p:qaf × List UInt8)(h:ps[k]? =some p):total (ps.take (k+1))=total (ps.take k)++p.2:=by
 obtain⟨hk,rfl⟩:=qaj.1 h
 rw[qae hk,total,List.flatMap_append]
 simp[total]
theorem uy(ps:List (qaf × List UInt8))(k:Nat):(total (ps.take k)).length<=(total ps).length:=by
 have:total ps=total (ps.take k)++total (ps.drop k):=by
  unfold total;rw[<-List.flatMap_append,qaN]
 rw[this,qaD];omega
theorem NT(ps:List (qaf × List UInt8))(A:Option qap)(m c:Nat)(w:qab)(hlen:ps.length=m)(hr:Rd w w.heap.size A (ps.map (·.1)))(hp:∀p∈ps,Part w p)
  (ht:(total ps).length<=140737488355328)(hm:m<=9223372036854775807):
  qao Tryz.prog 187 #[.slice A m c] w fun e w'=>∃v,e=.returned v/\w'.ownsRow w.heap.size 5 1 v (total ps).length (Z6 (total ps))/\qal w.heap.size w w':=by
 have hcells:∀k,k<m->∃(p:qaf × List UInt8)(b o:Nat)(A':Option qap)(n' c':Nat),A=some ⟨b,o,none⟩/\b<w.heap.size/\ps[k]? =some p/\w.cell? ⟨b,o+k,none⟩=some (.slice A' n' c')/\p.2.length=n'/\n'<=c'/\Rd w w.heap.size A' (Z6 p.2):=fun k hk=>by
  have hkl:k<ps.length:=by omega
  obtain⟨A',n',c',h1,h2,h3,h4⟩:=hp ps[k] (qan hkl)
  rcases hr with h|⟨b,o,rfl,hb,hc⟩
  ·exfalso;have:=congrArg qaJ h;simp at this;simp[this]at hkl
  ·exact⟨ps[k],b,o,A',n',c',rfl,hb,qad hkl,by rw[<-h1];exact hc k _ (by simp[hkl]),h2,h3,h4⟩
 have Hc:=χ hcells
 have Hl:=χ hlen
 have Ht:=χ (fun k=>uy ps k)
 clear hcells hlen hp hr
 go_enter Tryz.func187,Tryz.ntmps187
 go_wp2
 go_loop [3,11] (fun x i=>∃k:Nat,k<=m/\i=.int .i64 k/\x=.int .i64 ((total (ps.take k)).length:Nat)) (fun _ i=>m-(intOf i).toNat)
 case atStart=>exact⟨0,qag _,rfl,rfl⟩
 case round=>
  obtain⟨k,hk,rfl,rfl⟩:=hrel
  have hle:=Ht.out k
  by_cases hlt:k<m
  ·obtain⟨p,b,o,A',n',c',rfl,hb,hx,hcell,hn',hcap,iy⟩:=Hc.out k hlt
   have hts:=NS ps k p hx
   have hle1:=Ht.out (k+1)
   have hsum:(total (ps.take (k+1))).length=(total (ps.take k)).length+n':=by rw[hts,qaD,hn']
   have Hs:=χ hsum
   have hn1:(total (ps.take k)).length+n'<=(total ps).length:=by omega
   clear hsum hts hx hn' hle1
   go_wp2
   go_round
   case rel=>exact⟨k+1,hlt,by go_num,by rw[Hs.out];go_num⟩
   case measure=>simp[intOf];omega
  ·obtain rfl:k=m:=by omega
   go_wp2_with (go_at_call 239;refine(zt (total (ps.take k)).length _ (by omega)).mono ?_;rintro e w1 ⟨v,rfl,hown,hb1⟩)
   have hown0:w1.ownsRow w.heap.size 5 1 v (total (ps.take 0)).length (Z6 (total (ps.take 0))):=hown
   clear hown
   obtain⟨wo,rfl⟩:∃wo:qab,wo=w:=⟨_,rfl⟩
   go_loopw [6,27] (fun x i wr=>∃j:Nat,j<=k/\i=.int .i64 j/\wr.ownsRow wo.heap.size 5 1 x (total (ps.take j)).length (Z6 (total (ps.take j)))/\qal wo.heap.size wo wr) (fun _ i _=>k-(intOf i).toNat)
   case atStart=>exact⟨0,qag _,rfl,hown0,hb1⟩
   case round=>
    obtain⟨j,hj,rfl,hown,hbel⟩:=hrel
    by_cases hlt2:j<k
    ·obtain⟨p,b,o,A',n',c',rfl,hb,hx,hcell,hn',hcap,iy⟩:=Hc.out j hlt2
     have hts:=NS ps j p hx
     have hle1:=Ht.out (j+1)
     have hsum:(total (ps.take (j+1))).length=(total (ps.take j)).length+n':=by rw[hts,qaD,hn']
     have Hts:=χ hts
     have Hs:=χ hsum
     have Hn:=χ hn'
     have hcell1:=(hbel.cell (p:=⟨b,o+j,none⟩) hb).trans hcell
     have iw:=iy.below hbel
     have hsz:=hbel.size
     have hn1:(total (ps.take j)).length+n'<=140737488355328:=by omega
     clear hsum hts hx hn' hle1 hcell iy
     go_wp2_with (at_builtin;refine Wj _ rfl (.tmp 31) (.tmp 32) rfl wo.heap.size _ (total (ps.take j)).length (total (ps.take j)) rfl hown wo.heap.size A' n' c' p.2 rfl Hn.out iw (by omega) hsz ?_;intro v2 w2 hown2 hgrow2)
     go_roundw
     case rel=>exact⟨j+1,hlt2,by go_num,by rw[Hs.out,Hts.out];exact hown2,hbel.grown hgrow2 (by omega) (fun g hg=>(hown.lt g hg).1)⟩
     case measure=>simp[intOf];omega
    ·obtain rfl:j=k:=by omega
     go_wp2
     go_ret
     rw[qay (by rw[Hl.out];omega)]at hown
     exact⟨_,rfl,hown,hbel⟩
end Go.Proofs.YtmehhgfbnfbnaaaGreat

namespace Go.Proofs.YtmehhgfbnfbnaaaGreat
open Go.RowKit
section
variable {g:Nat}{w w':qab}
def Qc(w:qab)(g size:Nat)(L:List Nat)(j:Nat)(wr:qab):Prop:=Bk wr g 5 (Z6 (filled size L j))/\w.grownBy wr (some g)
theorem Ey{a b c:qab}(h:a.grownBy b (some g))(k:b.grownBy c (some g)):a.grownBy c (some g):=
 ⟨k.os.trans h.os,k.tape.trans h.tape,k.output.trans h.output,qaE h.size k.size,fun i hi hne=>(k.block i (Nat.lt_of_lt_of_le hi h.size) hne).trans (h.block i hi hne)⟩
theorem Pj{wr:qab}{size:Nat}{L:List Nat}{j:Nat}(hj:j<L.length)(h:Qc w g size L j wr)(h':SL wr g (filled size L j) (j*size) L[j] size w'):
  Qc w g size L (j+1) w':=by
 refine⟨?_,Ey h.2 h'.2⟩
 have:=h'.1
 rw[Ho size L j hj]at this
 exact this
theorem Tm{B:Nat}{A:Option qap}{xs:List qaf}(h:Rd w B A xs)(hb:w.grownBy w' (some g))(hB:B<=w.heap.size)(hg:B<=g):Rd w' B A xs:=
 h.keep fun p hp=>qab.cell?_of_block (hb.block p.block (by omega) (by intro e;injection e;omega))
theorem NU(L:List Nat)(A:Option qap)(n c size:Nat)(w:qab)(hn:L.length=n)(hr:Rd w w.heap.size A (Zg L))(Lu:size<=8)(hs1:1<=size)(hL:∀x∈L,x<18446744073709551616)(hf:∀x∈L,WB x size=true)(hm:n*size<=4096):
  qao Tryz.prog 185 #[size,.slice A n c] w fun e w'=>∃v,e=.returned (.tuple #[v,()])/\Made w (Y0 size L) v w':=by
 have hq:¬ ((4096:Int)/(size:Int)<(n:Int)):=by
  have:(n:Int)<=4096/(size:Int):=qaQ (by omega) (by omega)
  omega
 have hmi:(n:Int)*(size:Int)<=4096:=by omega
 have hn4:n<=4096:=qaE (qav n (by omega)) hm
 have hmk:∀u:qab,(qaB 37 (.int .i64 ((n:Int)*(size:Int))) (.int .i64 ((n:Int)*(size:Int)))).run Tryz.prog u=
  .ok (.slice u.heap.size (n*size) (n*size)) (u.alloc (.cells (Z6 (qaa (n*size) 0)).toArray 5)):=fun u=>by
   have:=YD (n*size) (by omega) u
   rw[qaz]at this
   exact this
 have hbk:=Bk.new w 5 (Z6 (qaa (n*size) 0))
 have hbel:qal w.heap.size w (w.alloc (.cells (Z6 (qaa (n*size) 0)).toArray 5)):=(qah _ _).alloc (qac _) _
 have hsrc:=hr.below hbel
 obtain⟨z,hz⟩:∃z,z=(Z6 (qaa (n*size) 0)).toArray:=⟨_,rfl⟩
 unfold Bk at hbk
 rw[<-hz]at hmk hbk hbel hsrc
 have Q0:Qc (w.alloc (.cells z 5)) w.heap.size size L 0 (w.alloc (.cells z 5)):=⟨by unfold Bk;rw[Pk,hn,hbk,hz],qam _ _⟩
 have Hn:=χ hn
 clear hn hbk hz hr
 go_enter Tryz.func185,Tryz.ntmps185
 go_wp2_with (go_at_call 235;refine(Wi _ _ (by omega) (by omega)).mono ?_;rintro e w' ⟨rfl,rfl⟩)
 go_loopw [24] (fun k wr=>∃j:Nat,j<=n/\k=.int .i64 j/\Qc (w.alloc (.cells z 5)) w.heap.size size L j wr) (fun k _=>n-(intOf k).toNat)
 case atStart=>exact⟨0,qag _,rfl,Q0⟩
 case round=>
  obtain⟨j,hj,rfl,hst⟩:=hrel
  by_cases hlt:j<n
  ·have hjl:j<L.length:=by have:=Hn.out;omega
   have hgt:¬ ((n:Int)<=j):=by omega
   rcases Tm hsrc hst.2 (by simp) (qac _)with h|⟨b,o,rfl,hb,hc⟩
   ·exfalso;have:=congrArg qaJ h;rw[WN]at this;simp at this;simp[this]at hjl
   have hcell:wr.cell? ⟨b,o+j,none⟩=some (.int .u64 (L[j]:Int)):=hc j _ (by simp[Zg,Qf];exact⟨_,qad _,rfl⟩)
   have Hf:=χ (hf L[j] (qan hjl))
   have hx:=hL L[j] (qan hjl)
   have hjm:(j:Int)*(size:Int)+size<=(n:Int)*(size:Int):=by
    have:(j+1)*size<=n*size:=qaA _ (by omega)
    rw[qau]at this
    omega
   have hj0:0<=(j:Int)*(size:Int):=by have:=qag (j*size);omega
   have hne:¬ (n*size=j*size):=by omega
   have HS:=χ (fun w'=>Pj (w':=w') hjl hst)
   have hb1:=hst.1
   have hlf:(filled size L j).length=n*size:=by rw[R4 _ _ _ (by omega),Hn.out]
   have Hlf:=χ hlf
   obtain⟨x,hxe⟩:∃x,x=L[j]:=⟨_,rfl⟩
   rw[<-hxe]at hcell Hf hx HS
   clear hc hst hlf hxe
   go_wp2_with (first
    |(go_at_call 236;refine(Q3 x size _ hx hs1 Lu).mono ?_;rintro e w' ⟨rfl,rfl⟩;rw[Hf.out])
    |(go_at_call 237;refine(Qd (filled size L j) w.heap.size (j*size) (n*size-j*size) _ size x _ hb1 (by rw[Hlf.out];omega) (by omega) Lu).mono ?_;rintro e w2 ⟨rfl,hst⟩;have fZ:=HS.out _ hst;clear hst hb1))
   go_roundw
   case rel=>exact⟨j+1,by omega,by go_num,fZ⟩
   case measure=>simp[intOf];omega
  ·have hgt:(n:Int)<=j:=by omega
   go_wp2
   go_ret2
   obtain rfl:j=L.length:=by have:=Hn.out;omega
   have hb:=hst.1
   rw[EA]at hb
   refine⟨_,rfl,?_,hbel.trans (XM hst.2 hbel.size (qac _))⟩
   rw[ZA,Hn.out]
   exact hb.own (n*size) (by rw[Z4,ZA,Hn.out]) (qac _) (by simp only[maxLen];omega)
theorem uf(A:Option qap)(n c size:Nat)(w:qab)(Lu:size<=8)(hs1:1<=size)(hm:¬ (n*size<=4096)):
  qao Tryz.prog 185 #[size,.slice A n c] w fun e w'=>e=.returned (.tuple #[.slice none 0 0,.int .i64 4])/\w=w':=by
 have hq:(4096:Int)/(size:Int)<(n:Int):=Int.ediv_lt_of_lt_mul (by omega) (by omega)
 clear hm
 go_enter Tryz.func185,Tryz.ntmps185
 go_wp2_with (go_at_call 235;refine(Wi _ _ (by omega) (by omega)).mono ?_;rintro e w' ⟨rfl,rfl⟩)
 go_ret2
 exact⟨rfl,rfl⟩
theorem tZ(L:List Nat)(A:Option qap)(n c size:Nat)(w:qab)(hn:L.length=n)(hr:Rd w w.heap.size A (Zg L))(Lu:size<=8)(hs1:1<=size)(hL:∀x∈L,x<18446744073709551616)(hf:L.all (WB · size)=false)(hm:n*size<=4096):
  qao Tryz.prog 185 #[size,.slice A n c] w fun e w'=>e=.returned (.tuple #[.slice none 0 0,.int .i64 4])/\qal w.heap.size w w':=by
 have hq:¬ ((4096:Int)/(size:Int)<(n:Int)):=by
  have:(n:Int)<=4096/(size:Int):=qaQ (by omega) (by omega)
  omega
 have hmi:(n:Int)*(size:Int)<=4096:=by omega
 have hn4:n<=4096:=qaE (qav n (by omega)) hm
 have hmk:∀u:qab,(qaB 37 (.int .i64 ((n:Int)*(size:Int))) (.int .i64 ((n:Int)*(size:Int)))).run Tryz.prog u=
  .ok (.slice u.heap.size (n*size) (n*size)) (u.alloc (.cells (Z6 (qaa (n*size) 0)).toArray 5)):=fun u=>by
   have:=YD (n*size) (by omega) u
   rw[qaz]at this
   exact this
 have hbk:=Bk.new w 5 (Z6 (qaa (n*size) 0))
 have hbel:qal w.heap.size w (w.alloc (.cells (Z6 (qaa (n*size) 0)).toArray 5)):=(qah _ _).alloc (qac _) _
 have hsrc:=hr.below hbel
 obtain⟨z,hz⟩:∃z,z=(Z6 (qaa (n*size) 0)).toArray:=⟨_,rfl⟩
 unfold Bk at hbk
 rw[<-hz]at hmk hbk hbel hsrc
 have Q0:Qc (w.alloc (.cells z 5)) w.heap.size size L 0 (w.alloc (.cells z 5)):=⟨by unfold Bk;rw[Pk,hn,hbk,hz],qam _ _⟩
 have Hn:=χ hn
 have Hnf:=χ hf
 clear hn hbk hz hr hf
 go_enter Tryz.func185,Tryz.ntmps185
 go_wp2_with (go_at_call 235;refine(Wi _ _ (by omega) (by omega)).mono ?_;rintro e w' ⟨rfl,rfl⟩)
 go_loopw [24] (fun k wr=>∃j:Nat,j<=n/\k=.int .i64 j/\Hid ((L.take j).all (WB · size)=true)/\Qc (w.alloc (.cells z 5)) w.heap.size size L j wr) (fun k _=>n-(intOf k).toNat)
 case atStart=>exact⟨0,qag _,rfl,(rfl:([]:List Nat).all (WB · size)=true),Q0⟩
 case round=>
  obtain⟨j,hj,rfl,tY,hst⟩:=hrel
  by_cases hlt:j<n
  ·have hjl:j<L.length:=by have:=Hn.out;omega
   have hgt:¬ ((n:Int)<=j):=by omega
   rcases Tm hsrc hst.2 (by simp) (qac _)with h|⟨b,o,rfl,hb,hc⟩
   ·exfalso;have:=congrArg qaJ h;rw[WN]at this;simp at this;simp[this]at hjl
   have hcell:wr.cell? ⟨b,o+j,none⟩=some (.int .u64 (L[j]:Int)):=hc j _ (by simp[Zg,Qf];exact⟨_,qad _,rfl⟩)
   have hx:=hL L[j] (qan hjl)
   have hjm:(j:Int)*(size:Int)+size<=(n:Int)*(size:Int):=by
    have:(j+1)*size<=n*size:=qaA _ (by omega)
    rw[qau]at this
    omega
   have hj0:0<=(j:Int)*(size:Int):=by have:=qag (j*size);omega
   have hne:¬ (n*size=j*size):=by omega
   have HS:=χ (fun w'=>Pj (w':=w') hjl hst)
   have hb1:=hst.1
   have hbe:=hbel.trans (XM hst.2 hbel.size (qac _))
   have hlf:(filled size L j).length=n*size:=by rw[R4 _ _ _ (by omega),Hn.out]
   have Hlf:=χ hlf
   have Wy:Hid (WB L[j] size=true->(L.take (j+1)).all (WB · size)=true):=fun h=>by
    rw[qae hjl,List.all_append,tY.out]
    simpa using h
   obtain⟨x,hxe⟩:∃x,x=L[j]:=⟨_,rfl⟩
   rw[<-hxe]at hcell hx HS Wy
   clear hc hst hlf hxe
   by_cases hfx:WB x size=true
   ·have Hf:=χ hfx
    clear hfx
    go_wp2_with (first
     |(go_at_call 236;refine(Q3 x size _ hx hs1 Lu).mono ?_;rintro e w' ⟨rfl,rfl⟩;rw[Hf.out])
     |(go_at_call 237;refine(Qd (filled size L j) w.heap.size (j*size) (n*size-j*size) _ size x _ hb1 (by rw[Hlf.out];omega) (by omega) Lu).mono ?_;rintro e w2 ⟨rfl,hst⟩;have fZ:=HS.out _ hst;clear hst hb1))
    go_roundw
    case rel=>exact⟨j+1,by omega,by go_num,Wy.out Hf.out,fZ⟩
    case measure=>simp[intOf];omega
   ·have Hf:=χ (show WB x size=false by simpa using hfx)
    clear hfx
    go_wp2_with (first
     |(go_at_call 236;refine(Q3 x size _ hx hs1 Lu).mono ?_;rintro e w' ⟨rfl,rfl⟩;rw[Hf.out]))
    go_ret2
    exact⟨rfl,hbe⟩
  ·exfalso
   obtain rfl:j=L.length:=by have:=Hn.out;omega
   have h1:=tY.out
   have h2:=Hnf.out
   rw[List.take_length]at h1
   rw[h1]at h2
   cases h2
def mQ(size:Nat)(L:List Nat)(w:qab)(e:Ending)(w':qab):Prop:=
 (Ez size L=true->∃v,e=.returned (.tuple #[v,()])/\Made w (Y0 size L) v w')/\
 (Ez size L=false->e=.returned (.tuple #[.slice none 0 0,.int .i64 4])/\qal w.heap.size w w')
theorem Ko(L:List Nat)(A:Option qap)(n c size:Nat)(w:qab)(hn:L.length=n)(hr:Rd w w.heap.size A (Zg L))(Lu:size<=8)(hs1:1<=size)(hL:∀x∈L,x<18446744073709551616):
  qao Tryz.prog 185 #[size,.slice A n c] w fun e w'=>mQ size L w e w':=by
 by_cases hm:n*size<=4096
 ·cases hf:L.all (WB · size)with
  |true=>
   refine(NU L A n c size w hn hr Lu hs1 hL (by simpa using hf) hm).mono fun e w' h=>⟨fun _=>h,fun h'=>?_⟩
   rw[Ez,hf,hn]at h'
   simp[hm]at h'
  |false=>
   refine(tZ L A n c size w hn hr Lu hs1 hL hf hm).mono fun e w' h=>⟨fun h'=>?_,fun _=>h⟩
   rw[Ez,hf]at h'
   simp at h'
 ·refine(uf A n c size w Lu hs1 hm).mono fun e w' h=>⟨fun h'=>?_,fun _=>⟨h.1,h.2▸qah _ _⟩⟩
  rw[Ez,hn]at h'
  simp[hm]at h'
end
end Go.Proofs.YtmehhgfbnfbnaaaGreat

namespace Go.Proofs.YtmehhgfbnfbnaaaGreat
open Go
section
variable {P:Program}{md:Region.Mode}{ops:Array Oper}{Q:Exit->Act->qab->Prop}{S T:qab->Prop}
end
end Go.Proofs.YtmehhgfbnfbnaaaGreat

namespace Go.Proofs.YtmehhgfbnfbnaaaGreat
open Go.RowKit
section
variable {w:qab}{B:Nat}
theorem VB{A:Option qap}{n c:Nat}{l:List UInt8}(hn:l.length=n)(hr:Rd w B A (Z6 l)):(convert 37 9 (.slice A n c)).run Tryz.prog w=.ok (.string ⟨l.toArray⟩) w:=
 BM w 37 9 5 Tryz.underlying37 Tryz.underlying5 Tryz.underlying9 B A n c l hn hr
theorem below_drewN{a:qab}(h:qal B a w)(n:Nat):qal B a (w.drewN n):=⟨h.os,h.tape,h.output,h.size,h.block⟩
def UQ(l:List UInt8):List UInt8:=l++YE (sumOf l) 4
theorem UO(l:List UInt8):(UQ l).length=l.length+4:=by simp[UQ,ZE]
theorem uE(l:List UInt8):sumOf l<4294967296:=ED 1 l
theorem Ia(l:List UInt8)(A:Option qap)(n c:Nat)(w:qab)(hn:l.length=n)(hr:Rd w w.heap.size A (Z6 l))(hc:n<=c)(hm:n<=140737488355320):
  qao Tryz.prog 188 #[.slice A n c] w fun e w'=>∃v,e=.returned v/\Made w (UQ l) v w':=by
 have hlt:=uE l
 have hf:∀x∈[sumOf l],WB x 4=true:=by
  intro x hx
  simp only[List.mem_singleton]at hx
  subst hx
  simp[WB];omega
 have Hn:=χ hn
 have Hf:=χ hf
 clear hn hf
 obtain⟨s,hs⟩:∃s,s=sumOf l:=⟨_,rfl⟩
 have Hs:=χ hs
 rw[<-hs]at hlt Hf
 clear hs
 go_enter Tryz.func188,Tryz.ntmps188
 go_wp2_with (go_at_call 240;refine(gD l A n c w.heap.size _ Hn.out hr (by omega)).mono ?_;rintro e w' ⟨rfl,rfl⟩;rw[<-Hs.out])
 refine(NU [s] _ 1 1 4 _ rfl ?_ (by omega) (by omega) ?_ Hf.out (by omega)).mono ?_
 ·exact .inr ⟨w.heap.size,0,rfl,by simp,fun j u hu=>by
   rw[qaC _ _ _ _ rfl]
   cases j with
   |zero=>simpa[Zg,Qf]using hu
   |succ j=>simp[Zg]at hu⟩
 ·intro x hx
  simp only[List.mem_singleton]at hx
  omega
 rintro e w2 ⟨v,rfl,hown,hb2⟩
 have hl:Y0 4 [s]=YE s 4:=by simp[Y0]
 rw[hl,ZE]at hown
 have hown2:=Yx hown
 obtain⟨_,A2,c2,rfl,hc2,_,hr2⟩:=hown2
 have hb1:qal w.heap.size w w2:=(((qah _ w).alloc (qac _) _).trans (hb2.mono (by simp)))
 have hr1:=hr.below hb1
 clear hl hown
 have hsz:=hb1.size
 have uD:Hid (∀u:qab,qal w2.heap.size w2 u->∀p∈[((.slice A n c:qaf),l),(.slice A2 4 c2,YE s 4)],Part u p):=by
  intro u hu p hp
  have hs:=hu.size
  simp only[List.mem_cons,List.not_mem_nil,or_false]at hp
  rcases hp with rfl|rfl
  ·exact⟨A,n,c,rfl,Hn.out,hc,(hr1.more hsz|>.below hu).more hs⟩
  ·exact⟨A2,4,c2,rfl,ZE _ _,hc2,(hr2.below hu).more hs⟩
 clear hr1 hr2 hr
 have hal:qal w2.heap.size w2 (w2.alloc (.cells #[.slice A n c,.slice A2 4 c2] 37)):=(qah _ w2).alloc (qac _) _
 have htot:total [((.slice A n c:qaf),l),(.slice A2 4 c2,YE s 4)]=UQ l:=by simp[total,UQ,Hs.out]
 have uC:=χ htot
 clear htot
 go_wp2_with fail
 refine(NT [((.slice A n c:qaf),l),(.slice A2 4 c2,YE s 4)] _ 2 2 _ rfl ?_ (uD.out _ hal) ?_ (by omega)).mono ?_
 ·exact .inr ⟨w2.heap.size,0,rfl,by simp,fun j u hu=>by
   match j,hu with
   |0,hu=>rw[qaC _ _ _ _ rfl];simpa using hu
   |1,hu=>rw[qaC _ _ _ _ rfl];simpa using hu
   |j+2,hu=>simp at hu⟩
 ·rw[uC.out,UO,Hn.out];omega
 rintro e w3 ⟨v,rfl,hown3,hb3⟩
 rw[uC.out]at hown3
 go_wp2
 go_ret
 exact⟨_,rfl,ZL hown3 (by simp;omega),hb1.trans ((hal.mono hsz).trans (hb3.mono (by simp;omega)))⟩
end
end Go.Proofs.YtmehhgfbnfbnaaaGreat

namespace Go.Proofs.YtmehhgfbnfbnaaaGreat
open Go.RowKit
section
variable {w wr:qab}{g j:Nat}{T:List Nat}
theorem tq:(Tryz.prog.info? 41).map (fun i=>(i.zero,i.size,i.bytes))=some (some (.int .u64 0),1,8):=by kernel_rfl
theorem Ll(n:Nat)(h:n<=65536)(u:qab):(qaB 246 (.int .i64 n) (.int .i64 n)).run Tryz.prog u=
  .ok (.slice u.heap.size n n) (u.alloc (.cells (Zg (qaa n 0)).toArray 41)):=by
 obtain⟨i0,hi,hz0,hz1,hz2⟩:=qaH tq
 have hr:=run_make (P:=Tryz.prog) u 246 41 i0 (.int .u64 0) Tryz.underlying246 hi hz0 .i64 .i64 (n:Int) (n:Int) (by omega) (Int.le_refl _) (by rw[hz2];omega) (by omega)
 have e:(madeCells (qaf.int .u64 0).cells (n*i0.size))=(Zg (qaa n 0)).toArray:=by
  apply Array.ext'
  rw[hz1,Nat.mul_one]
  have:=toList_madeCells_one (.int .u64 0) n
  simp[Zg,Qf]at this⊢
  exact this
 simp only[Int.toNat_natCast,e]at hr
 exact hr
theorem QX(w:qab){ops:Array Oper}{rest:List Oper}{o:Oper}{a:Act}{Q:Exit->Act->qab->Prop}(hgd:o.guard=none)(s x:Operand)(ho:o.op=.call {callee:=.builtin .append,args:=#[s,x],argTypes:=#[246,246]})(base:Nat)(v:qaf)(n:Nat)(l:List Nat)(hs:a.eval s=v)(hown:w.ownsRow base 41 1 v n (Zg l))(B:Nat)(A:Option qap)(m c:Nat)(k:List Nat)(hx:a.eval x=.slice A m c)(hm:k.length=m)(hr:Rd w B A (Zg k))(hbytes:(n+m)*8<=140737488355328)(hbase:base<=w.heap.size)(h:∀v' w',w'.ownsRow base 41 1 v' (n+m) (Zg (l++k))->w.grownBy w' v.ownBlock->wpList Tryz.prog ops Q rest (a.put o.dst v') w'):wpList Tryz.prog ops Q (o::rest) a w:=by
 obtain⟨i0,hi,hz0,hz1,hz2⟩:=qaH tq
 rw[J3]at h
 exact Ul w hgd s x 246 ho base 41 i0 _ 8 Tryz.underlying246 hi hz0 hz1 hz2 rfl v n _ hs hown B A m c _ hx (by rw[WN,hm]) hr (zf _) (by simp only[maxLen];omega) hbytes hbase h
def tT(w:qab)(l:List Nat)(v:qaf)(w':qab):Prop:=w'.ownsRow w.heap.size 41 1 v l.length (Zg l)/\qal w.heap.size w w'
def partly(T:List Nat)(j:Nat):List Nat:=T.take j++qaa (T.length-j) 0
theorem NC(T:List Nat):partly T T.length=T:=by simp[partly]
theorem Pe(T:List Nat):partly T 0=qaa T.length 0:=by simp[partly]
theorem Mh(T:List Nat)(j:Nat)(h:j<=T.length):(partly T j).length=T.length:=by simp[partly];omega
theorem GU(T:List Nat)(j:Nat)(x:Nat)(h:T[j]? =some x):(partly T j).set j x=partly T (j+1):=by
 obtain⟨hj,rfl⟩:=qaj.1 h
 unfold partly
 have hl:(T.take j).length=j:=by simp;omega
 rw[qaO _ _ (by omega),hl,Nat.sub_self,show T.length-j=(T.length-(j+1))+1 by omega,List.replicate_succ,List.set_cons_zero,qae hj,qaG]
 rfl
theorem yQ(l:List Nat)(j x:Nat):(Zg l).set j (Qf x)=Zg (l.set j x):=by simp[Zg,List.map_set]
def Taking(w:qab)(g:Nat)(T:List Nat)(j:Nat)(wr:qab):Prop:=Bk wr g 41 (Zg (partly T j))/\w.grownBy wr (some g)
theorem Pb{x:Nat}(h:Taking w g T j wr)(hx:T[j]? =some x):Taking w g T (j+1) (wr.setCell ⟨g,j,none⟩ (.int .u64 x)):=by
 refine⟨?_,ZT h.2 _ _⟩
 have:=h.1.set j (Qf x)
 rw[yQ,GU T j x hx]at this
 exact this
theorem O9(h:Taking w g T j wr)(hj:j<T.length):(∃v,wr.cell? ⟨g,j,none⟩=some v)/\wr.frozen? ⟨g,j,none⟩=false:=by
 refine⟨?_,h.1.frozen _⟩
 rw[h.1.cell]
 have hl:j<(Zg (partly T j)).length:=by rw[WN,Mh _ _ (by omega)];exact hj
 exact⟨_,qad hl⟩
theorem JR(l:List UInt8)(A:Option qap)(n c m size:Nat)(w:qab)(hn:l.length=n)(hr:Rd w w.heap.size A (Z6 l))(hc:n<=c)(Lu:size<=8)(hs1:1<=size)(hm:n=m*size)(h4:n<=4096):
  qao Tryz.prog 220 #[size,.slice A n c] w fun e w'=>∃v,e=.returned (.tuple #[v,()])/\tT w (Ze size l) v w':=by
 have hs0:(size:Int)≠0:=by omega
 have hdiv:(n:Int)/(size:Int)=(m:Int):=by rw[hm,qaz];exact Int.mul_ediv_cancel _ hs0
 have hmod:(n:Int)%(size:Int)=0:=by rw[hm,qaz];exact Int.mul_emod_left _ _
 have hmn:m<=4096:=qaE (qav m (by omega)) (hm▸h4)
 have hT:(Ze size l).length=m:=by rw[XX,hn,hm];exact Nat.mul_div_cancel _ (by omega)
 have hmk:=Ll m (by omega)
 have hbk:=Bk.new w 41 (Zg (qaa m 0))
 have hbel:qal w.heap.size w (w.alloc (.cells (Zg (qaa m 0)).toArray 41)):=(qah _ _).alloc (qac _) _
 have hsrc:=hr.below hbel
 obtain⟨z,hz⟩:∃z,z=(Zg (qaa m 0)).toArray:=⟨_,rfl⟩
 unfold Bk at hbk
 rw[<-hz]at hmk hbk hbel hsrc
 have Q0:Taking (w.alloc (.cells z 41)) w.heap.size (Ze size l) 0 (w.alloc (.cells z 41)):=⟨by unfold Bk;rw[Pe,hT,hbk,hz],qam _ _⟩
 have Hn:=χ hn
 have Hm:=χ hm
 have HT:=χ hT
 clear hn hm hT hbk hz hr
 go_enter Tryz.func220,Tryz.ntmps220
 go_wp2_with (go_at_call 235;refine(Wi _ _ (by omega) (by omega)).mono ?_;rintro e w' ⟨rfl,rfl⟩)
 clear hmod hdiv
 go_loopw [28] (fun k wr=>∃j:Nat,j<=m/\k=.int .i64 j/\Taking (w.alloc (.cells z 41)) w.heap.size (Ze size l) j wr) (fun k _=>m-(intOf k).toNat)
 case atStart=>exact⟨0,qag _,rfl,Q0⟩
 case round=>
  obtain⟨j,hj,rfl,hst⟩:=hrel
  by_cases hlt:j<m
  ·have hrd:=Tm hsrc hst.2 (by simp) (qac _)
   have hjm:(j:Int)*(size:Int)+size<=n:=by
    have:(j+1)*size<=m*size:=qaA _ (by omega)
    rw[qau]at this
    have:=Hm.out
    omega
   have hj0:0<=(j:Int)*(size:Int):=by have:=qag (j*size);omega
   have hne:¬ (c=j*size):=by omega
   have hd:=hrd.drop (k:=j*size) (c:=c) (by rw[Z4,Hn.out];omega) (by rw[Z4,Hn.out];omega)
   rw[if_neg hne,<-WW]at hd
   have Hld:=χ (show(l.drop (j*size)).length=n-j*size by rw[List.length_drop,Hn.out])
   have hx:(Ze size l)[j]? =some (le ((l.drop (j*size)).take size)):=Vy size l j (by rw[<-XX,HT.out];exact hlt)
   have hstep:=Pb hst hx
   obtain⟨⟨v,hcell⟩,hfr⟩:=O9 hst (by rw[HT.out];exact hlt)
   clear hst hx hsrc hrd
   go_wp2_with (first
    |(go_at_call 257;refine(H6 (l.drop (j*size)) _ _ _ _ size _ Hld.out hd (by omega) Lu hs1).mono ?_;rintro e w' ⟨rfl,rfl⟩))
   go_roundw
   case rel=>exact⟨j+1,by omega,by go_num,hstep⟩
   case measure=>simp[intOf];omega
  ·go_wp2
   go_ret2
   obtain rfl:j=m:=by omega
   have hb:=hst.1
   rw[<-HT.out,NC]at hb
   refine⟨_,rfl,?_,hbel.trans (XM hst.2 hbel.size (qac _))⟩
   rw[HT.out]
   exact hb.own j (by rw[WN,HT.out]) (qac _) (by simp only[maxLen];omega)
theorem OE(l:List UInt8)(A:Option qap)(n c size:Nat)(w:qab)(hn:l.length=n)(hr:Rd w w.heap.size A (Z6 l))(hs:n<=size)(hm:size<=4096):
  qao Tryz.prog 186 #[.slice A n c,size] w fun e w'=>∃v,e=.returned (.tuple #[v,()])/\Made w (Ya l size) v w':=by
 have H:=χ hn
 clear hn
 go_enter Tryz.func186,Tryz.ntmps186
 go_wp2_with (go_at_call 238;refine(NQ l _ _ _ _ _ H.out hr hs (by omega)).mono ?_;rintro e w1 ⟨rfl,hp⟩)
 go_ret2
 have hl:(Ya l size).length=size:=Xw l size (by rw[H.out];exact hs)
 refine⟨_,rfl,?_,hp.2⟩
 rw[hl]
 exact hp.1.own size (by rw[Z4,hl]) (qac _) (by simp only[maxLen];omega)
end
end Go.Proofs.YtmehhgfbnfbnaaaGreat

namespace Go.Proofs.YtmehhgfbnfbnaaaGreat
open Go.ChangeShapes Go.WideShapes Go.ChangeAt Go.RowKit
section
variable {H:Type}{enc:qaq × qaf->H}{P:Program}
section
variable {W W':qab}{sp:Nat->Bool}
theorem Cq{t:qaq}(hl:laidOutB P=true)(hr:P.readableRec t=true)(hrow:t<P.types.size)(hb:qal W.heap.size W W'){v:qaf}{d:DataW H}{ps:List MemPlace}(h:DataW.Trod enc P W 0 (fun _=>true) true t v d ps)(hlt:∀p∈ps,p.block<W.heap.size)(hs:∀p∈ps,sp p.block=true):DataW.Trod enc P W' 0 sp true t v d ps:=
 WideElems.Trod_stays hl hr hrow h (fun p hp=>hb.same (hlt p hp)) hs
theorem LY(hl:laidOutB P=true)(hb:qal W.heap.size W W'):∀{ts:List qaq}{vs:List qaf}{ds:List (DataW H)}{ps:List MemPlace},
  (∀t∈ts,P.readableRec t=true/\t<P.types.size)->DataW.TrodAll enc P W 0 (fun _=>true) true ts vs ds ps->(∀p∈ps,p.block<W.heap.size)->(∀p∈ps,sp p.block=true)->DataW.TrodAll enc P W' 0 sp true ts vs ds ps:=by
 intro ts
 induction ts with
 |nil=>
  intro vs ds ps _ h _ _
  obtain⟨rfl,rfl,rfl⟩:=trodAll_nil h
  exact trodAll_mk0
 |cons t ts ih=>
  intro vs ds ps ht h hlt hs
  obtain⟨v,vs',d,ds',p,q,rfl,rfl,rfl,h1,h2⟩:=trodAll_cons h
  exact trodAll_cons_mk (Cq hl (ht t (by simp)).1 (ht t (by simp)).2 hb h1 (fun p hp=>hlt p (by simp[hp])) (fun p hp=>hs p (by simp[hp])))
   (ih (fun t ht'=>ht t (by simp[ht'])) h2 (fun p hp=>hlt p (by simp[hp])) (fun p hp=>hs p (by simp[hp])))
theorem wC{f:Func}{s:ChangeSpec}{tb:qaq}{args:Array qaf}{ds gs:List (DataW H)}{before:List MemPlace}(hl:laidOutB P=true)(hres:f.resultTypes= #[tb])(hub:P.underlying tb=some .bool)(hp:∀t∈f.params.toList,P.readableRec t=true/\t<P.types.size)(hv:s.vars=[])(hW:DataW.Whole enc P f.params.toList s.vars false W args.toList ds gs before)(hfn:(s.fn H (ds++gs)).results=[.lit (.bool true)]/\(s.fn H (ds++gs)).args=ds/\(s.fn H (ds++gs)).vars=[])(hb:qal W.heap.size W W'):s.post enc P f false true false false W args (.bool true) W':=by
 have hlt:∀p∈before,p.block<W.heap.size:=fun p hp=>hW.lt p hp
 have hW':=hW
 obtain⟨p,q,hA,hV,rfl,_,_⟩:=hW
 rw[hv]at hV
 obtain⟨rfl,rfl⟩:=trodVars_none hV
 rw[List.append_nil]at hlt hW'
 refine⟨ds,[],p,[],p,[],hW',?_,?_,?_,?_,fun h=>by cases h⟩
 ·rw[hfn.1,hres]
  exact trodAll_mk1 (shut_bool hub _)
 ·rw[hfn.2.1]
  exact LY hl hb hp hA hlt (fun p hp=>by simpa using hlt p hp)
 ·rw[hfn.2.2,hv]
  exact rfl
 ·exact hb.frame _
end
end
end Go.Proofs.YtmehhgfbnfbnaaaGreat
