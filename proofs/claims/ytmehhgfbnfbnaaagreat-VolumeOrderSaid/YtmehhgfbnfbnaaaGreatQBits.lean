import Derived.Test.YtmehhgfbnfbnaaaGreatQF
import Derived.Test.YtmehhgfbnfbnaaaGreatQTk
import Derived.Test.YtmehhgfbnfbnaaaGreatRows
import Derived.WalkKit
import Derived.WalkSpells
import Derived.BigQuiet
import Derived.Deep.QuietTactic
import Derived.Lib.Hide
import Derived.Lib.AppendZeros
import Derived.Deep.DeepAppendRoom
set_option maxRecDepth 100000
set_option maxHeartbeats 25600000
open List renaming getD_eq_getElem?_getD->qaa
open Go renaming World->qab,Calls->qad,Addr->qai
open Nat renaming pow_le_pow_right->qac,testBit_lt_two_pow->qae,testBit_two_pow->qaf,lt_of_lt_of_le->qam,pow_succ->qan,mod_eq_of_lt->qao,zero_le->qap,testBit_and->qaq
open Int renaming natCast_nonneg->qag,eq_ofNat_of_zero_le->qak
open UInt8 renaming ofNat->qah
open Go.World renaming drewN_drewN->qaj
open Go.Ending renaming returned->qal
open Go.IntKind renaming wrap_i64->qar
namespace Go.Proofs.YtmehhgfbnfbnaaaGreat
theorem zs0{P:Prop}(h:P:=by
 rw[e]
 clear e
 go_enter Tryz.func177,Tryz.ntmps177
 go_wp2_with (go_at_call 231;refine(Tg _ _ _ _ hm).mono ?_;rintro e w' ⟨rfl,rfl⟩)
 go_ret
 exact⟨rfl,rfl⟩):P:=h
theorem zs1{P:Prop}(h:P:=by
 go_wp2
 go_round
 case rel=>exact⟨j+1,by omega,by go_num,q,rfl,χ (by rw[Hno.out,Hq.out])⟩
 case measure=>simp[intOf];omega):P:=h
theorem zs2{P:Prop}(h:P:=by
 exact⟨m+1,by omega,by go_num,u+QB m,by go_num,by rw[<-Hw.out];go_num,by rw[MS m jw];exact hK.add Hf.out⟩):P:=h
theorem zs3{P:Prop}(h:P:=by
 clear h
 go_enter Tryz.func161,Tryz.ntmps161
 go_wp2
 go_ret
 exact⟨rfl,rfl⟩):P:=h
theorem zs4{P:Prop}(h:P:=by
 exact⟨m+1,by omega,by go_num,u,rfl,by rw[<-Hw.out];go_num,hK.skip Hf.out⟩):P:=h
end Go.Proofs.YtmehhgfbnfbnaaaGreat
namespace Go.Proofs.YtmehhgfbnfbnaaaGreat.Bits
open Go.RowKit
section
variable {l:List UInt8}{a b:Int}{j x m k:Nat}{f:Nat->Bool}{on:Bool}
def hb(l:List UInt8)(i:Nat):Bool:=(l.getD (i/8) 0).toNat.testBit (i%8)
def sS(l:List UInt8)(x:Int):Bool:=decide (0<=x)&&hb l x.toNat
theorem Ym(l:List UInt8)(i:Nat):sS l (i:Int)=hb l i:=by simp[sS]
theorem Ep(l:List UInt8)(i:Nat)(h:8*l.length<=i):hb l i=false:=by
 unfold hb
 rw[qaa,List.getElem?_eq_none (by omega)]
 simp
theorem mD(l:List UInt8)(x:Int)(h:x<0):sS l x=false:=by simp[sS];omega
theorem BB(l:List UInt8)(x:Int)(h:¬ (0<=x/\x<8*(l.length:Int))):sS l x=false:=by
 by_cases h0:x<0
 ·exact mD l x h0
 ·obtain⟨k,rfl⟩:=qak (show 0<=x by omega)
  rw[Ym,Ep l k (by omega)]
def NA(b:UInt8)(k:Nat)(on:Bool):UInt8:=if on then qah (b.toNat|||2^k)else qah (b.toNat&&& (255-2^k))
theorem SG(k:Nat)(h:k<8):2^k<256:=by
 have:2^k<2^8:=Nat.pow_lt_pow_right (by omega) h
 simpa using this
theorem Lg(b:UInt8)(k:Nat)(h:k<8):(NA b k true).toNat=b.toNat|||2^k:=by
 have h1:b.toNat|||2^k<2^8:=Nat.or_lt_two_pow b.toNat_lt (Nat.pow_lt_pow_right (by omega) h)
 simp only[NA,if_true,UInt8.toNat_ofNat']
 exact qao h1
theorem Nz(b:UInt8)(k:Nat):(NA b k false).toNat=b.toNat&&& (255-2^k):=by
 have h1:b.toNat&&& (255-2^k)<2^8:=Nat.lt_of_le_of_lt Nat.and_le_left b.toNat_lt
 simp only[NA,Bool.false_eq_true,if_false,UInt8.toNat_ofNat']
 exact qao h1
theorem sQ(b:UInt8)(k m:Nat)(on:Bool)(hk:k<8)(hm:m<8):(NA b k on).toNat.testBit m=if m=k then on else b.toNat.testBit m:=by
 cases on with
 |true=>
  rw[Lg b k hk,Nat.testBit_or,qaf]
  by_cases h:m=k
  ·simp[h]
  ·simp[h,show ¬ k=m by omega]
 |false=>
  have e:255-2^k=2^8-(2^k+1):=by omega
  rw[Nz b k,qaq,e,Nat.testBit_two_pow_sub_succ (SG k hk),qaf]
  by_cases h:m=k
  ·simp[h]
  ·simp[h,show ¬ k=m by omega,hm]
theorem sP(b:UInt8)(j:Nat)(h:8<=j):b.toNat.testBit j=false:=
 qae (qam b.toNat_lt (qac (by omega) h))
def wb(l:List UInt8)(i:Nat)(on:Bool):List UInt8:=l.set (i/8) (NA (l.getD (i/8) 0) (i%8) on)
theorem XK(l:List UInt8)(i:Nat)(on:Bool):(wb l i on).length=l.length:=by simp[wb]
theorem UY(l:List UInt8)(i j:Nat)(on:Bool)(h:i<8*l.length):hb (wb l i on) j=if j=i then on else hb l j:=by
 unfold hb wb
 rw[qaa,List.getElem?_set]
 by_cases e:i/8=j/8
 ·rw[if_pos e,if_pos (by omega)]
  simp only[Option.getD_some]
  rw[sQ _ _ _ _ (by omega) (by omega)]
  by_cases e2:j=i
  ·simp[e2]
  ·rw[if_neg (by omega),if_neg e2,e]
 ·rw[if_neg e,if_neg (by rintro rfl;exact e rfl),<-qaa]
def Mk(f:Nat->Bool)(m x:Nat):Prop:=x<2^m/\∀j,j<m->x.testBit j=f j
theorem Mk.start (f:Nat->Bool):Mk f 0 0:=⟨by simp,fun j hj=>absurd hj (Nat.not_lt_zero _)⟩
theorem Mk.skip (h:Mk f m x)(hf:f m=false):Mk f (m+1) x:=by
 refine⟨qam h.1 (qac (by omega) (by omega)),fun j hj=>?_⟩
 by_cases e:j=m
 ·subst e;rw[hf];exact qae h.1
 ·exact h.2 j (by omega)
theorem Mk.add (h:Mk f m x)(hf:f m=true):Mk f (m+1) (x+2^m):=by
 have h1:=h.1
 refine⟨by rw[qan];omega,fun j hj=>?_⟩
 rw[Nat.add_comm]
 by_cases e:j=m
 ·subst e;rw[Nat.testBit_two_pow_add_eq,qae h1,hf];rfl
 ·rw[Nat.testBit_two_pow_add_gt (by omega)];exact h.2 j (by omega)
theorem Mk.lt (h:Mk f m x)(hm:m<=8):x<256:=by
 have:2^m<=2^8:=qac (by omega) hm
 have:=h.1
 omega
theorem Mk.done (h:Mk f 8 x)(b:UInt8)(hb:∀j,j<8->b.toNat.testBit j=f j):b.toNat=x:=by
 apply Nat.eq_of_testBit_eq
 intro j
 by_cases hj:j<8
 ·rw[hb j hj,h.2 j hj]
 ·rw[sP b j (by omega),qae (qam h.1 (qac (by omega) (by omega)))]
theorem mr(l:List UInt8)(i k j:Nat)(on:Bool)(hi:i<8*l.length)(hk:k<(wb l i on).length)(hj:j<8):(wb l i on)[k].toNat.testBit j=(if 8*k+j=i then on else hb l (8*k+j)):=by
 rw[<-UY l i (8*k+j) on hi]
 unfold hb
 rw[show(8*k+j)/8=k by omega,show(8*k+j)%8=j by omega,qaa,List.getElem?_eq_getElem hk]
 rfl
def cnd(l:List UInt8)(a b:Int)(on:Bool)(i:Nat):Bool:=decide (a<=(i:Int))&&decide ((i:Int)<b)&&(hb l i==on)
def cnt(l:List UInt8)(a b:Int)(j:Nat):Nat:=(List.range j).countP (cnd l a b true)
def fst(l:List UInt8)(a b:Int)(on:Bool)(j:Nat):Option Nat:=(List.range j).find? (cnd l a b on)
theorem BA(h:cnd l a b true j=true):cnt l a b (j+1)=cnt l a b j+1:=by simp[cnt,List.range_succ,h]
theorem Ny(h:cnd l a b true j=false):cnt l a b (j+1)=cnt l a b j:=by simp[cnt,List.range_succ,h]
theorem sO(l:List UInt8)(a b:Int)(j:Nat):cnt l a b j<=j:=by
 have:=List.countP_le_length (p:=cnd l a b true) (l:=List.range j)
 simpa[cnt]using this
theorem GM(hjk:j<=k)(h:∀i,j<=i->i<k->cnd l a b true i=false):cnt l a b k=cnt l a b j:=by
 obtain⟨d,rfl⟩:∃d,k=j+d:=⟨k-j,by omega⟩
 clear hjk
 induction d with
 |zero=>rfl
 |succ d ih=>rw[show j+(d+1)=j+d+1 by omega,Ny (h _ (by omega) (by omega)),ih fun i h1 h2=>h i h1 (by omega)]
theorem Od(h:∀i,i<k->cnd l a b true i=false):cnt l a b k=0:=by
 rw[GM (qap k) fun i _ h2=>h i h2];rfl
theorem sN(h:∀i,i<j->cnd l a b on i=false):fst l a b on j=none:=by
 simp only[fst,List.find?_eq_none,List.mem_range]
 intro i hi
 simp[h i hi]
theorem Bz(hk:k<j)(h:∀i,i<k->cnd l a b on i=false)(hc:cnd l a b on k=true):fst l a b on j=some k:=by
 simp only[fst]
 rw[List.find?_range_eq_some]
 refine⟨hc,by simpa using hk,fun i hi=>?_⟩
 simp[h i hi]
structure Ends(a b:Int)(n F T:Nat):Prop where
 lo:max a 0=(F:Int)
 hi:max (min b (8*(n:Int))) 0=(T:Int)
theorem Nw(a b:Int)(n:Nat):∃F T,Ends a b n F T:=⟨(max a 0).toNat,(max (min b (8*(n:Int))) 0).toNat,by omega,by omega⟩
end
section
variable {l:List UInt8}{a b:Int}{n F T:Nat}{on:Bool}(h:Ends a b n F T)
section
variable {i:Nat}
include h
theorem Ends.below (hi:i<F):cnd l a b on i=false:=by
 have:=h.lo
 have e:decide (a<=(i:Int))=false:=decide_eq_false (by omega)
 simp[cnd,e]
theorem Ends.above (hi:T<=i)(hn:i<8*n):cnd l a b on i=false:=by
 have:=h.hi
 have e:decide ((i:Int)<b)=false:=decide_eq_false (by omega)
 simp[cnd,e]
theorem Ends.mid (h1:F<=i)(h2:i<T):cnd l a b on i=(hb l i==on):=by
 have:=h.lo
 have:=h.hi
 have e1:decide (a<=(i:Int))=true:=decide_eq_true (by omega)
 have e2:decide ((i:Int)<b)=true:=decide_eq_true (by omega)
 simp[cnd,e1,e2]
theorem Ends.top:T<=8*n:=by have:=h.hi;omega
theorem Ends.yO:cnt l a b F=0:=Od fun _ hi=>h.below hi
theorem Ends.sM (hn:l.length=n)(hF:T<=F):cnt l a b (8*l.length)=0:=Od fun i hi=>by
 by_cases h1:i<F
 ·exact h.below h1
 ·exact h.above (by omega) (by omega)
theorem Ends.sK (hn:l.length=n):cnt l a b (8*l.length)=cnt l a b T:=
 GM (by have:=h.top;omega) fun i h1 h2=>h.above h1 (by omega)
theorem Ends.GL (hn:l.length=n)(hm:∀i,F<=i->i<T->(hb l i==on)=false):fst l a b on (8*l.length)=none:=sN fun i hi=>by
 by_cases h1:i<F
 ·exact h.below h1
 ·by_cases h2:i<T
  ·rw[h.mid (by omega) h2];exact hm i (by omega) h2
  ·exact h.above (by omega) (by omega)
theorem Ends.sJ (hn:l.length=n){k:Nat}(h1:F<=k)(h2:k<T)(hm:∀i,F<=i->i<k->(hb l i==on)=false)(hk:(hb l k==on)=true):fst l a b on (8*l.length)=some k:=
 Bz (by have:=h.top;omega) (fun i hi=>by
  by_cases h3:i<F
  ·exact h.below h3
  ·rw[h.mid (by omega) (by omega)];exact hm i (by omega) hi) (by rw[h.mid h1 h2];exact hk)
end
end
end Go.Proofs.YtmehhgfbnfbnaaaGreat.Bits

namespace Go.Proofs.YtmehhgfbnfbnaaaGreat.Bits
open Go.RowKit
section
variable {a b:Int}{w:qab}{n:Nat}
theorem YG{a b:Bool}(h:a=b):qal (.bool a)=.returned (.bool b):=by rw[h]
theorem fJ(h:a=b):qal (.int .u8 a)=.returned (.int .u8 b):=by rw[h]
theorem fI{c d:Int}(h1:a=c)(h2:b=d):qal (.tuple #[a,b])=.returned (.tuple #[c,d]):=by rw[h1,h2]
theorem sD{f:FuncId}{args:Array Value}{v:Value}(h:qad Tryz.prog f args (w.drewN n) fun e w'=>e=.returned v/\w.drewN n=w'):
  qad Tryz.prog f args (w.drewN n) fun e w''=>e=.returned v/\∃m,w''=w.drewN m:=h.mono fun _ _ ⟨he,hm⟩=>⟨he,n,hm.symm⟩
theorem Tg(A:Option qai)(n c:Nat)(w:qab)(hm:n<=100000000):
  qad Tryz.prog 231 #[.slice A n c] w fun e w'=>e=.returned (.int .i64 (8*(n:Int)))/\w=w':=by
 go_enter Tryz.func231,Tryz.ntmps231
 go_wp2
 go_ret
 exact⟨rfl,rfl⟩
theorem Ui(A:Option qai)(n c:Nat)(x:Int)(w:qab)(hm:n<=100000000):
  qad Tryz.prog 177 #[.slice A n c,x] w fun e w'=>e=.returned (.bool (decide (0<=x/\x<8*(n:Int))))/\w=w':=by
 by_cases h0:0<=x
 ·have e:decide (0<=x/\x<8*(n:Int))=decide (x<8*(n:Int)):=by simp[h0]
  exact zs0
 ·have e:decide (0<=x/\x<8*(n:Int))=false:=by simp;omega
  exact zs0
theorem Ns (i : Nat) (w : qab) (hm : i <= 800000000) :
    qad Tryz.prog 178 #[i] w fun e w' => e = .returned (.int .u8 ((2 ^ (i % 8) : Nat) : Int)) /\ w = w' := by
  have e : (2 : Int) ^ (i % 8) % 256 = ((2 ^ (i % 8) : Nat) : Int) := by
    have h := SG (i % 8) (by omega)
    rw [Int.emod_eq_of_lt (Int.pow_nonneg (by omega)) (by have : ((2 ^ (i % 8) : Nat) : Int) < 256 := by omega
                                                          simpa using this)]
    simp
  have E := χ e
  clear e
  go_enter Tryz.func178, Tryz.ntmps178
  go_wp2
  go_ret
  exact ⟨fJ E.out, rfl⟩
theorem QN(A:Option qai)(n c:Nat)(a b:Int)(F T:Nat)(w:qab)(hm:n<=100000000)(h:Ends a b n F T):
  qad Tryz.prog 230 #[.slice A n c,a,b] w fun e w'=>e=.returned (.tuple #[F,T])/\w=w':=by
 have h1:=h.lo
 have h2:=h.hi
 go_enter Tryz.func230,Tryz.ntmps230
 go_wp2_with (go_at_call 231;refine(Tg _ _ _ _ hm).mono ?_;rintro e w' ⟨rfl,rfl⟩)
 all_goals
  go_ret2
  exact⟨fI (by omega) (by omega),rfl⟩
theorem OA{B:Nat}{A:Option qai}{l:List UInt8}{i:Nat}(hn:l.length=n)(hr:Rd w B A (Z6 l))(hi:i<8*n):
  ∃b o,A=some ⟨b,o,none⟩/\b<B/\w.cell? ⟨b,o+i/8,none⟩=some (.int .u8 ((l.getD (i/8) 0).toNat:Int)):=by
 have hl:i/8<l.length:=by omega
 rcases hr with h|⟨b,o,rfl,hb,hc⟩
 ·exfalso;simp[Z6]at h;subst h;simp at hl
 ·exact⟨b,o,rfl,hb,hc (i/8) _ (by simp[Z6,XG,qaa,hl])⟩
theorem mf(x k:Nat)(hx:x<256)(hk:k<8):((bits .and .u8 (x:Int) ((2^k:Nat):Int)) != 0)=x.testBit k:=by
 rw[u8_and_nat x (2^k) hx (SG k hk)]
 cases h:x.testBit k with
 |false=>
  have e:x&&& 2^k=0:=by
   apply Nat.eq_of_testBit_eq
   intro j
   rw[qaq,qaf,Nat.zero_testBit]
   by_cases hj:k=j
   ·subst hj;simp[h]
   ·simp[hj]
  rw[e];rfl
 |true=>
  have e:x&&& 2^k≠0:=by
   intro e
   have h2:(x&&& 2^k).testBit k=true:=by rw[qaq,h,qaf];simp
   rw[e,Nat.zero_testBit]at h2
   cases h2
  simp;omega
theorem D8(A:Option qai)(n c:Nat)(x:Int)(w:qab)(hm:n<=100000000)(h:decide (0<=x/\x<8*(n:Int))=true):
  qad Tryz.prog 177 #[.slice A n c,x] w fun e w'=>e=.returned (.bool true)/\w'=w:=
 (Ui A n c x w hm).mono fun e w' ⟨h1,h2⟩=>⟨by rw[h1,h],h2.symm⟩
theorem yL(A:Option qai)(n c:Nat)(x:Int)(w:qab)(hm:n<=100000000)(h:decide (0<=x/\x<8*(n:Int))=false):
  qad Tryz.prog 177 #[.slice A n c,x] w fun e w'=>e=.returned (.bool false)/\w'=w:=
 (Ui A n c x w hm).mono fun e w' ⟨h1,h2⟩=>⟨by rw[h1,h],h2.symm⟩
theorem ma(A:Option qai)(n c:Nat)(x:Int)(w:qab)(hm:n<=100000000)(h:¬ (0<=x/\x<8*(n:Int))):
  qad Tryz.prog 107 #[.slice A n c,x] w fun e w'=>e=.returned (.bool false)/\∃m,w'=w.drewN m:=by
 have H:=χ (decide_eq_false h)
 clear h
 go_enter Tryz.func107,Tryz.ntmps107
 go_wp2_with fail
 go_quiet (first
  |(go_at_call 177;exact qad.quiet_of_same (yL _ _ _ _ _ hm H.out)))
 go_wp2_with fail
 go_ret
 exact⟨rfl,nq,rfl⟩
theorem fH(l:List UInt8)(A:Option qai)(n c B i:Nat)(w:qab)(hn:l.length=n)(hr:Rd w B A (Z6 l))(hm:n<=100000000)(h:i<8*n):
  qad Tryz.prog 107 #[.slice A n c,i] w fun e w'=>e=.returned (.bool (hb l i))/\∃m,w'=w.drewN m:=by
 obtain⟨b,o,rfl,_,hcell⟩:=OA hn hr h
 have H:=χ (decide_eq_true (show 0<=(i:Int)/\(i:Int)<8*(n:Int)by omega))
 have hlt:=(l.getD (i/8) 0).toNat_lt
 have HB:=χ (mf (l.getD (i/8) 0).toNat (i%8) hlt (by omega))
 have e1:hb l i=(l.getD (i/8) 0).toNat.testBit (i%8):=rfl
 rw[<-e1]at HB
 have h8:i/8<n:=by omega
 obtain⟨q,hq⟩:∃q,q=i/8:=⟨_,rfl⟩
 have hqi:(i:Int)/8=(q:Int):=by omega
 rw[<-hq]at hcell h8 hlt HB
 have hw8:IntKind.i64.wrap (q:Int)=(q:Int):=by rw[qar];omega
 have hi0:(0:Int)<=(q:Int):=qag _
 have hi1:(q:Int)<(n:Int):=by omega
 clear hr hn e1 hq
 generalize (l.getD q 0).toNat=y at*
 go_enter Tryz.func107,Tryz.ntmps107
 go_wp2_with fail
 go_quiet (first
  |(go_at_call 177;exact qad.quiet_of_same (D8 _ _ _ _ _ hm H.out))
  |(go_at_call 178;exact sD (Ns _ _ (by omega))))
 go_wp2_with fail
 go_ret
 exact⟨YG HB.out,nq,rfl⟩
theorem XF(l:List UInt8)(A:Option qai)(n c B:Nat)(x:Int)(w:qab)(hn:l.length=n)(hr:Rd w B A (Z6 l))(hm:n<=100000000):
  qad Tryz.prog 107 #[.slice A n c,x] w fun e w'=>e=.returned (.bool (sS l x))/\∃m,w'=w.drewN m:=by
 by_cases h:0<=x/\x<8*(n:Int)
 ·obtain⟨i,rfl⟩:=qak h.1
  rw[Ym]
  exact fH l A n c B i w hn hr hm (by omega)
 ·rw[BB l x (by rw[hn];exact h)]
  exact ma A n c x w hm h
theorem sw(A:Option qai)(n c:Nat)(x:Int)(w:qab)(hm:n<=100000000)(h:¬ (0<=x/\x<8*(n:Int))):
  qad Tryz.prog 161 #[.slice A n c,x] w fun e w'=>e=.returned (.bool false)/\w=w':=by
 by_cases h0:x<0
 ·exact zs3
 ·have h1:8*(n:Int)<=x:=by omega
  exact zs3
theorem fG(y k:Nat):((y/2^k:Nat):Int)%2=1↔y.testBit k=true:=by
 rw[Nat.testBit_eq_decide_div_mod_eq,decide_eq_true_iff]
 generalize y/2^k=z
 omega
theorem SE(l:List UInt8)(A:Option qai)(n c B i:Nat)(w:qab)(hn:l.length=n)(hr:Rd w B A (Z6 l))(hm:n<=100000000)(h:i<8*n):
  qad Tryz.prog 161 #[.slice A n c,i] w fun e w'=>e=.returned (.bool (hb l i))/\w=w':=by
 obtain⟨b,o,rfl,_,hcell⟩:=OA hn hr h
 have hlt:=(l.getD (i/8) 0).toNat_lt
 have HB:=χ (fG (l.getD (i/8) 0).toNat (i%8))
 have e1:hb l i=(l.getD (i/8) 0).toNat.testBit (i%8):=rfl
 rw[<-e1]at HB
 have h8:i/8<n:=by omega
 obtain⟨q,hq⟩:∃q,q=i/8:=⟨_,rfl⟩
 have hqi:(i:Int)/8=(q:Int):=by omega
 obtain⟨r,hrr⟩:∃r,r=i%8:=⟨_,rfl⟩
 have X6:(i:Int)%8=(r:Int):=by omega
 have hr8:r<8:=by omega
 rw[<-hq]at hcell h8 hlt HB
 rw[<-hrr]at HB
 clear hr hn e1 hq hrr
 generalize (l.getD q 0).toNat=y at*
 generalize hb l i=t at*
 go_enter Tryz.func161,Tryz.ntmps161
 go_wp2
 go_loop [5,6] (fun z k=>∃j:Nat,j<=r/\k=.int .i64 j/\∃m:Nat,z=.int .u8 m/\m<256/\Hid (m=y/2^j)) (fun _ k=>r-(intOf k).toNat)
 case atStart=>exact⟨0,qap _,rfl,y,rfl,hlt,χ (by simp)⟩
 case round=>
  obtain⟨j,hj,rfl,m,rfl,hm2,Hm⟩:=hrel
  by_cases hjr:j<r
  ·go_wp2
   go_round
   case rel=>exact⟨j+1,by omega,by go_num,m/2,by go_num,by omega,χ (by rw[Hm.out,Nat.div_div_eq_div_mul,qan])⟩
   case measure=>simp[intOf];omega
  ·obtain rfl:j=r:=by omega
   go_wp2
   go_ret
   have e:=HB.out
   rw[<-Hm.out]at e
   exact⟨YG (by rw[Bool.eq_iff_iff,<-e];simp),rfl⟩
theorem XP(l:List UInt8)(A:Option qai)(n c B:Nat)(x:Int)(w:qab)(hn:l.length=n)(hr:Rd w B A (Z6 l))(hm:n<=100000000):
  qad Tryz.prog 161 #[.slice A n c,x] w fun e w'=>e=.returned (.bool (sS l x))/\w=w':=by
 by_cases h:0<=x/\x<8*(n:Int)
 ·obtain⟨i,rfl⟩:=qak h.1
  rw[Ym]
  exact SE l A n c B i w hn hr hm (by omega)
 ·rw[BB l x (by rw[hn];exact h)]
  exact sw A n c x w hm h
end
end Go.Proofs.YtmehhgfbnfbnaaaGreat.Bits

namespace Go.Proofs.YtmehhgfbnfbnaaaGreat.Bits
open Go.RowKit
section
variable {l:List UInt8}{x y:Int}{on:Bool}{j:Nat}
theorem Uj{a b:Int}(h:a=b):qal (.int .i64 a)=.returned (.int .i64 b):=by rw[h]
def rW(o:Option Nat):Value:=.tuple #[.int .i64 ((o.getD 0:Nat):Int),o.isSome]
theorem QL(w:qab):∃m,w=w.drewN m:=⟨0,rfl⟩
theorem DU(A:Option qai)(n c F T:Nat)(x y:Int)(w:qab)(hm:n<=100000000)(hE:Ends x y n F T)(hF:T<=F)(hF2:F<=9223372036854775807):
  qad Tryz.prog 179 #[.slice A n c,x,y] w fun e w'=>e=.returned (.int .i64 0)/\w=w':=by
 have htop:=hE.top
 have HE:=χ hE
 clear hE
 go_enter Tryz.func179,Tryz.ntmps179
 go_wp2_with (go_at_call 230;refine(QN _ _ _ _ _ F T _ hm HE.out).mono ?_;rintro e w' ⟨rfl,rfl⟩)
 go_loop [7,19] (fun v k=>v=.int .i64 0/\k=.int .i64 0) (fun _ _=>0)
 case atStart=>exact⟨rfl,rfl⟩
 case round=>
  obtain⟨rfl,rfl⟩:=hrel
  go_wp2
  go_ret
  exact⟨rfl,rfl⟩
theorem DT(l:List UInt8)(A:Option qai)(n c B F T:Nat)(x y:Int)(w:qab)(hn:l.length=n)(hr:Rd w B A (Z6 l))(hm:n<=100000000)(hE:Ends x y n F T)(hF:F<T):
  qad Tryz.prog 179 #[.slice A n c,x,y] w fun e w'=>e=.returned (.int .i64 (cnt l x y T:Nat))/\∃m,w'=w.drewN m:=by
 have htop:=hE.top
 have Hn:=χ hn
 have Hr:=χ hr
 have HS:=χ (hE.yO (l:=l))
 have HM:=χ (fun i=>hE.mid (l:=l) (i:=i) (on:=true))
 have HE:=χ hE
 clear hn hr hE
 go_enter Tryz.func179,Tryz.ntmps179
 go_wp2_with (go_at_call 230;refine(QN _ _ _ _ _ F T _ hm HE.out).mono ?_;rintro e w' ⟨rfl,rfl⟩)
 go_loopw [7,19] (fun v k wr=>∃j:Nat,F+j<=T/\k=.int .i64 j/\∃q:Nat,v=.int .i64 q/\Hid (q=cnt l x y (F+j))/\∃m,wr=w.drewN m) (fun _ k _=>T-F-(intOf k).toNat)
 case atStart=>exact⟨0,by omega,rfl,0,rfl,χ HS.out.symm,QL w⟩
 case round=>
  obtain⟨j,hj,rfl,q,rfl,Hq,m,rfl⟩:=hrel
  have hq:=sO l x y (F+j)
  rw[<-Hq.out]at hq
  by_cases hlt:F+j<T
  ·have hc:=HM.out (F+j) (by omega) hlt
   have hX:sS l ((F:Int)+(j:Int))=hb l (F+j):=by
    rw[<-Ym];congr 1
   cases hb':hb l (F+j)with
   |false=>
    rw[hb']at hX hc
    have Hno:=χ (Ny hc)
    have HX:=χ hX
    clear hc hX hb'
    go_wp2_with (go_at_call 107;refine(XF l A n c _ _ _ Hn.out (Hr.out.drewN m) hm).mono ?_;rintro e w' ⟨rfl,m2,rfl⟩;rw[HX.out,qaj])
    go_roundw
    case rel=>exact⟨j+1,by omega,by go_num,q,rfl,χ (by rw[<-Nat.add_assoc,Hno.out,Hq.out]),_,rfl⟩
    case measure=>simp[intOf];omega
   |true=>
    rw[hb']at hX hc
    have fu:=χ (BA hc)
    have HX:=χ hX
    clear hc hX hb'
    go_wp2_with (go_at_call 107;refine(XF l A n c _ _ _ Hn.out (Hr.out.drewN m) hm).mono ?_;rintro e w' ⟨rfl,m2,rfl⟩;rw[HX.out,qaj])
    go_roundw
    case rel=>exact⟨j+1,by omega,by go_num,q+1,by go_num,χ (by rw[<-Nat.add_assoc,fu.out,Hq.out]),_,rfl⟩
    case measure=>simp[intOf];omega
  ·obtain rfl:T=F+j:=by omega
   go_wp2
   go_ret
   exact⟨Uj (by rw[Hq.out]),m,rfl⟩
theorem zM(l:List UInt8)(A:Option qai)(n c:Nat)(B:Nat)(x y:Int)(w:qab)(hn:l.length=n)(hr:Rd w B A (Z6 l))(hm:n<=100000000)(hx:x<=9223372036854775807):
  qad Tryz.prog 179 #[.slice A n c,x,y] w fun e w'=>e=.returned (.int .i64 (cnt l x y (8*l.length):Nat))/\∃m,w'=w.drewN m:=by
 obtain⟨F,T,hE⟩:=Nw x y n
 by_cases h:T<=F
 ·rw[hE.sM hn h]
  exact(DU A n c F T x y w hm hE h (by have:=hE.lo;omega)).mono fun e w' ⟨h1,h2⟩=>⟨h1,h2▸QL w⟩
 ·rw[hE.sK hn]
  exact DT l A n c B F T x y w hn hr hm hE (by omega)
theorem rV(h:¬ (x<=(j:Int))):cnd l x y on j=false:=by simp[cnd,decide_eq_false h]
theorem fq(h:¬ ((j:Int)<y)):cnd l x y on j=false:=by simp[cnd,decide_eq_false h]
theorem DR(h1:x<=(j:Int))(h2:(j:Int)<y):cnd l x y on j=(hb l j==on):=by simp[cnd,decide_eq_true h1,decide_eq_true h2]
theorem Nn(l:List UInt8)(A:Option qai)(n c:Nat)(B:Nat)(x y:Int)(w:qab)(hn:l.length=n)(hr:Rd w B A (Z6 l))(hm:n<=100000000):
  qad Tryz.prog 164 #[.slice A n c,x,y] w fun e w'=>e=.returned (.int .i64 (cnt l x y (8*l.length):Nat))/\w=w':=by
 have Hn:=χ hn
 have Hr:=χ hr
 clear hn hr
 go_enter Tryz.func164,Tryz.ntmps164
 go_wp2
 go_loop [7,8] (fun v k=>∃j:Nat,j<=8*n/\k=.int .i64 j/\∃q:Nat,v=.int .i64 q/\Hid (q=cnt l x y j)) (fun _ k=>8*n-(intOf k).toNat)
 case atStart=>exact⟨0,by omega,rfl,0,rfl,χ rfl⟩
 case round=>
  obtain⟨j,hj,rfl,q,rfl,Hq⟩:=hrel
  have hq:=sO l x y j
  rw[<-Hq.out]at hq
  by_cases hlt:j<8*n
  ·by_cases h1:x<=(j:Int)
   ·by_cases h2:(j:Int)<y
    ·have hc:=DR (l:=l) (on:=true) h1 h2
     have hX:sS l (j:Int)=hb l j:=Ym l j
     cases hb':hb l j with
     |false=>
      rw[hb']at hX hc
      have Hno:=χ (Ny hc)
      have HX:=χ hX
      clear hc hX hb'
      go_wp2_with (go_at_call 161;refine(XP l A n c _ _ _ Hn.out Hr.out hm).mono ?_;rintro e w' ⟨rfl,rfl⟩;rw[HX.out])
      go_round
      case rel=>exact⟨j+1,by omega,by go_num,q,rfl,χ (by rw[Hno.out,Hq.out])⟩
      case measure=>simp[intOf];omega
     |true=>
      rw[hb']at hX hc
      have fu:=χ (BA hc)
      have HX:=χ hX
      clear hc hX hb'
      go_wp2_with (go_at_call 161;refine(XP l A n c _ _ _ Hn.out Hr.out hm).mono ?_;rintro e w' ⟨rfl,rfl⟩;rw[HX.out])
      go_round
      case rel=>exact⟨j+1,by omega,by go_num,q+1,by go_num,χ (by rw[fu.out,Hq.out])⟩
      case measure=>simp[intOf];omega
    ·have Hno:=χ (Ny (fq (l:=l) (x:=x) (on:=true) h2))
     exact zs1
   ·have Hno:=χ (Ny (rV (l:=l) (y:=y) (on:=true) h1))
    exact zs1
  ·obtain rfl:j=8*n:=by omega
   go_wp2
   go_ret
   exact⟨Uj (by rw[Hq.out,Hn.out]),rfl⟩
theorem DN(A:Option qai)(n c F T:Nat)(x y:Int)(on:Bool)(w:qab)(hm:n<=100000000)(hE:Ends x y n F T)(hF:T<=F)(hF2:F<=9223372036854775807):
  qad Tryz.prog 173 #[.slice A n c,x,y,on] w fun e w'=>e=.returned (rW none)/\w=w':=by
 have htop:=hE.top
 have HE:=χ hE
 clear hE
 go_enter Tryz.func173,Tryz.ntmps173
 go_wp2_with (go_at_call 230;refine(QN _ _ _ _ _ F T _ hm HE.out).mono ?_;rintro e w' ⟨rfl,rfl⟩)
 go_loop [21] (fun k=>k=.int .i64 0) (fun _=>0)
 case atStart=>rfl
 case round=>
  obtain rfl:=hrel
  go_wp2
  go_ret2
  exact⟨rfl,rfl⟩
theorem DL(l:List UInt8)(A:Option qai)(n c B F T:Nat)(x y:Int)(on:Bool)(w:qab)(hn:l.length=n)(hr:Rd w B A (Z6 l))(hm:n<=100000000)(hE:Ends x y n F T)(hF:F<T):
  qad Tryz.prog 173 #[.slice A n c,x,y,on] w fun e w'=>e=.returned (rW (fst l x y on (8*l.length)))/\∃m,w'=w.drewN m:=by
 have htop:=hE.top
 have Hn:=χ hn
 have Hr:=χ hr
 have HS:=χ (fun k (h1:F<=k) (h2:k<T) (h3:∀i,F<=i->i<k->(hb l i==on)=false) (h4:(hb l k==on)=true)=>hE.sJ (l:=l) (on:=on) hn h1 h2 h3 h4)
 have HZ:=χ (fun(h3:∀i,F<=i->i<T->(hb l i==on)=false)=>hE.GL (l:=l) (on:=on) hn h3)
 have HE:=χ hE
 clear hn hr hE
 go_enter Tryz.func173,Tryz.ntmps173
 go_wp2_with (go_at_call 230;refine(QN _ _ _ _ _ F T _ hm HE.out).mono ?_;rintro e w' ⟨rfl,rfl⟩)
 go_loopw [21] (fun k wr=>∃j:Nat,F+j<=T/\k=.int .i64 j/\Hid (∀i,F<=i->i<F+j->(hb l i==on)=false)/\∃m,wr=w.drewN m) (fun k _=>T-F-(intOf k).toNat)
 case atStart=>exact⟨0,by omega,rfl,χ (fun i h1 h2=>by omega),QL w⟩
 case round=>
  obtain⟨j,hj,rfl,Hq,m,rfl⟩:=hrel
  by_cases hlt:F+j<T
  ·have hX:sS l ((F:Int)+(j:Int))=hb l (F+j):=by
    rw[<-Ym];congr 1
   cases hb':(hb l (F+j)==on)with
   |false=>
    have Wy:Hid (∀i,F<=i->i<F+(j+1)->(hb l i==on)=false):=χ fun i h1 h2=>by
     by_cases h3:i=F+j
     ·rw[h3];exact hb'
     ·exact Hq.out i h1 (by omega)
    rw[<-hX]at hb'
    clear hX
    go_wp2_with (go_at_call 107;refine(XF l A n c _ _ _ Hn.out (Hr.out.drewN m) hm).mono ?_;rintro e w' ⟨rfl,m2,rfl⟩;rw[qaj])
    go_roundw
    case rel=>exact⟨j+1,by omega,by go_num,Wy,_,rfl⟩
    case measure=>simp[intOf];omega
   |true=>
    have HR:=χ (HS.out (F+j) (by omega) hlt Hq.out hb')
    rw[<-hX]at hb'
    clear hX
    go_wp2_with (go_at_call 107;refine(XF l A n c _ _ _ Hn.out (Hr.out.drewN m) hm).mono ?_;rintro e w' ⟨rfl,m2,rfl⟩;rw[qaj])
    go_ret2
    exact⟨by rw[HR.out];simp[rW],_,rfl⟩
  ·obtain rfl:T=F+j:=by omega
   have HR:=χ (HZ.out Hq.out)
   go_wp2
   go_ret2
   exact⟨by rw[HR.out];rfl,m,rfl⟩
theorem Lb(l:List UInt8)(A:Option qai)(n c:Nat)(B:Nat)(x y:Int)(on:Bool)(w:qab)(hn:l.length=n)(hr:Rd w B A (Z6 l))(hm:n<=100000000)(hx:x<=9223372036854775807):
  qad Tryz.prog 173 #[.slice A n c,x,y,on] w fun e w'=>e=.returned (rW (fst l x y on (8*l.length)))/\∃m,w'=w.drewN m:=by
 obtain⟨F,T,hE⟩:=Nw x y n
 by_cases h:T<=F
 ·rw[hE.GL hn (fun i h1 h2=>by omega)]
  exact(DN A n c F T x y on w hm hE h (by have:=hE.lo;omega)).mono fun e w' ⟨h1,h2⟩=>⟨h1,h2▸QL w⟩
 ·exact DL l A n c B F T x y on w hn hr hm hE (by omega)
end
end Go.Proofs.YtmehhgfbnfbnaaaGreat.Bits

namespace Go.Proofs.YtmehhgfbnfbnaaaGreat.Bits
open Go.RowKit
section
variable {w w1:qab}{l:List UInt8}
theorem info5:(Tryz.prog.info? 5).map (fun i=>(i.zero,i.size,i.bytes))=some (some (.int .u8 0),1,1):=by kernel_rfl
def Made(w:qab)(l:List UInt8)(v:Value)(w':qab):Prop:=w'.ownsRow w.heap.size 5 1 v l.length (Z6 l)/\Below w.heap.size w w'
theorem Wj(w:qab){ops:Array Oper}{rest:List Oper}{o:Oper}{a:Act}{Q:Exit->Act->qab->Prop}(hgd:o.guard=none)(s x:Operand)(ho:o.op=.call {callee:=.builtin .append,args:=#[s,x],argTypes:=#[37,37]})(base:Nat)(v:Value)(n:Nat)(l:List UInt8)(hs:a.eval s=v)(hown:w.ownsRow base 5 1 v n (Z6 l))(B:Nat)(A:Option qai)(m c:Nat)(k:List UInt8)(hx:a.eval x=.slice A m c)(hm:k.length=m)(hr:Rd w B A (Z6 k))(hbytes:n+m<=140737488355328)(hbase:base<=w.heap.size)(h:∀v' w',w'.ownsRow base 5 1 v' (n+m) (Z6 (l++k))->w.grownBy w' v.ownBlock->wpList Tryz.prog ops Q rest (a.put o.dst v') w'):wpList Tryz.prog ops Q (o::rest) a w:=by
 obtain⟨i0,hi,hz0,hz1,hz2⟩:=info_parts info5
 rw[Xc]at h
 exact Ul w hgd s x 37 ho base 5 i0 _ 1 Tryz.underlying37 hi hz0 hz1 hz2 rfl v n _ hs hown B A m c _ hx (by rw[Z4,hm]) hr (YC _) (by simp only[maxLen];omega) (by omega) hbase h
theorem RJ(l:List UInt8)(ad:qai)(n c:Nat)(w:qab)(hn:l.length=n)(hr:Rd w w.heap.size (some ad) (Z6 l))(hm:n<=140737488355328):
  qad Tryz.prog 232 #[.slice (some ad) n c] w fun e w'=>∃v,e=.returned v/\w'.ownsRow w.heap.size 5 1 v n (Z6 l)/\Below w.heap.size w w':=by
 have Hn:=χ hn
 clear hn
 have hne:=fun(u:qab)=>Lib.run_eql_slice_nil (P:=Tryz.prog) u 37 5 ad n c 0 0 Tryz.underlying37
 have uB:(w.alloc (.cells #[] 5)).ownsRow w.heap.size 5 1 (.slice w.heap.size 0 0) 0 (Z6 []):=qab.ownsRow_lit w #[] 0 (Nat.le_refl _) (qap _) rfl
 have hr1:=hr.below ((Below.refl _ w).alloc (Nat.le_refl _) (.cells #[] 5))
 go_enter Tryz.func232,Tryz.ntmps232
 go_wp2_with (at_builtin;refine Wj _ rfl (.tmp 5) (.tmp 6) rfl w.heap.size _ 0 [] rfl uB w.heap.size (some ad) n c l rfl Hn.out hr1 (by omega) (by simp) ?_;intro v w1 hown hgrow)
 go_ret
 rw[Nat.zero_add,List.nil_append]at hown
 exact⟨_,rfl,hown,((Below.refl _ w).alloc (Nat.le_refl _) _).grown hgrow (by simp) (fun k hk=>(uB.lt k hk).1)⟩
theorem KQ{g n c1 i q:Nat}(hn:l.length=n)(hq:q=i/8)(hown:w1.ownsRow w.heap.size 5 1 (.slice g n c1) n (Z6 l))(hb1:Below w.heap.size w w1)(on:Bool):
  Made w (wb l i on) (.slice g n c1) (w1.setCell ⟨g,q,none⟩ (.int .u8 ((NA (l.getD q 0) (i%8) on).toNat:Int))).drew:=by
 have h1:=(hown.stored q (XG (NA (l.getD q 0) (i%8) on))).1
 have e:(Z6 l).set q (XG (NA (l.getD q 0) (i%8) on))=Z6 (wb l i on):=by
  subst hq;simp[Z6,wb,List.map_set]
 rw[e]at h1
 refine⟨?_,(hb1.setCell (hown.lt g rfl).1 _).drew⟩
 rw[XK,hn]
 exact h1
theorem kR(l:List UInt8)(A:Option qai)(n c i:Nat)(w:qab)(hn:l.length=n)(hr:Rd w w.heap.size A (Z6 l))(h:i<8*n)(hl:n<=512):
  qad Tryz.prog 175 #[.slice A n c,i,true] w fun e w'=>∃v,e=.returned (.tuple #[v,()])/\Made w (wb l i true) v w':=by
 have H:=χ (decide_eq_true (show 0<=(i:Int)/\(i:Int)<8*(n:Int)by omega))
 obtain⟨ad,rfl⟩:∃ad,A=some ad:=by
  obtain⟨b,o,h1,_⟩:=OA hn hr h
  exact⟨_,h1⟩
 have Hn:=χ hn
 have Hr:=χ hr
 clear hn hr
 go_enter Tryz.func175,Tryz.ntmps175
 go_wp2_with (first
  |(go_at_call 177;refine(Ui _ _ _ _ _ (by omega)).mono ?_;rintro e w' ⟨rfl,rfl⟩;rw[H.out])
  |(go_at_call 231;refine(Tg _ _ _ _ (by omega)).mono ?_;rintro e w' ⟨rfl,rfl⟩)
  |(go_at_call 232;refine(RJ l ad n c _ Hn.out Hr.out (by omega)).mono ?_;rintro e w1 ⟨v,rfl,hown,hb1⟩))
 obtain⟨g,c1,rfl,hc1⟩:=Zp hown (show 0<n by omega)
 obtain⟨q,hq⟩:∃q,q=i/8:=⟨_,rfl⟩
 have hqi:(i:Int)/8=(q:Int):=by omega
 have hqn:q<n:=by omega
 have hcell:w1.cell? ⟨g,q,none⟩=some (.int .u8 ((l.getD q 0).toNat:Int)):=by
  rw[hown.cellAt q (by omega)]
  have:=Hn.out
  simp[Z6,XG,qaa,show q<l.length by omega]
 have hfr:=hown.frozenAt q
 have hw8:IntKind.i64.wrap (q:Int)=(q:Int):=by rw[qar];omega
 have hi0:(0:Int)<=(q:Int):=qag _
 have hi1:(q:Int)<(n:Int):=by omega
 have Jr:=χ hown
 have HY:=χ (Lg (l.getD q 0) (i%8) (by omega))
 have Hq:=χ hq
 have hlt:=(l.getD q 0).toNat_lt
 clear hown hq
 generalize hy:(l.getD q 0).toNat=y at*
 have Hy:=χ hy
 clear hy
 have e:bits .or .u8 (y:Int) (2^(i%8))=((NA (l.getD q 0) (i%8) true).toNat:Int):=by
  have:=u8_or_nat y (2^(i%8)) (by omega) (SG _ (by omega))
  rw[HY.out,<-this]
  simp
 have E:=χ e
 clear e
 go_region_with (go_at_call 178;refine(Ns _ _ (by omega)).mono ?_;rintro e w' ⟨rfl,rfl⟩)
 all_goals
  have hm:=KQ Hn.out Hq.out Jr.out hb1 true
  rw[<-E.out]at hm
  generalize bits BinOp.or IntKind.u8 (y:Int) (2^(i%8))=u at hm
  go_wp2_with fail
  go_ret2
  exact⟨_,rfl,hm⟩
theorem qw(l:List UInt8)(A:Option qai)(n c i:Nat)(w:qab)(hn:l.length=n)(hr:Rd w w.heap.size A (Z6 l))(h:i<8*n)(hl:n<=512):
  qad Tryz.prog 175 #[.slice A n c,i,false] w fun e w'=>∃v,e=.returned (.tuple #[v,()])/\Made w (wb l i false) v w':=by
 have H:=χ (decide_eq_true (show 0<=(i:Int)/\(i:Int)<8*(n:Int)by omega))
 obtain⟨ad,rfl⟩:∃ad,A=some ad:=by
  obtain⟨b,o,h1,_⟩:=OA hn hr h
  exact⟨_,h1⟩
 have Hn:=χ hn
 have Hr:=χ hr
 clear hn hr
 go_enter Tryz.func175,Tryz.ntmps175
 go_wp2_with (first
  |(go_at_call 177;refine(Ui _ _ _ _ _ (by omega)).mono ?_;rintro e w' ⟨rfl,rfl⟩;rw[H.out])
  |(go_at_call 231;refine(Tg _ _ _ _ (by omega)).mono ?_;rintro e w' ⟨rfl,rfl⟩)
  |(go_at_call 232;refine(RJ l ad n c _ Hn.out Hr.out (by omega)).mono ?_;rintro e w1 ⟨v,rfl,hown,hb1⟩))
 obtain⟨g,c1,rfl,hc1⟩:=Zp hown (show 0<n by omega)
 obtain⟨q,hq⟩:∃q,q=i/8:=⟨_,rfl⟩
 have hqi:(i:Int)/8=(q:Int):=by omega
 have hqn:q<n:=by omega
 have hcell:w1.cell? ⟨g,q,none⟩=some (.int .u8 ((l.getD q 0).toNat:Int)):=by
  rw[hown.cellAt q (by omega)]
  have:=Hn.out
  simp[Z6,XG,qaa,show q<l.length by omega]
 have hfr:=hown.frozenAt q
 have hw8:IntKind.i64.wrap (q:Int)=(q:Int):=by rw[qar];omega
 have hi0:(0:Int)<=(q:Int):=qag _
 have hi1:(q:Int)<(n:Int):=by omega
 have Jr:=χ hown
 have HY:=χ (Nz (l.getD q 0) (i%8))
 have Hq:=χ hq
 have hlt:=(l.getD q 0).toNat_lt
 clear hown hq
 generalize hy:(l.getD q 0).toNat=y at*
 have Hy:=χ hy
 clear hy
 have e:bits .andNot .u8 (y:Int) (2^(i%8))=((NA (l.getD q 0) (i%8) false).toNat:Int):=by
  have:=u8_andNot_nat y (2^(i%8)) (by omega) (SG _ (by omega))
  rw[HY.out,<-this]
  simp
 have E:=χ e
 clear e
 go_region_with (go_at_call 178;refine(Ns _ _ (by omega)).mono ?_;rintro e w' ⟨rfl,rfl⟩)
 all_goals
  have hm:=KQ Hn.out Hq.out Jr.out hb1 false
  rw[<-E.out]at hm
  generalize bits BinOp.andNot IntKind.u8 (y:Int) (2^(i%8))=u at hm
  go_wp2_with fail
  go_ret2
  exact⟨_,rfl,hm⟩
theorem nL(l:List UInt8)(A:Option qai)(n c i:Nat)(on:Bool)(w:qab)(hn:l.length=n)(hr:Rd w w.heap.size A (Z6 l))(h:i<8*n)(hl:n<=512):
  qad Tryz.prog 175 #[.slice A n c,i,on] w fun e w'=>∃v,e=.returned (.tuple #[v,()])/\Made w (wb l i on) v w':=by
 cases on
 ·exact qw l A n c i w hn hr h hl
 ·exact kR l A n c i w hn hr h hl
def Making(w:qab)(l:List UInt8)(k:Nat)(v:Value)(wr:qab):Prop:=wr.ownsRow w.heap.size 5 1 v k (Z6 (l.take k))/\Below w.heap.size w wr
theorem Making.start (w:qab)(l:List UInt8):Making w l 0 (.slice none 0 0) w:=⟨qab.ownsRow_nil _ _ _ _,Below.refl _ _⟩
theorem Making.step {wr:qab}{k x:Nat}{v v':Value}(hk:k<l.length)(hx:l[k].toNat=x)(h:Making w l k v wr)(hown':w1.ownsRow w.heap.size 5 1 v' (k+1) (Z6 (l.take k++[qah x])))(hg':(wr.alloc (.cells #[.int .u8 x] 5)).grownBy w1 v.ownBlock):Making w l (k+1) v' w1:=by
 have hsz:=h.2.size
 have e:l.take (k+1)=l.take k++[qah x]:=by rw[List.take_succ_eq_append_getElem hk,<-hx];simp
 refine⟨by rw[e];exact hown',?_⟩
 exact(h.2.alloc hsz _).grown hg' (by simp;omega) (fun j hj=>(h.1.lt j hj).1)
theorem Gx(w:qab)(x:Nat)(hx:x<256)(t:TypeId):Rd (w.alloc (.cells #[.int .u8 x] t)) (w.heap.size+1) (some ⟨w.heap.size,0,none⟩) (Z6 [qah x]):=by
 refine .inr ⟨w.heap.size,0,rfl,by omega,fun i u hu=>?_⟩
 rw[qab.cell?_alloc_at _ _ _ _ rfl]
 cases i with
 |zero=>
  simp[Z6,XG]at hu⊢
  rw[<-hu,show(x:Int)%256=(x:Int)by omega]
 |succ i=>simp[Z6]at hu
def QB(m:Nat):Nat:=2^m%256
theorem MS(m:Nat)(h:m<8):QB m=2^m:=qao (SG m h)
theorem CY(m:Nat)(_h:m<8):QB m*2%256=QB (m+1):=by unfold QB;rw[qan];omega
theorem qp(l:List UInt8)(A:Option qai)(n c i:Nat)(on:Bool)(w:qab)(hn:l.length=n)(hr:Rd w w.heap.size A (Z6 l))(h:i<8*n)(hl:n<=512):
  qad Tryz.prog 228 #[.slice A n c,i,on] w fun e w'=>∃v,e=.returned (.tuple #[v,()])/\Made w (wb l i on) v w':=by
 obtain⟨L,hL⟩:∃L,L=wb l i on:=⟨_,rfl⟩
 have hLn:L.length=n:=by rw[hL,XK,hn]
 have HL:Hid (∀k j,(hk:k<L.length)->j<8->L[k].toNat.testBit j=(if 8*k+j=i then on else hb l (8*k+j))):=χ (by subst hL;intro k j hk hj;exact mr l i k j on (by omega) hk hj)
 rw[<-hL]
 have Hn:=χ hn
 have kS:=χ hLn
 have Hr:=χ hr
 clear hL hLn hn hr
 go_enter Tryz.func228,Tryz.ntmps228
 go_wp2
 go_loopw [8,9] (fun v i wr=>∃k:Nat,k<=n/\i=.int .i64 k/\Making w L k v wr) (fun _ i _=>n-(intOf i).toNat)
 case atStart=>exact⟨0,qap _,rfl,Making.start w L⟩
 case round=>
  obtain⟨k,hk,rfl,hM⟩:=hrel
  by_cases hlt:k<n
  ·obtain⟨f,hf⟩:∃f:Nat->Bool,f=fun j=>if 8*k+j=i then on else hb l (8*k+j):=⟨_,rfl⟩
   go_wp2
   go_loop [10,11,12] (fun x p z=>∃m:Nat,m<=8/\z=.int .i64 m/\∃u:Nat,x=.int .u8 u/\p=.int .u8 (QB m:Nat)/\Mk f m u) (fun _ _ z=>8-(intOf z).toNat)
   case atStart=>exact⟨0,by omega,rfl,0,rfl,rfl,Mk.start f⟩
   case round=>
    obtain⟨m,hm,rfl,u,rfl,rfl,hK⟩:=hrel
    have hu:=hK.lt hm
    have hbel:=hM.2
    by_cases jw:m<8
    ·have Hw:=χ (CY m jw)
     have hwl:QB m+u<256:=by
      have h1:=hK.1
      have h2:2^(m+1)<=2^8:=qac (by omega) (by omega)
      rw[qan]at h2
      rw[MS m jw]
      omega
     have hwi:0<=(QB m:Int):=qag _
     have hX:sS l (8*(k:Int)+(m:Int))=hb l (8*k+m):=by
      have e:8*(k:Int)+(m:Int)=((8*k+m:Nat):Int):=by omega
      rw[e,Ym]
     have hfe:f m=if 8*k+m=i then on else hb l (8*k+m):=by rw[hf]
     generalize hb l (8*k+m)=t at hX hfe
     clear hf
     by_cases hki:8*k+m=i
     ·rw[if_pos hki]at hfe
      have dE:8*(k:Int)+(m:Int)=(i:Int):=by omega
      rw[dE]at hX
      have HX:=χ hX
      clear hX
      cases on with
      |false=>
       have Hf:=χ hfe
       clear hfe
       go_wp2_with (go_at_call 161;refine(XP l A n c _ _ _ Hn.out (Hr.out.below hbel) (by omega)).mono ?_;rintro e w' ⟨rfl,rfl⟩;rw[HX.out])
       go_round
       case rel=>exact zs4
       case measure=>simp[intOf];omega
      |true=>
       have Hf:=χ hfe
       clear hfe
       go_wp2_with (go_at_call 161;refine(XP l A n c _ _ _ Hn.out (Hr.out.below hbel) (by omega)).mono ?_;rintro e w' ⟨rfl,rfl⟩;rw[HX.out])
       go_round
       case rel=>exact zs2
       case measure=>simp[intOf];omega
     ·rw[if_neg hki]at hfe
      have dE:¬ (8*(k:Int)+(m:Int)=(i:Int)):=by omega
      have hkb:(8*(k:Int)+(m:Int)==(i:Int))=false:=by simp[dE]
      have HX:=χ hX
      clear hX
      cases t with
      |false=>
       have Hf:=χ hfe
       clear hfe
       go_wp2_with (go_at_call 161;refine(XP l A n c _ _ _ Hn.out (Hr.out.below hbel) (by omega)).mono ?_;rintro e w' ⟨rfl,rfl⟩;rw[HX.out])
       go_round
       case rel=>exact zs4
       case measure=>simp[intOf];omega
      |true=>
       have Hf:=χ hfe
       clear hfe
       go_wp2_with (go_at_call 161;refine(XP l A n c _ _ _ Hn.out (Hr.out.below hbel) (by omega)).mono ?_;rintro e w' ⟨rfl,rfl⟩;rw[HX.out])
       go_round
       case rel=>exact zs2
       case measure=>simp[intOf];omega
    ·obtain rfl:m=8:=by omega
     have hkl:k<L.length:=by rw[kS.out];exact hlt
     have Hx:=χ (hK.done L[k] fun j hj=>by rw[hf];exact HL.out k j hkl hj)
     clear hf hK
     obtain⟨hown,hb1⟩:=hM
     have hsz:=hb1.size
     go_wp2_with (at_builtin;refine Wj _ rfl (.tmp 55) (.tmp 57) rfl w.heap.size _ k (L.take k) rfl (hown.alloc _) (wr.heap.size+1) _ 1 1 [qah u] rfl rfl (Gx wr u hu 5) (by omega) (by simp;omega) ?_)
     intro v' w1 hown' hg'
     go_wp2
     go_roundw
     case rel=>exact⟨k+1,by omega,by go_num,Making.step hkl Hx.out ⟨hown,hb1⟩ hown' hg'⟩
     case measure=>simp[intOf];omega
  ·obtain rfl:k=n:=by omega
   go_wp2
   go_ret2
   have h1:=hM.1
   rw[List.take_of_length_le (by rw[kS.out];omega)]at h1
   exact⟨_,rfl,by rw[kS.out];exact h1,hM.2⟩
end
end Go.Proofs.YtmehhgfbnfbnaaaGreat.Bits
