import Derived.Test.YtmehhgfbnfbnaaaGreatQF
import Derived.Test.YtmehhgfbnfbnaaaGreatQTk
import Derived.IntWalk
import Derived.Lib.SlBytesConst
import Derived.StillTailTactics
import Derived.Deep.RegionHeld3
set_option maxRecDepth 100000
set_option maxHeartbeats 25600000
open Go.RowKit.Below renaming refl->qaa,setCell->qaf,alloc->qal
open Nat renaming le_refl->qab
open Go.Lib renaming cell?_alloc_marked->qac
open Go.IntWalk renaming i64_in->qad
open Go renaming World->qae,Calls->qai,Value->qan
open Go.IntKind renaming i64->qag
open Go.RowKit renaming Below->qah
open List renaming not_mem_nil->qaj,mem_cons->qam
open Int renaming mul_le_mul_of_nonneg_right->qak
namespace Go.Proofs.YtmehhgfbnfbnaaaGreat
theorem zr0{P:Prop}(h:P:=by
 unfold X9
 go_enter Tryz.func95,Tryz.ntmps95
 go_wp2_with (first
  |(go_at_call 129;refine(Wq H.out _).mono ?_;rintro e w' ⟨rfl,n,rfl⟩)
  |(go_at_call 130;refine(RF H.out _).mono ?_;rintro e w' ⟨rfl,n2,rfl⟩))
 go_ret2
 refine⟨rfl,?_⟩
 repeat(first|with_reducible exact qaa _ _|with_reducible refine below_drewN ?_ _|with_reducible refine qaf ?_ ?_ _|with_reducible refine qal ?_ ?_ _)
 all_goals(simp<;>omega)):P:=h
theorem zr1{P:Prop}(h:P:=by
 unfold X9
 go_enter Tryz.func129,Tryz.ntmps129
 go_wp2
 go_quiet (fail)
 go_wp2
 go_ret
 exact⟨rfl,_,rfl⟩):P:=h
theorem zr2{P:Prop}(h:P:=by
 unfold X9
 go_enter Tryz.func131,Tryz.ntmps131
 go_wp2
 go_ret
 exact⟨rfl,0,rfl⟩):P:=h
end Go.Proofs.YtmehhgfbnfbnaaaGreat
namespace Go.Proofs.YtmehhgfbnfbnaaaGreat.ZG
open Go.Proofs.YtmehhgfbnfbnaaaGreat
open Go.RowKit
section
variable {j i g p:Int}
def X9(j i g p:Int):qan:=.agg #[j,i,g,p]
def BN(j l g b i k a:Int):qan:=.agg #[j,l,g,b,i,k,a]
structure Valid(j i g p:Int):Prop where
 j1:3<=j
 j2:j<=1000
 i1:2<=i
 i2:i<=64
 i3:i%2=0
 g1:1<=g
 g2:g<=64
 p1:1<=p
 gp:g*p<=512
theorem Valid.p2 (h:Valid j i g p):p<=512:=by
 have h1:=h.g1
 have h2:=h.p1
 have h3:=h.gp
 have:1*p<=g*p:=qak h1 (by omega)
 omega
theorem Valid.q (h:Valid j i g p):p<=512/g:=
 Int.le_ediv_of_mul_le (by have:=h.g1;omega) (by rw[Int.mul_comm];exact h.gp)
theorem Valid.abX (j1:3<=j)(j2:j<=1000)(i1:2<=i)(i2:i<=64)(i3:i%2=0)(g1:1<=g)(g2:g<=64)(p1:1<=p)(q:p<=512/g):Valid j i g p:=
 ⟨j1,j2,i1,i2,i3,g1,g2,p1,by
  have:=Int.mul_le_of_le_ediv (by omega) q
  rw[Int.mul_comm];exact this⟩
theorem Valid.gF (h:Valid j i g p):1<=g*p:=by
 have h1:=h.g1
 have h2:=h.p1
 have:1*p<=g*p:=qak h1 (by omega)
 omega
end
end Go.Proofs.YtmehhgfbnfbnaaaGreat.ZG

namespace Go.Proofs.YtmehhgfbnfbnaaaGreat.ZG
open Go.Proofs.YtmehhgfbnfbnaaaGreat
open Go.RowKit
section
variable {j i g p:Int}
def Boxed(w:qae)(j i g p:Int)(w':qae):Prop:=∃n,w'=(w.alloc (.cells #[j,i,g,p] 29)).drewN n
theorem sI(w:qae)(xs:Array qan)(t:TypeId)(n:Nat):qah w.heap.size w ((w.alloc (.cells xs t)).drewN n):=below_drewN ((qaa _ w).alloc (qab _) _) n
theorem Boxed.below {w w':qae}(h:Boxed w j i g p w'):qah w.heap.size w w':=by
 obtain⟨n,rfl⟩:=h
 exact sI _ _ _ _
theorem Wq(h:Valid j i g p)(w:qae):qai Tryz.prog 129 #[X9 j i g p] w fun e w'=>e=.returned (.bool true)/\Boxed w j i g p w':=by
 have q:=h.q
 have q':decide (p<=512/g)=true:=decide_eq_true q
 obtain⟨j1,j2,i1,i2,i3,g1,g2,p1,gp⟩:=h
 exact zr1
theorem GK(h:¬ Valid j i g p)(w:qae):qai Tryz.prog 129 #[X9 j i g p] w fun e w'=>e=.returned (.bool false)/\Boxed w j i g p w':=by
 by_cases j1:3<=j
 rotate_left
 ·clear h
  have q':decide (3<=j)=false:=decide_eq_false j1
  exact zr1
 by_cases j2:j<=1000
 rotate_left
 ·clear h
  have q':decide (j<=1000)=false:=decide_eq_false j2
  exact zr1
 by_cases i1:2<=i
 rotate_left
 ·clear h
  have q':decide (2<=i)=false:=decide_eq_false i1
  exact zr1
 by_cases i2:i<=64
 rotate_left
 ·clear h
  have q':decide (i<=64)=false:=decide_eq_false i2
  exact zr1
 by_cases i3:i%2=0
 rotate_left
 ·clear h
  have i4:i%2=1:=by omega
  exact zr1
 by_cases g1:1<=g
 rotate_left
 ·clear h
  have q':decide (1<=g)=false:=decide_eq_false g1
  exact zr1
 by_cases g2:g<=64
 rotate_left
 ·clear h
  have q':decide (g<=64)=false:=decide_eq_false g2
  exact zr1
 by_cases p1:1<=p
 rotate_left
 ·clear h
  have q':decide (1<=p)=false:=decide_eq_false p1
  exact zr1
 by_cases q:p<=512/g
 rotate_left
 ·clear h
  have q':decide (p<=512/g)=false:=decide_eq_false q
  exact zr1
 exact(h (Valid.abX j1 j2 i1 i2 i3 g1 g2 p1 q)).elim
theorem Eo(h:Valid j i g p)(w:qae):qai Tryz.prog 131 #[X9 j i g p] w fun e w'=>e=.returned (.bool true)/\Boxed w j i g p w':=by
 have p2:=h.p2
 have gF:=h.gF
 obtain⟨j1,j2,i1,i2,i3,g1,g2,p1,gp⟩:=h
 have q':decide (g*p<=512)=true:=decide_eq_true gp
 exact zr2
theorem zC(h:¬ Valid j i g p)(w:qae):qai Tryz.prog 131 #[X9 j i g p] w fun e w'=>e=.returned (.bool false)/\Boxed w j i g p w':=by
 by_cases j1:3<=j
 rotate_left
 ·clear h
  have q':decide (3<=j)=false:=decide_eq_false j1
  have r':decide (j<3)=true:=decide_eq_true (by omega)
  exact zr2
 by_cases j2:j<=1000
 rotate_left
 ·clear h
  have q':decide (j<=1000)=false:=decide_eq_false j2
  have r':decide (1000<j)=true:=decide_eq_true (by omega)
  exact zr2
 by_cases i1:2<=i
 rotate_left
 ·clear h
  have q':decide (2<=i)=false:=decide_eq_false i1
  have r':decide (i<2)=true:=decide_eq_true (by omega)
  exact zr2
 by_cases i2:i<=64
 rotate_left
 ·clear h
  have q':decide (i<=64)=false:=decide_eq_false i2
  have r':decide (64<i)=true:=decide_eq_true (by omega)
  exact zr2
 by_cases i3:i%2=0
 rotate_left
 ·clear h
  have i4:i%2=1:=by omega
  exact zr2
 by_cases g1:1<=g
 rotate_left
 ·clear h
  have q':decide (1<=g)=false:=decide_eq_false g1
  have r':decide (g<1)=true:=decide_eq_true (by omega)
  exact zr2
 by_cases g2:g<=64
 rotate_left
 ·clear h
  have q':decide (g<=64)=false:=decide_eq_false g2
  have r':decide (64<g)=true:=decide_eq_true (by omega)
  exact zr2
 by_cases p1:1<=p
 rotate_left
 ·clear h
  have q':decide (1<=p)=false:=decide_eq_false p1
  have r':decide (p<1)=true:=decide_eq_true (by omega)
  exact zr2
 by_cases p2:p<=512
 rotate_left
 ·clear h
  have q':decide (p<=512)=false:=decide_eq_false p2
  have r':decide (512<p)=true:=decide_eq_true (by omega)
  exact zr2
 by_cases q:g*p<=512
 rotate_left
 ·clear h
  have q':decide (g*p<=512)=false:=decide_eq_false q
  have r':decide (512<g*p)=true:=decide_eq_true (by omega)
  have gF:g*p<=64*512:=Int.mul_le_mul g2 p2 (by omega) (by omega)
  have gp0:0<=g*p:=Int.mul_nonneg (by omega) (by omega)
  exact zr2
 exact(h ⟨j1,j2,i1,i2,i3,g1,g2,p1,q⟩).elim
end
end Go.Proofs.YtmehhgfbnfbnaaaGreat.ZG

namespace Go.Proofs.YtmehhgfbnfbnaaaGreat.ZG
open Go.Proofs.YtmehhgfbnfbnaaaGreat
open Go.RowKit
section
variable {j i g p:Int}
theorem RF(h:Valid j i g p)(w:qae):qai Tryz.prog 130 #[X9 j i g p] w fun e w'=>e=.returned (.int .i64 (g*p))/\Boxed w j i g p w':=by
 have h1:=h.gp
 have h2:=h.gF
 clear h
 unfold X9
 go_enter Tryz.func130,Tryz.ntmps130
 go_wp2
 go_ret
 exact⟨rfl,0,rfl⟩
def Bq(j i g p:Int):qan:=BN 1 (1+j) (1+j+1) (1+j+1+1) (1+j+1+1+1) (1+j+1+1+1+i/2) (1+j+1+1+1+i/2+g*p)
theorem Ob(h:Valid j i g p)(w:qae):qai Tryz.prog 65 #[X9 j i g p] w fun e w'=>e=.returned (.tuple #[Bq j i g p,()])/\qah w.heap.size w w':=by
 have H:=χ h
 have h1:=h.gp
 have h2:=h.gF
 obtain⟨j1,j2,i1,i2,i3,g1,g2,p1,gp⟩:=h
 have hw:qag.wrap (1+j+1+1+1+i/2+g*p)=1+j+1+1+1+i/2+g*p:=qad _ (by omega)
 unfold X9
 go_enter Tryz.func65,Tryz.ntmps65
 go_wp2_with (go_at_call 129;refine(Wq H.out _).mono ?_;rintro e w' ⟨rfl,n,rfl⟩)
 go_region_with ((go_at_call 130;refine(RF H.out _).mono ?_;rintro e w' ⟨rfl,n2,rfl⟩))
 all_goals
  go_wp2
  refine bodyPost_ret (v:=.tuple #[Bq j i g p,()]) (by simp[results,Tryz.results65,go_sem,Bq,BN]) rfl ⟨rfl,?_⟩
  repeat(first|with_reducible exact qaa _ _|with_reducible refine below_drewN ?_ _|with_reducible refine qaf ?_ ?_ _|with_reducible refine qal ?_ ?_ _)
  all_goals(simp<;>omega)
end
end Go.Proofs.YtmehhgfbnfbnaaaGreat.ZG

namespace Go.Proofs.YtmehhgfbnfbnaaaGreat.ZG
open Go.Proofs.YtmehhgfbnfbnaaaGreat
open Go.RowKit
section
variable {j i g p:Int}
theorem Q7(h:Valid j i g p)(w:qae):qai Tryz.prog 72 #[X9 j i g p] w fun e w'=>e=.returned (.int .i64 (3+i/2))/\qah w.heap.size w w':=by
 have H:=χ h
 have h1:=h.gp
 have h2:=h.gF
 obtain⟨j1,j2,i1,i2,i3,g1,g2,p1,gp⟩:=h
 have hw:qag.wrap (1+j+1+1+1+i/2-(1+j))=3+i/2:=by rw[qad _ (by omega)];omega
 have hw2:1+j+1+1+1+i/2-(1+j)=3+i/2:=by omega
 have hpl:Bq j i g p=.agg #[.int .i64 1,.int .i64 (1+j),.int .i64 (1+j+1),.int .i64 (1+j+1+1),.int .i64 (1+j+1+1+1),.int .i64 (1+j+1+1+1+i/2),.int .i64 (1+j+1+1+1+i/2+g*p)]:=rfl
 unfold X9
 go_enter Tryz.func72,Tryz.ntmps72
 go_wp2_with (go_at_call 65;refine(Ob H.out _).mono ?_;rintro e w1 ⟨rfl,hb⟩)
 have hB1:qah w.heap.size w w1:=((qaa _ w).alloc (qab _) _).trans (hb.mono (by simp))
 have hs1:=hB1.size
 go_ret
 refine⟨rfl,?_⟩
 repeat(first|with_reducible exact hB1|with_reducible exact qaa _ _|with_reducible refine below_drewN ?_ _|with_reducible refine qaf ?_ ?_ _|with_reducible refine qal ?_ ?_ _)
 all_goals(first|assumption|(simp<;>omega))
def InB(g p x:Int):Prop:=0<=x/\x<g*p
theorem rU(x:Int)(h:Valid j i g p)(hx:¬ InB g p x)(w:qae):qai Tryz.prog 95 #[X9 j i g p,x] w fun e w'=>e=.returned (.tuple #[(),false])/\qah w.heap.size w w':=by
 have H:=χ h
 by_cases h0:x<0
 ·clear hx
  unfold X9
  go_enter Tryz.func95,Tryz.ntmps95
  go_wp2_with (go_at_call 129;refine(Wq H.out _).mono ?_;rintro e w' ⟨rfl,n,rfl⟩)
  go_ret2
  refine⟨rfl,?_⟩
  repeat(first|with_reducible exact qaa _ _|with_reducible refine below_drewN ?_ _|with_reducible refine qaf ?_ ?_ _|with_reducible refine qal ?_ ?_ _)
  all_goals(simp<;>omega)
 ·have h1:g*p<=x:=by unfold InB at hx;omega
  have h1':decide (g*p<=x)=true:=decide_eq_true h1
  clear hx
  exact zr0
theorem yA(x:Int)(h:Valid j i g p)(hx:InB g p x)(w:qae):qai Tryz.prog 95 #[X9 j i g p,x] w fun e w'=>e=.returned (.tuple #[.int .i64 (x/p),true])/\qah w.heap.size w w':=by
 have H:=χ h
 obtain⟨h0,h1⟩:=hx
 have h2:¬ g*p<=x:=by omega
 have h2':decide (g*p<=x)=false:=decide_eq_false h2
 have p1:=h.p1
 have gp:=h.gp
 clear h
 exact zr0
end
end Go.Proofs.YtmehhgfbnfbnaaaGreat.ZG

namespace Go.Proofs.YtmehhgfbnfbnaaaGreat.ZG
open Go.Proofs.YtmehhgfbnfbnaaaGreat
open Go.RowKit
def Pp:List UInt8:=[109,111,97,116]
def Ty(J I G P:Nat):List UInt8:=Pp++Y0 2 [J,I,G,P]
def Yg(J I G P:Nat):List UInt8:=UQ (Ya (Ty J I G P) 60)
theorem WI(J I G P:Nat):(Ty J I G P).length=12:=by simp[Ty,Pp,ZA]
theorem Xn(J I G P:Nat):(Yg J I G P).length=64:=by
 unfold Yg
 rw[UO,Xw _ _ (by rw[WI];omega)]
theorem FR{w w1:qae}{j i g p:Int}(h:Boxed (w.alloc (.cells #[j,i,g,p] 29)) j i g p w1):
  w1.cell? ⟨w.heap.size,0,none⟩=some (.int .i64 j)/\w1.cell? ⟨w.heap.size,1,none⟩=some (.int .i64 i)/\w1.cell? ⟨w.heap.size,2,none⟩=some (.int .i64 g)/\w1.cell? ⟨w.heap.size,3,none⟩=some (.int .i64 p)/\qah w.heap.size w w1/\w.heap.size<w1.heap.size:=by
 have hb:=h.below
 have hk:Bk (w.alloc (.cells #[j,i,g,p] 29)) w.heap.size 29 [j,i,g,p]:=Bk.new w 29 _
 have hk1:=hk.below hb (by simp)
 exact⟨hk1.cell 0,hk1.cell 1,hk1.cell 2,hk1.cell 3,((qaa _ w).alloc (qab _) _).trans (hb.mono (by simp)),by have:=hb.size;simp at this;omega⟩
theorem xR(w:qae):∃wm,(convert 37 37 (.slice w.heap.size 4 4)).run Tryz.prog (w.alloc (.cells #[.int .u8 109,.int .u8 111,.int .u8 97,.int .u8 116] 5))=.ok (.slice w.heap.size 4 4) wm/\
  Rd wm wm.heap.size (some ⟨w.heap.size,0,none⟩) (Z6 Pp)/\qah w.heap.size w wm/\w.heap.size<wm.heap.size:=by
 refine⟨_,Lib.run_convert_bytes_const (P:=Tryz.prog) w 37 5 _ 4 4 Tryz.underlying37 Tryz.underlying5,.inr ⟨w.heap.size,0,rfl,by simp,fun j u hu=>?_⟩,(qaa _ w).alloc (qab _) _,by simp⟩
 have h:=heap_alloc_new w (.cells #[.int .u8 109,.int .u8 111,.int .u8 97,.int .u8 116] 5 (4,5))
 refine(cell_of_row _ _ _ _ _ _ h).trans ?_
 rw[Nat.zero_add,<-Array.getElem?_toList]
 exact hu
theorem Ih{J I G P:Nat}(h:Valid J I G P)(w:qae):qai Tryz.prog 113 #[X9 J I G P] w fun e w'=>∃v,e=.returned (.tuple #[v,()])/\Made w (Yg J I G P) v w':=by
 have H:=χ h
 have p2:=h.p2
 obtain⟨j1,j2,i1,i2,i3,g1,g2,p1,gp⟩:=h
 have Hf:Hid (∀x∈[J,I,G,P],WB x 2=true):=by
  intro x hx
  simp only[qam,qaj,or_false]at hx
  simp only[WB,decide_eq_true_eq]
  rcases hx with rfl|rfl|rfl|rfl<;>omega
 unfold X9
 go_enter Tryz.func113,Tryz.ntmps113
 go_wp2_with (go_at_call 129;refine(Wq H.out _).mono ?_;rintro e w1 ⟨rfl,hbx⟩;obtain⟨k0,k1,k2,k3,hb0,hs0⟩:=FR hbx;have HB0:=χ hb0;clear hbx hb0)
 have hrd:Rd (w1.alloc (.cells #[.int .u64 J,.int .u64 I,.int .u64 G,.int .u64 P] 41)) (w1.alloc (.cells #[.int .u64 J,.int .u64 I,.int .u64 G,.int .u64 P] 41)).heap.size (some ⟨w1.heap.size,0,none⟩) (Zg [J,I,G,P]):=(Bk.new w1 41 (Zg [J,I,G,P])).rd 4 0
 refine(NU [J,I,G,P] _ 4 4 2 _ rfl hrd (by omega) (by omega) ?_ Hf.out (by omega)).mono ?_
 ·intro x hx
  simp only[qam,qaj,or_false]at hx
  rcases hx with rfl|rfl|rfl|rfl<;>omega
 rintro e w2 ⟨v,rfl,hown,hb2⟩
 have hb1:qah w.heap.size w w2:=(HB0.out.alloc HB0.out.size _).trans (hb2.mono (by simp;omega))
 clear hb2
 obtain⟨L,hL⟩:∃L,L=Y0 2 [J,I,G,P]:=⟨_,rfl⟩
 have wJ:L.length=8:=by rw[hL,ZA];rfl
 rw[<-hL,wJ]at hown
 have HL:=χ hL
 have HLl:=χ wJ
 obtain⟨_,A2,c2,rfl,hc2,_,hr2⟩:=Yx hown
 have HR2:=χ hr2
 have HB1:=χ hb1
 clear hL wJ hown hr2 hb1
 obtain⟨wm,kc,hrm,oH,hsm⟩:=xR w2
 have aa3:=HB1.out.trans (oH.mono HB1.out.size)
 have aa4:=(HR2.out.below oH).more oH.size
 have uD:Hid (∀u:qae,qah wm.heap.size wm u->∀p∈[((.slice w2.heap.size 4 4:qan),Pp),(.slice A2 8 c2,L)],Part u p):=by
  intro u hu p hp
  have hs:=hu.size
  simp only[qam,qaj,or_false]at hp
  rcases hp with rfl|rfl
  ·exact⟨_,4,4,rfl,rfl,qab _,(hrm.below hu).more hs⟩
  ·exact⟨A2,8,c2,rfl,HLl.out,hc2,(aa4.below hu).more hs⟩
 have HBm:=χ aa3
 clear oH hrm aa4 aa3
 have hal:qah wm.heap.size wm (wm.alloc (.cells #[.slice w2.heap.size 4 4,.slice A2 8 c2] 37)):=(qaa _ wm).alloc (qab _) _
 have htot:total [((.slice w2.heap.size 4 4:qan),Pp),(.slice A2 8 c2,L)]=Ty J I G P:=by simp[total,Ty,HL.out]
 have uC:=χ htot
 have Hal:=χ hal
 clear htot hal
 go_wp2_with fail
 clear kc
 refine(NT [((.slice w2.heap.size 4 4:qan),Pp),(.slice A2 8 c2,L)] _ 2 2 _ rfl ?_ (uD.out _ Hal.out) ?_ (by omega)).mono ?_
 ·exact .inr ⟨wm.heap.size,0,rfl,by simp,fun j u hu=>by
   match j,hu with
   |0,hu=>rw[qae.cell?_alloc_at _ _ _ _ rfl];simpa using hu
   |1,hu=>rw[qae.cell?_alloc_at _ _ _ _ rfl];simpa using hu
   |j+2,hu=>simp at hu⟩
 ·rw[uC.out,WI];omega
 rintro e w3 ⟨v,rfl,hown3,hb3⟩
 rw[uC.out,WI]at hown3
 have aa5:qah w.heap.size w w3:=(HBm.out.trans (Hal.out.mono HBm.out.size)).trans (hb3.mono (by have:=HBm.out.size;simp;omega))
 obtain⟨_,A3,c3,rfl,hc3,_,hr3⟩:=Yx hown3
 have HR3:=χ hr3
 have HB3:=χ aa5
 have Hl3:=χ (WI J I G P)
 clear hown3 hb3 aa5 hr3
 go_wp2_with (first
  |(go_at_call 186;refine(OE (Ty J I G P) A3 12 c3 60 _ Hl3.out HR3.out (by omega) (by omega)).mono ?_;rintro e w4 ⟨v,rfl,Rf,hb4⟩;have Hl4:=χ (show(Ya (Ty J I G P) 60).length=60 from Xw _ _ (by rw[WI];omega));rw[Hl4.out]at Rf;obtain⟨hl4,A4,c4,rfl,hc4,_,hr4⟩:=Yx Rf;have HR4:=χ hr4;have VT:=χ (HB3.out.trans (hb4.mono HB3.out.size));clear Rf hb4 hr4 hl4)
  |(go_at_call 188;refine(Ia (Ya (Ty J I G P) 60) A4 60 c4 _ Hl4.out HR4.out hc4 (by omega)).mono ?_;rintro e w5 ⟨v,rfl,hm5⟩;have wK:=χ hm5;clear hm5))
 go_ret2
 exact⟨_,rfl,ZL wK.out.1 VT.out.size,VT.out.trans (wK.out.2.mono VT.out.size)⟩
end Go.Proofs.YtmehhgfbnfbnaaaGreat.ZG

namespace Go.Proofs.YtmehhgfbnfbnaaaGreat.ZG
open Go.Proofs.YtmehhgfbnfbnaaaGreat
open Go.RowKit
def ZI(l:List UInt8)(k:Nat):Nat:=le ((l.drop k).take 2)
theorem YK(l:List UInt8)(k:Nat):ZI l k<65536:=by
 have h:=BK ((l.drop k).take 2)
 have h2:((l.drop k).take 2).length<=2:=by simp;omega
 have h3:256^((l.drop k).take 2).length<=256^2:=Nat.pow_le_pow_right (by omega) h2
 unfold ZI
 omega
theorem dL(l:List UInt8)(hl:l.length=64):Ze 2 ((l.drop 4).take 8)=[ZI l 4,ZI l 6,ZI l 8,ZI l 10]:=by
 have h:((l.drop 4).take 8).length=8:=by simp[hl]
 unfold Ze
 rw[h]
 simp[ZI,List.drop_take,List.take_take,List.drop_drop,List.range_succ]
theorem XO(l m:List UInt8)(A:Option Addr)(n c:Nat)(A2:Option Addr)(n2 c2 B B2:Nat)(w:qae)(hn:l.length=n)(hr:Rd w B A (Z6 l))(hn2:m.length=n2)(hr2:Rd w B2 A2 (Z6 m)):
  qai Tryz.prog 145 #[.slice A n c,.slice A2 n2 c2] w fun e w'=>e=.returned (.bool (l==m))/\w=w':=by
 have h1:=VB (c:=c) hn hr
 have h2:=VB (c:=c2) hn2 hr2
 clear hn hr hn2 hr2
 go_enter Tryz.func145,Tryz.ntmps145
 go_wp2
 go_ret
 exact⟨rfl,rfl⟩
theorem aba{w w1:qae}{g1:Nat}{a b c d:qan}{t:TypeId}{xs:Array qan}(h0:w1.cell? ⟨g1,0,none⟩=some a)(h1:w1.cell? ⟨g1,1,none⟩=some b)(h2:w1.cell? ⟨g1,2,none⟩=some c)(h3:w1.cell? ⟨g1,3,none⟩=some d)(h:qah w.heap.size w w1):
  (w1.alloc (.cells xs t)).drew.cell? ⟨g1,0,none⟩=some a/\(w1.alloc (.cells xs t)).drew.cell? ⟨g1,1,none⟩=some b/\(w1.alloc (.cells xs t)).drew.cell? ⟨g1,2,none⟩=some c/\(w1.alloc (.cells xs t)).drew.cell? ⟨g1,3,none⟩=some d/\qah w.heap.size w (w1.alloc (.cells xs t)).drew:=
 ⟨qac _ h0,qac _ h1,qac _ h2,qac _ h3,(h.alloc h.size _).drew⟩
theorem zJ(l:List UInt8)(A:Option Addr)(c:Nat)(w:qae)(hl:l.length=64)(hr:Rd w w.heap.size A (Z6 l))(hc:64<=c)(h:Valid (ZI l 4) (ZI l 6) (ZI l 8) (ZI l 10))(hne:l=Yg (ZI l 4) (ZI l 6) (ZI l 8) (ZI l 10)):
  qai Tryz.prog 148 #[.slice A 64 c] w fun e w'=>e=.returned (.tuple #[X9 (ZI l 4) (ZI l 6) (ZI l 8) (ZI l 10),()])/\qah w.heap.size w w':=by
 have H:=χ h
 have Hne:Hid ((l==Yg (ZI l 4) (ZI l 6) (ZI l 8) (ZI l 10))=true):=by unfold Hid;simpa using hne
 have Hl:=χ hl
 have HR:=χ hr
 clear hne
 have HT:=χ (dL l hl)
 have hd:=hr.drop (k:=4) (c:=c) (by rw[Z4];omega) (by rw[Z4];omega)
 rw[if_neg (by omega),<-WW]at hd
 have hd8:=hd.take 8
 rw[<-Tt]at hd8
 have HD:=χ hd8
 have HL:=χ (show((l.drop 4).take 8).length=8 by simp[hl])
 have bJ:=YK l 4
 have bI:=YK l 6
 have bG:=YK l 8
 have bP:=YK l 10
 generalize ZI l 4=J at*
 generalize ZI l 6=I at*
 generalize ZI l 8=G at*
 generalize ZI l 10=P at*
 clear hd hd8 h hl hr
 go_enter Tryz.func148,Tryz.ntmps148
 go_wp2_with fail
 refine(JR ((l.drop 4).take 8) _ 8 (c-4) 4 2 _ HL.out ((HD.out.below ((qaa _ w).alloc (qab _) _)).more (by simp)) (by omega) (by omega) (by omega) (by omega) (by omega)).mono ?_
 rintro e w1 ⟨v,rfl,hm1⟩
 rw[HT.out]at hm1
 obtain⟨hown1,hb1⟩:=hm1
 obtain⟨g1,c1,rfl,hc1⟩:=Zp hown1 (by simp)
 have q0:w1.cell? ⟨g1,0,none⟩=some (.int .u64 J):=hown1.cellAt 0 (by simp)
 have q1:w1.cell? ⟨g1,1,none⟩=some (.int .u64 I):=hown1.cellAt 1 (by simp)
 have q2:w1.cell? ⟨g1,2,none⟩=some (.int .u64 G):=hown1.cellAt 2 (by simp)
 have q3:w1.cell? ⟨g1,3,none⟩=some (.int .u64 P):=hown1.cellAt 3 (by simp)
 have oI:=χ ((Bk.new w 29 [(),(),(),()]).below hb1 (by simp))
 have HB1:=χ (((qaa _ w).alloc (qab _) _).trans (hb1.mono (by simp)))
 have e4:[J,I,G,P].length=4:=rfl
 rw[e4]at hc1
 clear hown1 hb1 e4
 have z1:qag.wrap (J:Int)=J:=qad _ (by omega)
 have z2:qag.wrap (I:Int)=I:=qad _ (by omega)
 have z3:qag.wrap (G:Int)=G:=qad _ (by omega)
 have z4:qag.wrap (P:Int)=P:=qad _ (by omega)
 go_wp2_with fail
 go_region_held3 (fun u=>u.cell? ⟨g1,0,none⟩=some (.int .u64 J)/\u.cell? ⟨g1,1,none⟩=some (.int .u64 I)/\u.cell? ⟨g1,2,none⟩=some (.int .u64 G)/\u.cell? ⟨g1,3,none⟩=some (.int .u64 P)/\qah w.heap.size w u) (first|exact⟨q0,q1,q2,q3,HB1.out.drew⟩|exact aba q0 q1 q2 q3 HB1.out) (first|fail)
 have HBa:=χ (HB1.out.alloc HB1.out.size (.cells #[J,I,G,P] 29)).drew
 have jo:Hid (Bk (w1.alloc (.cells #[J,I,G,P] 29)).drew w.heap.size 29 [(),(),(),()]):=oI.out.below ((qaa _ w1).alloc (qab _) _).drew oI.out.lt
 have dK:Hid (Bk (w1.alloc (.cells #[J,I,G,P] 29)).drew w1.heap.size 29 [J,I,G,P]):=Bk.new w1 29 _
 obtain⟨wa,hwa⟩:∃wa,wa=(w1.alloc (.cells #[J,I,G,P] 29)).drew:=⟨_,rfl⟩
 rw[<-hwa]at HBa jo dK⊢
 clear hwa q0 q1 q2 q3 z1 z2 z3 z4
 have e0:=dK.out.cell 0
 have e1:=dK.out.cell 1
 have e2:=dK.out.cell 2
 have e3:=dK.out.cell 3
 go_wp2_with fail
 clear e0 e1 e2 e3
 refine(Ih H.out _).mono ?_
 rintro e w2 ⟨v,rfl,hown2,hb2⟩
 rw[Xn]at hown2
 obtain⟨_,A2,d2,rfl,hd2,_,hr2⟩:=Yx hown2
 have HR2:=χ hr2
 have HS:=χ (Xn J I G P)
 have Lm:=χ (jo.out.below hb2 jo.out.lt)
 have HG2:=χ (dK.out.below hb2 dK.out.lt)
 have d0':=HG2.out.cell 0
 have d1':=HG2.out.cell 1
 have d2':=HG2.out.cell 2
 have d3':=HG2.out.cell 3
 have c0:=Lm.out.cell 0
 have c1:=Lm.out.cell 1
 have c2:=Lm.out.cell 2
 have c3:=Lm.out.cell 3
 have f0:=Lm.out.frozen 0
 have f1:=Lm.out.frozen 1
 have f2:=Lm.out.frozen 2
 have f3:=Lm.out.frozen 3
 have HB2:=χ (HBa.out.trans (hb2.mono HBa.out.size))
 clear hb2 hown2 hr2
 go_wp2_with (go_at_call 145;refine(XO l (Yg J I G P) A 64 c A2 64 d2 _ _ _ Hl.out (HR.out.below HB2.out) HS.out HR2.out).mono ?_;rintro e w' ⟨rfl,rfl⟩;rw[Hne.out])
 refine bodyPost_ret (v:=.tuple #[X9 J I G P,()]) (by simp[results,Tryz.results148,go_sem,X9,c0,c1,c2,c3]) rfl ⟨rfl,?_⟩
 repeat(first|with_reducible exact HB2.out|with_reducible refine qaf ?_ ?_ _)
 all_goals simp
end Go.Proofs.YtmehhgfbnfbnaaaGreat.ZG
