import Derived.Test.YtmehhgfbnfbnaaaGreatQMetaU
import Derived.Test.YtmehhgfbnfbnaaaGreatQInternA
import Derived.Test.YtmehhgfbnfbnaaaGreatQTk
import Derived.Deep.WholeRow
import Derived.Test.YtmehhgfbnfbnaaaGreatQMetaX1
import Derived.Test.YtmehhgfbnfbnaaaGreatQF
import Derived.Test.YtmehhgfbnfbnaaaGreatQMetaA
import Derived.RangeFuncNested
import Derived.RangeFuncBound
import Derived.RangeFuncCalls
import Derived.RangeFuncLeaves
import Derived.RangeFuncBox
import Derived.RangeFuncFrom
import Derived.Shelf.RegionOpen
import Derived.Shelf.Abstract
import Derived.OwnWalkIn
import Derived.TacticsInMore
import Derived.LoopNIn
import Derived.LoopIn
import Derived.BigRegionIn
import Derived.Test.YtmehhgfbnfbnaaaGreatQInodeB
set_option maxRecDepth 100000
set_option maxHeartbeats 25600000
open List renaming getElem?_eq_getElem->qaa,replicate->qac,range->qad,length_nil->qaj,append_toArray->qak,getElem?_eq_some_iff->qal,size_toArray->qam,push_toArray->qan,length_cons->qap,cons_append->qaq,nil_append->qas,getElem?_append_right->qaD,getD_eq_getElem?_getD->qaE,getElem?_append_left->qaF,set_append_right->qaI,length_singleton->qaJ,getElem?_eq_none->qaK
open Go renaming World->qab,Value->qaf,TypeId->qar,info_parts->qat,heap_alloc_new->qav,callsIn_of_wp->qay,wpListIn_plain->qaH,Addr->qaM
open Nat renaming le_refl->qae,reduceSub->qaw,reduceAdd->qax,sub_self->qaz
open Array renaming replicate_zero->qag,replicate_succ->qah
open Go.Fence renaming wide->qai
open Int renaming toNat_natCast->qao,le_refl->qaA
open Go.Instr renaming makeSlice->qau
open Go.Oper renaming semAt_plain->qaB
open Go.Value renaming cells->qaC
open Go.Builtin renaming append_->qaG,copy_->qaL
namespace Go.Proofs.YtmehhgfbnfbnaaaGreat
theorem zz0{P:Prop}(h:P:=by
 rintro pre x W1 ⟨xs,hxs,hj⟩ hlen hx
 have hl:xs.length=pre.length:=by rw[<-hxs,List.length_map]
 obtain⟨fn,tmps,assign,body,hy,hR⟩:=hY xs ⟨x,hx⟩ W1 hj (by omega)
 refine⟨fn,tmps,assign,body,hy,hR.mono ?_⟩
 rintro e W' (⟨rfl,h3,h4⟩|⟨rfl,h3⟩)
 ·exact .inl ⟨rfl,⟨xs++[⟨x,hx⟩],by rw[List.map_append,hxs];rfl,h3⟩,h4⟩
 ·exact .inr ⟨rfl,_,h3⟩):P:=h
theorem zz1{P:Prop}(h:P:=by
 have Hch:=χ hch
 clear hch
 gi_wp2
 go_roundw
 case rel=>exact⟨k+1,.inr (by have:=Hi.out;omega),by rw[Hch.out],A1.out,A2.out⟩
 case measure=>simp[intOf];omega):P:=h
theorem zz2{P:Prop}(h:P:=by
 rintro e W' ⟨he,⟨ys,rfl,xs,hx,hj⟩|⟨_,_,xs,hj⟩⟩
 ·exact⟨he,.inl ⟨xs,hx,hj⟩⟩
 ·exact⟨he,.inr ⟨xs,trivial,hj⟩⟩):P:=h
theorem zz3{P:Prop}(h:P:=by
 gi_wp2
 refine bodyPost_ret (results_none rfl _ _ _) rfl ?_
 exact⟨⟨_,rfl⟩,.inr ⟨_,trivial,hJx3⟩⟩):P:=h
theorem zz4{P:Prop}(h:P:=by
 go_wp2
 go_roundw
 case rel=>exact⟨a+1,by go_num,hlt,Lm,HB2⟩
 case measure=>simp[intOf];omega):P:=h
theorem zz5{P:Prop}(h:P:=by
 go_ret
 exact⟨rfl,rfl⟩):P:=h
end Go.Proofs.YtmehhgfbnfbnaaaGreat
namespace Go.Proofs.YtmehhgfbnfbnaaaGreat.Meta
open Go.Proofs.YtmehhgfbnfbnaaaGreat
open Go.RowKit
section
variable {P:Program}{w:qab}
theorem Gq(w:qab)(dT sT ty elem:qar)(g n dCap B:Nat)(A:Option qaM)(sCap k:Nat)(cur:List qaf)(t:qar)(cs:List qaf)(hu:P.underlying dT=some (.slice elem))(hs:(P.info? elem).map (·.size)=some k)(hk:0<k)(hg:w.heap[g]? =some (.cells cur.toArray t (0,0)))(hn:cs.length=n*k)(hc:cur.length=n*k)(hsrc:Rd w B A cs)(h1:∀v∈cs,v.oneCell'=true):
  (qaL #[dT,sT] ty #[.slice g n dCap,.slice A n sCap]).run P w=.ok (goInt n) (w.setRow g cs.toArray):=by
 rcases hsrc with h|⟨b,o,rfl,_,h3⟩
 ·subst h
  have hn0:n=0:=by
   rcases Nat.eq_zero_or_pos n with h|h
   ·exact h
   ·have:=Nat.mul_pos h hk
    simp only[qaj]at hn
    omega
  subst hn0
  have hc0:cur=[]:=List.eq_nil_of_length_eq_zero (by simpa using hc)
  subst hc0
  have hself:w.setRow g (List.toArray [])=w:=setRow_self w g _ t (0,0) hg
  cases hq:P.info? elem with
  |none=>simp[hq]at hs
  |some i=>
   cases A with
   |none=>simp[qaL,run_underlying hu,Builtin.lenOf,Builtin.firstCells,sizeOf,typeInfo,hq,storeCells];exact hself.symm
   |some a=>simp[qaL,run_underlying hu,Builtin.lenOf,Builtin.firstCells,sizeOf,typeInfo,hq,storeCells,loadCells,loadCellsFrom];exact hself.symm
 ·exact Z8.QS w dT sT ty elem g n dCap ⟨b,o,none⟩ sCap k cur t cs hu hs hg hn hc (fun j v hv=>by rw[qaM.add_lit];exact h3 j v hv) h1
theorem WL{ops:Array Oper}{rest:List Oper}{o:Oper}{a:Act}{Q:Exit->Act->qab->Prop}(hgd:o.guard=none)(d s:Operand)(dT sT:qar)(ho:o.op=.call {callee:=.builtin .copy,args:=#[d,s],argTypes:=#[dT,sT]})(elem:qar)(k:Nat)(hu:P.underlying dT=some (.slice elem))(hsz:(P.info? elem).map (·.size)=some k)(hk:0<k)(g n dCap:Nat)(B:Nat)(A:Option qaM)(sCap:Nat)(hd:a.eval d=.slice g n dCap)(hs:a.eval s=.slice A n sCap)(cur:List qaf)(t:qar)(hg:w.heap[g]? =some (.cells cur.toArray t (0,0)))(cs:List qaf)(hn:cs.length=n*k)(hc:cur.length=n*k)(hsrc:Rd w B A cs)(h1:∀v∈cs,v.oneCell'=true)(h:∀w',Hid (w'=w.setRow g cs.toArray)->wpList P ops Q rest (a.put o.dst (goInt n)) w'):wpList P ops Q (o::rest) a w:=by
 refine wpList_plain hgd fun K hK=>?_
 have hrun:=Gq (P:=P) w dT sT o.type elem g n dCap B A sCap k cur t cs hu hsz hk hg hn hc hsrc h1
 unfold Oper.wp
 simp[execOp,ho,resolve,invoke,builtin,hd,hs,hrun,Result.andThen]
 exact hK _ _ (h _ (χ rfl))
theorem rT:(Tryz.prog.info? 68).map (·.size)=some 2:=by kernel_rfl
theorem rR:(Tryz.prog.info? 3).map (·.size)=some 1:=by kernel_rfl
theorem lZ:(Tryz.prog.info? 5).map (·.size)=some 1:=by kernel_rfl
theorem DK:(Tryz.prog.info? 40).map (·.size)=some 14:=by kernel_rfl
theorem SC{w3:qab}{t:qar}{cur cs:List qaf}(h:w3=(w.alloc (.cells cur.toArray t)).setRow w.heap.size cs.toArray):w3=w.alloc (.cells cs.toArray t):=by
 rw[h,qab.setRow_alloc_new]
theorem rQ(n:Nat)(h:n<=65536):∃cur:List qaf,cur.length=n*2/\∀u:qab,(qau 56 (.int .i64 n) (.int .i64 n)).run Tryz.prog u=
  .ok (.slice u.heap.size n n) (u.alloc (.cells cur.toArray 68)):=by
 obtain⟨i0,hi,hz0,hz1,hz2⟩:=qat Z8.Et
 refine⟨(madeCells (qaC (.agg #[.int .u16 0,()])) (n*i0.size)).toList,by rw[hz1];simp[madeCells],fun u=>?_⟩
 have hr:=run_make (P:=Tryz.prog) u 56 68 i0 (.agg #[.int .u16 0,()]) Tryz.underlying56 hi hz0 .i64 .i64 (n:Int) (n:Int) (by omega) (qaA _) (by rw[hz2];omega) (by omega)
 rw[qao]at hr
 exact hr
theorem DI(xs:List qaf)(A:Option qaM)(n c:Nat)(w:qab)(hn:xs.length=n*2)(h1:∀v∈xs,v.oneCell'=true)(hr:Rd w w.heap.size A xs)(h:n<=65536):
  Calls Tryz.prog 168 #[.slice A n c] w fun e w'=>e=.returned (.slice w.heap.size n n)/\w'=w.alloc (.cells xs.toArray 68):=by
 obtain⟨cur,RL,hmk⟩:=rQ n h
 have hsrc:=χ (hr.below (Z0 w (.cells cur.toArray 68)))
 have Hn:=χ hn
 have Hc:=χ RL
 have H1:=χ h1
 clear hn h1 hr RL
 go_enter Tryz.func168,Tryz.ntmps168
 go_wp2_with (refine WL rfl (.tmp 7) (.tmp 8) 56 56 rfl 68 2 Tryz.underlying56 rT (by omega) w.heap.size n n w.heap.size A c rfl rfl cur 68 (qav w _) xs Hn.out Hc.out hsrc.out H1.out ?_;intro w3 h3;have h3:=SC h3.out;subst h3)
 exact zz5
theorem rP(n:Nat)(h:n<=65536):∃cur:List qaf,cur.length=n*1/\∀u:qab,(qau 57 (.int .i64 n) (.int .i64 n)).run Tryz.prog u=
  .ok (.slice u.heap.size n n) (u.alloc (.cells cur.toArray 3)):=by
 obtain⟨i0,hi,hz0,hz1,hz2⟩:=qat Z9.info3
 refine⟨(madeCells (qaC (.int .i64 0)) (n*i0.size)).toList,by rw[hz1];simp[madeCells],fun u=>?_⟩
 have hr:=run_make (P:=Tryz.prog) u 57 3 i0 (.int .i64 0) Tryz.underlying57 hi hz0 .i64 .i64 (n:Int) (n:Int) (by omega) (qaA _) (by rw[hz2];omega) (by omega)
 rw[qao]at hr
 exact hr
theorem DF(xs:List qaf)(A:Option qaM)(n c:Nat)(w:qab)(hn:xs.length=n*1)(h1:∀v∈xs,v.oneCell'=true)(hr:Rd w w.heap.size A xs)(h:n<=65536):
  Calls Tryz.prog 169 #[.slice A n c] w fun e w'=>e=.returned (.slice w.heap.size n n)/\w'=w.alloc (.cells xs.toArray 3):=by
 obtain⟨cur,RL,hmk⟩:=rP n h
 have hsrc:=χ (hr.below (Z0 w (.cells cur.toArray 3)))
 have Hn:=χ hn
 have Hc:=χ RL
 have H1:=χ h1
 clear hn h1 hr RL
 go_enter Tryz.func169,Tryz.ntmps169
 go_wp2_with (refine WL rfl (.tmp 7) (.tmp 8) 57 57 rfl 3 1 Tryz.underlying57 rR (by omega) w.heap.size n n w.heap.size A c rfl rfl cur 3 (qav w _) xs Hn.out Hc.out hsrc.out H1.out ?_;intro w3 h3;have h3:=SC h3.out;subst h3)
 exact zz5
theorem lY(n:Nat)(h:n<=65536):∃cur:List qaf,cur.length=n*1/\∀u:qab,(qau 37 (.int .i64 n) (.int .i64 n)).run Tryz.prog u=
  .ok (.slice u.heap.size n n) (u.alloc (.cells cur.toArray 5)):=by
 obtain⟨i0,hi,hz0,hz1,hz2⟩:=qat info5
 refine⟨(madeCells (qaC (.int .u8 0)) (n*i0.size)).toList,by rw[hz1];simp[madeCells],fun u=>?_⟩
 have hr:=run_make (P:=Tryz.prog) u 37 5 i0 (.int .u8 0) Tryz.underlying37 hi hz0 .i64 .i64 (n:Int) (n:Int) (by omega) (qaA _) (by rw[hz2];omega) (by omega)
 rw[qao]at hr
 exact hr
theorem PU(xs:List qaf)(A:Option qaM)(n c:Nat)(w:qab)(hn:xs.length=n*1)(h1:∀v∈xs,v.oneCell'=true)(hr:Rd w w.heap.size A xs)(h:n<=65536):
  Calls Tryz.prog 137 #[.slice A n c] w fun e w'=>e=.returned (.slice w.heap.size n n)/\w'=w.alloc (.cells xs.toArray 5):=by
 obtain⟨cur,RL,hmk⟩:=lY n h
 have hsrc:=χ (hr.below (Z0 w (.cells cur.toArray 5)))
 have Hn:=χ hn
 have Hc:=χ RL
 have H1:=χ h1
 clear hn h1 hr RL
 go_enter Tryz.func137,Tryz.ntmps137
 go_wp2_with (refine WL rfl (.tmp 7) (.tmp 8) 37 37 rfl 5 1 Tryz.underlying37 lZ (by omega) w.heap.size n n w.heap.size A c rfl rfl cur 5 (qav w _) xs Hn.out Hc.out hsrc.out H1.out ?_;intro w3 h3;have h3:=SC h3.out;subst h3)
 exact zz5
theorem rO(n:Nat)(h:n<=65536):∃cur:List qaf,cur.length=n*14/\∀u:qab,(qau 58 (.int .i64 n) (.int .i64 n)).run Tryz.prog u=
  .ok (.slice u.heap.size n n) (u.alloc (.cells cur.toArray 40)):=by
 obtain⟨i0,hi,hz0,hz1,hz2⟩:=qat Q4
 refine⟨(madeCells (qaC (.agg (Z9.ZX .z).toArray)) (n*i0.size)).toList,by rw[hz1];simp[madeCells],fun u=>?_⟩
 have hr:=run_make (P:=Tryz.prog) u 58 40 i0 (.agg (Z9.ZX .z).toArray) Tryz.underlying58 hi hz0 .i64 .i64 (n:Int) (n:Int) (by omega) (qaA _) (by rw[hz2];omega) (by omega)
 rw[qao]at hr
 exact hr
theorem DD(xs:List qaf)(A:Option qaM)(n c:Nat)(w:qab)(hn:xs.length=n*14)(h1:∀v∈xs,v.oneCell'=true)(hr:Rd w w.heap.size A xs)(h:n<=65536):
  Calls Tryz.prog 170 #[.slice A n c] w fun e w'=>e=.returned (.slice w.heap.size n n)/\w'=w.alloc (.cells xs.toArray 40):=by
 obtain⟨cur,RL,hmk⟩:=rO n h
 have hsrc:=χ (hr.below (Z0 w (.cells cur.toArray 40)))
 have Hn:=χ hn
 have Hc:=χ RL
 have H1:=χ h1
 clear hn h1 hr RL
 go_enter Tryz.func170,Tryz.ntmps170
 go_wp2_with (refine WL rfl (.tmp 7) (.tmp 8) 58 58 rfl 40 14 Tryz.underlying58 DK (by omega) w.heap.size n n w.heap.size A c rfl rfl cur 40 (qav w _) xs Hn.out Hc.out hsrc.out H1.out ?_;intro w3 h3;have h3:=SC h3.out;subst h3)
 exact zz5
end
end Go.Proofs.YtmehhgfbnfbnaaaGreat.Meta

namespace Go.Proofs.YtmehhgfbnfbnaaaGreat.Meta
open Go.Proofs.YtmehhgfbnfbnaaaGreat
open Go.RowKit
section
variable {n a:Nat}{l:List Int}{y:UInt8}
theorem Lx(l:List UInt8)(a:Nat)(y:UInt8):(Z6 l).set a (.int .u8 y.toNat)=Z6 (l.set a y):=by
 unfold Z6
 rw[List.map_set]
 rfl
theorem rZ(l:List Int)(a:Nat)(y:Int):(Z9.ZM l).set a (.int .i64 y)=Z9.ZM (l.set a y):=by
 unfold Z9.ZM
 rw[List.map_set]
def Nq(l:List Int)(n a:Nat):List UInt8:=XB (l.take a)++qac (n-a) 0
theorem yH(l:List Int)(n:Nat):Nq l n 0=qac n 0:=by simp[Nq,XB]
theorem Gu(ha:a<=n)(hl:a<=l.length):(Nq l n a).length=n:=by simp[Nq,XB];omega
theorem yG{x:Int}(ha:a<n)(hx:l[a]? =some x)(hy:UInt8.ofNat x.toNat=y):(Nq l n a).set a y=Nq l n (a+1):=by
 have hl:=(qal.1 hx).1
 have h1:(XB (l.take a)).length=a:=by simp[XB];omega
 unfold Nq
 rw[qaI _ _ (by rw[h1];exact qae _),h1,qaz,show n-a=n-(a+1)+1 by omega,List.replicate_succ,List.set_cons_zero,yJ hx,hy]
 simp
theorem rY(h:l.length=n):Nq l n n=XB l:=by subst h;simp[Nq]
theorem DY(l:List Int)(hok:∀x∈l,0<=x/\x<=16)(A:Option qaM)(n c:Nat)(w:qab)(hn:l.length=n)(hr:Rd w w.heap.size A (Z9.ZM l))(hm:n<=64):
  Calls Tryz.prog 136 #[.slice A n c] w fun e w'=>∃v,e=.returned v/\Made w (Ya (XB l) 64) v w':=by
 have hmk:=YD n (by omega)
 have Hn:=χ hn
 have Hr:=χ hr
 have HOK:=χ hok
 have aU:Hid (∀(u:qab)(A:Option qaM)(c:Nat),Rd u u.heap.size A (Z6 (XB l))->Calls Tryz.prog 186 #[.slice A n c,.int .i64 64] u fun e w'=>∃v,e=.returned (.tuple #[v,()])/\Made u (Ya (XB l) 64) v w'):=χ (fun u A c h=>OE (XB l) A n c 64 u (by rw[X0,hn]) h hm (by omega))
 clear hn hr hok
 have hn0:(0:Int)<=(n:Int):=by omega
 go_enter Tryz.func136,Tryz.ntmps136
 go_wp2
 clear hmk
 have hk0:Hid (Bk (w.alloc (.cells (Z6 (qac n 0)).toArray 5)) w.heap.size 5 (Z6 (Nq l n 0))):=χ (by rw[yH];exact Bk.new w 5 _)
 have hb0:=χ (Z0 w (.cells (Z6 (qac n 0)).toArray 5))
 go_loopw [4,5,11] (fun _ _ i wr=>∃a:Nat,i=.int .i64 a/\a<=n/\Hid (Bk wr w.heap.size 5 (Z6 (Nq l n a)))/\Hid (Below w.heap.size w wr)) (fun _ _ i _=>n-(intOf i).toNat)
 case atStart=>exact⟨0,rfl,Nat.zero_le _,hk0,hb0⟩
 case round=>
  obtain⟨a,rfl,ha,HK,HB⟩:=hrel
  by_cases hlt:a<n
  ·obtain⟨x,hx⟩:∃x,l[a]? =some x:=⟨_,qaa (by rw[Hn.out];exact hlt)⟩
   obtain⟨b,o,hA,hb⟩:=YU Hr.out (by rw[Z9.Zt,Hn.out];omega)
   subst hA
   have hcx:=Yf (Hr.out.below HB.out) hx
   have hxy:=su (HOK.out x (List.mem_of_getElem? hx))
   obtain⟨y,hy⟩:∃y:UInt8,UInt8.ofNat x.toNat=y:=⟨_,rfl⟩
   have hst:=yG hlt hx hy
   rw[hy]at hxy
   rw[hxy]at hcx
   have hyw:IntKind.u8.wrap (y.toNat:Int)=(y.toNat:Int):=by have:=y.toNat_lt;rw[IntKind.wrap_u8];omega
   have hset:=HK.out.set a (.int .u8 y.toNat)
   rw[Lx,hst]at hset
   have Lm:=χ hset
   have HB2:=χ (HB.out.setCell (p:=⟨w.heap.size,a,none⟩) (qae _) (.int .u8 y.toNat))
   have V7:(a:Int)<(n:Int):=by omega
   have ha0:(0:Int)<=(a:Int):=by omega
   have hcell:∃u,wr.cell? ⟨w.heap.size,a,none⟩=some u:=⟨_,(HK.out.cell a).trans (qaa (by rw[Z4,Gu ha (by rw[Hn.out];exact ha)];exact hlt))⟩
   obtain⟨u0,hcell⟩:=hcell
   have hfro:=HK.out.frozen a
   have fC:=HK.out.lt
   clear hx hst hset hxy hy
   exact zz4
  ·obtain rfl:n=a:=by omega
   rw[rY Hn.out]at HK
   have hrd:=HK.out.rd n 0
   rw[List.drop_zero,List.take_of_length_le (by rw[Z4,X0,Hn.out];exact qae _)]at hrd
   have Im:=χ hrd
   clear hrd hlt
   go_wp2_with (go_at_call 186;(with_reducible refine(aU.out _ _ _ Im.out).mono ?_);rintro e w3 ⟨v9,he,fA,hb⟩;obtain rfl:=he;have HO9:=χ (ZL fA HB.out.size);have IY:=χ (HB.out.trans (hb.mono HB.out.size));clear hb fA)
   go_ret
   exact⟨v9,rfl,HO9.out,IY.out⟩
def Np(l:List UInt8)(n a:Nat):List Int:=(l.take a).map fw++qac (n-a) 0
theorem yF(l:List UInt8)(n:Nat):Np l n 0=qac n 0:=by simp[Np]
theorem Gt{l:List UInt8}(ha:a<=n)(hl:a<=l.length):(Np l n a).length=n:=by simp[Np];omega
theorem yE{l:List UInt8}(ha:a<n)(hy:l[a]? =some y):(Np l n a).set a (y.toNat:Int)=Np l n (a+1):=by
 have hl:=(qal.1 hy).1
 have h1:((l.take a).map fw).length=a:=by simp;omega
 unfold Np
 rw[qaI _ _ (by rw[h1];exact qae _),h1,qaz,show n-a=n-(a+1)+1 by omega,List.replicate_succ,List.set_cons_zero,List.take_add_one,hy]
 simp[fw]
theorem rX{l:List UInt8}(h:l.length=n):Np l n n=l.map fw:=by subst h;simp[Np]
theorem Gs(l:List UInt8)(A:Option qaM)(n c:Nat)(w:qab)(hn:l.length=n)(hr:Rd w w.heap.size A (Z6 l))(hm:n<=64):
  Calls Tryz.prog 154 #[.slice A n c] w fun e w'=>e=.returned (.slice w.heap.size n n)/\Bk w' w.heap.size 3 (Z9.ZM (l.map fw))/\Below w.heap.size w w':=by
 have hmk:=Z9.PV n (by omega)
 have Hn:=χ hn
 have Hr:=χ hr
 clear hn hr
 have hn0:(0:Int)<=(n:Int):=by omega
 go_enter Tryz.func154,Tryz.ntmps154
 go_wp2
 clear hmk
 have hk0:Hid (Bk (w.alloc (.cells (Z9.ZM (qac n 0)).toArray 3)) w.heap.size 3 (Z9.ZM (Np l n 0))):=χ (by rw[yF];exact Bk.new w 3 _)
 have hb0:=χ (Z0 w (.cells (Z9.ZM (qac n 0)).toArray 3))
 go_loopw [4,5,11] (fun _ _ i wr=>∃a:Nat,i=.int .i64 a/\a<=n/\Hid (Bk wr w.heap.size 3 (Z9.ZM (Np l n a)))/\Hid (Below w.heap.size w wr)) (fun _ _ i _=>n-(intOf i).toNat)
 case atStart=>exact⟨0,rfl,Nat.zero_le _,hk0,hb0⟩
 case round=>
  obtain⟨a,rfl,ha,HK,HB⟩:=hrel
  by_cases hlt:a<n
  ·obtain⟨y,hy⟩:∃y,l[a]? =some y:=⟨_,qaa (by rw[Hn.out];exact hlt)⟩
   obtain⟨b,o,hA,hb⟩:=YU Hr.out (by rw[Z4,Hn.out];omega)
   subst hA
   have hcx:=aat (Hr.out.below HB.out) hy
   have hst:=yE hlt hy
   have hyw:IntKind.i64.wrap (y.toNat:Int)=(y.toNat:Int):=by have:=y.toNat_lt;rw[IntKind.wrap_i64];omega
   have hset:=HK.out.set a (.int .i64 y.toNat)
   rw[rZ,hst]at hset
   have Lm:=χ hset
   have HB2:=χ (HB.out.setCell (p:=⟨w.heap.size,a,none⟩) (qae _) (.int .i64 y.toNat))
   have V7:(a:Int)<(n:Int):=by omega
   have ha0:(0:Int)<=(a:Int):=by omega
   have hcell:∃u,wr.cell? ⟨w.heap.size,a,none⟩=some u:=⟨_,(HK.out.cell a).trans (qaa (by rw[Z9.Zt,Gt ha (by rw[Hn.out];exact ha)];exact hlt))⟩
   obtain⟨u0,hcell⟩:=hcell
   have hfro:=HK.out.frozen a
   have fC:=HK.out.lt
   clear hy hst hset
   exact zz4
  ·obtain rfl:n=a:=by omega
   rw[rX Hn.out]at HK
   go_wp2
   go_ret
   exact⟨rfl,HK.out,HB.out⟩
end
end Go.Proofs.YtmehhgfbnfbnaaaGreat.Meta

namespace Go.Proofs.YtmehhgfbnfbnaaaGreat.Meta
open Go.Proofs.YtmehhgfbnfbnaaaGreat
open Go.RowKit Go.Shelf
attribute [local go_sem] Oper.semAt_some
section
variable {B1 B2:Nat}{A B:qab}
def Two(B1 B2:Nat)(W W':qab):Prop:=W'.heap[B1]? =W.heap[B1]?/\W'.heap[B2]? =W.heap[B2]?
theorem Two.refl (B1 B2:Nat)(W:qab):Two B1 B2 W W:=⟨rfl,rfl⟩
theorem Two.trans {C:qab}(h:Two B1 B2 A B)(k:Two B1 B2 B C):Two B1 B2 A C:=⟨k.1.trans h.1,k.2.trans h.2⟩
theorem Two.drew (h:Two B1 B2 A B):Two B1 B2 A B.drew:=h
theorem Two.one (h:Two B1 B2 A B):B.cell? ⟨B1,0,none⟩=A.cell? ⟨B1,0,none⟩:=qab.cell?_of_block (a:=⟨B1,0,none⟩) h.1
theorem Two.two (h:Two B1 B2 A B):B.cell? ⟨B2,0,none⟩=A.cell? ⟨B2,0,none⟩:=qab.cell?_of_block (a:=⟨B2,0,none⟩) h.2
theorem Two.below {B:Nat}{W W':qab}(h:Below B W W')(h1:B1<B)(h2:B2<B):Two B1 B2 W W':=⟨h.block B1 h1,h.block B2 h2⟩
def UW(b o m c:Nat):qaf:=.slice (some ⟨b,o+2*c*14,none⟩) (min 2 (m-2*c)) (min 2 (m-2*c))
theorem De(n:Nat)(hn:1<=n)(l B1 B2 b o m cp:Nat)(hm:m<=1000000)(hcp:m<=cp)(J Jx:List Nat->qab->Prop)(hJd:∀pre W,J pre W->J pre W.drew)(hY:∀pre x W,J pre W->2*pre.length<m->2*x<m->YieldAt qai (n-1) Tryz.prog l #[UW b o m x] W fun e W'=>
   (e=.returned (.bool true)/\J (pre++[x]) W'/\Two B1 B2 W W')\/(e=.returned (.bool false)/\Jx (pre++[x]) W'))(W:qab)(h1:W.cell? ⟨B1,0,none⟩=some (.slice (some ⟨b,o,none⟩) m cp))(h2:W.cell? ⟨B2,0,none⟩=some (.int .i64 2))(h0:J [] W):
  CallsIn qai n Tryz.prog 249 #[.func (.yield l) #[] #[],.pointer B1,.pointer B2] W fun e W'=>(∃v,e=.returned v)/\
   ((∃ys,ys=qad ((m+1)/2)/\J ys W')\/(∃pre,True/\Jx pre W')):=by
 refine qay Tryz.func249 rfl trivial ?_ rfl
 simp only[Tryz.ntmps249,qam,qap,qaj,qax,qaw,qah,qag,qan,qak,qas,qaq]
 gi_wp2
 gi_loopw [4,5] (fun i _ wr=>∃k:Nat,(k=0\/2*(k-1)<m)/\i=.int .i64 ((2*k:Nat):Int)/\J (qad k) wr/\Two B1 B2 W wr)
  (fun i _ _=>m-(intOf i).toNat)
 case atStart=>exact⟨0,.inl rfl,rfl,h0,Two.refl _ _ _⟩
 case round=>
  obtain⟨k,hk,rfl,hJs,hnx⟩:=hrel
  have c1:=hnx.one.trans h1
  have c2:=hnx.two.trans h2
  obtain⟨i,hi⟩:∃i,i=2*k:=⟨_,rfl⟩
  rw[<-hi]
  have Hi:=χ hi
  have HJ:=χ hJs
  have Hnx:=χ hnx
  have Hk:=χ hk
  clear hi hJs hnx hk
  by_cases hlt:i<m
  ·obtain⟨fn,tmps,assign,body,hy,hR⟩:=hY (qad k) k wr.drew (hJd _ _ HJ.out) (by rw[List.length_range];have:=Hi.out;omega) (by have:=Hi.out;omega)
   obtain⟨e,he⟩:∃e:Nat,e=min 2 (m-i):=⟨_,rfl⟩
   have hif:(if ((m-i:Nat):Int)<2 then((m-i:Nat):Int)else 2)=(e:Int):=by
    split<;>omega
   have Ta:UW b o m k=.slice (some ⟨b,o+i*14,none⟩) e e:=by
    unfold UW
    rw[<-Hi.out,<-he]
   rw[Ta]at hy
   have hei:(i:Int)+(e:Int)<=(m:Int):=by omega
   have he1:0<e:=by omega
   have He:=χ he
   have Hif:=χ hif
   clear Ta he hif
   gi_wp2
   gi_region
   all_goals rw[Hif.out]
   all_goals gi_wp2
   refine hR.mono ?_
   rintro e W3 (⟨rfl,hJ3,hk3⟩|⟨rfl,hJx3⟩)
   ·have c3:=hk3.two.trans c2
    have A1:Hid (J (qad (k+1)) W3):=by
     show J _ _
     rw[List.range_succ];exact hJ3
    have A2:Hid (Two B1 B2 W W3):=Hnx.out.drew.trans hk3
    clear hJ3 hk3 c1 c2
    have hch:(i:Int)+2=((2*(k+1):Nat):Int):=by have:=Hi.out;omega
    exact zz1
   ·exact zz3
  ·have hkk:k=(m+1)/2:=by have:=Hi.out;have:=Hk.out;omega
   gi_wp2
   go_end0
   exact⟨⟨_,rfl⟩,.inl ⟨_,by rw[hkk],HJ.out⟩⟩
theorem xQ(n:Nat)(A:Option qaM)(m c:Nat)(w:qab):
  CallsIn qai n Tryz.prog 209 #[.slice A m c,.int .i64 2] w fun e w'=>e=.returned (.func (.func 249) #[] #[.pointer w.heap.size,.pointer (some ⟨w.heap.size+1,0,none⟩)])/\
   w'=(w.alloc (.cells #[.slice A m c] 58)).alloc (.cells #[.int .i64 2] 3):=by
 refine qay Tryz.func209 rfl trivial ?_ rfl
 simp only[Tryz.ntmps209,qam,qap,qaj,qax,qaw,qah,qag,qan,qak,qas,qaq]
 gi_wp2
 exact zz5
theorem Jg(n:Nat)(hn:1<=n)(B1 B2 b o m cp:Nat)(hm:m<=1000000)(hcp:m<=cp)(w:qab)(hB1:B1<w.heap.size)(hB2:B2<w.heap.size)(h1:w.cell? ⟨B1,0,none⟩=some (.slice (some ⟨b,o,none⟩) m cp))(h2:w.cell? ⟨B2,0,none⟩=some (.int .i64 2)):
  SeqStopsK qai n Tryz.prog 249 #[.pointer B1,.pointer B2] (fun x:{c:Nat//2*c<m}=>#[UW b o m x.1]) (Two B1 B2)
   (fun ys=>ys.map (·.1)=qad ((m+1)/2)) (fun _=>True) ((m+1)/2) w:=fun l J Jx W hW hJ hJx hY h0=>by
 refine(De n hn l B1 B2 b o m cp hm hcp (fun ys W=>∃xs:List {c:Nat//2*c<m},xs.map (·.1)=ys/\J xs W) (fun ys W=>∃xs,Jx xs W)
  (fun ys W ⟨xs,h,hj⟩=>⟨xs,h,hJ _ _ W.drew none hj ⟨rfl,rfl,rfl,qae _,fun _ _ _=>rfl⟩ (fun r e=>by cases e)⟩) ?_ W ((hW.cell (p:=⟨B1,0,none⟩) hB1).trans h1) ((hW.cell (p:=⟨B2,0,none⟩) hB2).trans h2) ⟨[],rfl,h0⟩).mono ?_
 ·exact zz0
 ·exact zz2
def UU(b o m c:Nat):qaf:=.slice (some ⟨b,o+32*c,none⟩) (min 32 (m-32*c)) (min 32 (m-32*c))
theorem Dc(n:Nat)(hn:1<=n)(l B1 B2 b o m cp:Nat)(hm:m<=1000000)(hcp:m<=cp)(J Jx:List Nat->qab->Prop)(hJd:∀pre W,J pre W->J pre W.drew)(hY:∀pre x W,J pre W->32*pre.length<m->32*x<m->YieldAt qai (n-1) Tryz.prog l #[UU b o m x] W fun e W'=>
   (e=.returned (.bool true)/\J (pre++[x]) W'/\Two B1 B2 W W')\/(e=.returned (.bool false)/\Jx (pre++[x]) W'))(W:qab)(h1:W.cell? ⟨B1,0,none⟩=some (.slice (some ⟨b,o,none⟩) m cp))(h2:W.cell? ⟨B2,0,none⟩=some (.int .i64 32))(h0:J [] W):
  CallsIn qai n Tryz.prog 260 #[.func (.yield l) #[] #[],.pointer B1,.pointer B2] W fun e W'=>(∃v,e=.returned v)/\
   ((∃ys,ys=qad ((m+31)/32)/\J ys W')\/(∃pre,True/\Jx pre W')):=by
 refine qay Tryz.func260 rfl trivial ?_ rfl
 simp only[Tryz.ntmps260,qam,qap,qaj,qax,qaw,qah,qag,qan,qak,qas,qaq]
 gi_wp2
 gi_loopw [4,5] (fun i _ wr=>∃k:Nat,(k=0\/32*(k-1)<m)/\i=.int .i64 ((32*k:Nat):Int)/\J (qad k) wr/\Two B1 B2 W wr)
  (fun i _ _=>m-(intOf i).toNat)
 case atStart=>exact⟨0,.inl rfl,rfl,h0,Two.refl _ _ _⟩
 case round=>
  obtain⟨k,hk,rfl,hJs,hnx⟩:=hrel
  have c1:=hnx.one.trans h1
  have c2:=hnx.two.trans h2
  obtain⟨i,hi⟩:∃i,i=32*k:=⟨_,rfl⟩
  rw[<-hi]
  have Hi:=χ hi
  have HJ:=χ hJs
  have Hnx:=χ hnx
  have Hk:=χ hk
  clear hi hJs hnx hk
  by_cases hlt:i<m
  ·obtain⟨fn,tmps,assign,body,hy,hR⟩:=hY (qad k) k wr.drew (hJd _ _ HJ.out) (by rw[List.length_range];have:=Hi.out;omega) (by have:=Hi.out;omega)
   obtain⟨e,he⟩:∃e:Nat,e=min 32 (m-i):=⟨_,rfl⟩
   have hif:(if ((m-i:Nat):Int)<32 then((m-i:Nat):Int)else 32)=(e:Int):=by
    split<;>omega
   have Ta:UU b o m k=.slice (some ⟨b,o+i,none⟩) e e:=by
    unfold UU
    rw[<-Hi.out,<-he]
   rw[Ta]at hy
   have hei:(i:Int)+(e:Int)<=(m:Int):=by omega
   have he1:0<e:=by omega
   have He:=χ he
   have Hif:=χ hif
   clear Ta he hif
   gi_wp2
   gi_region
   all_goals rw[Hif.out]
   all_goals gi_wp2
   refine hR.mono ?_
   rintro e W3 (⟨rfl,hJ3,hk3⟩|⟨rfl,hJx3⟩)
   ·have c3:=hk3.two.trans c2
    have A1:Hid (J (qad (k+1)) W3):=by
     show J _ _
     rw[List.range_succ];exact hJ3
    have A2:Hid (Two B1 B2 W W3):=Hnx.out.drew.trans hk3
    clear hJ3 hk3 c1 c2
    have hch:(i:Int)+32=((32*(k+1):Nat):Int):=by have:=Hi.out;omega
    exact zz1
   ·exact zz3
  ·have hkk:k=(m+31)/32:=by have:=Hi.out;have:=Hk.out;omega
   gi_wp2
   go_end0
   exact⟨⟨_,rfl⟩,.inl ⟨_,by rw[hkk],HJ.out⟩⟩
theorem xO(n:Nat)(A:Option qaM)(m c:Nat)(w:qab):
  CallsIn qai n Tryz.prog 225 #[.slice A m c,.int .i64 32] w fun e w'=>e=.returned (.func (.func 260) #[] #[.pointer w.heap.size,.pointer (some ⟨w.heap.size+1,0,none⟩)])/\
   w'=(w.alloc (.cells #[.slice A m c] 37)).alloc (.cells #[.int .i64 32] 3):=by
 refine qay Tryz.func225 rfl trivial ?_ rfl
 simp only[Tryz.ntmps225,qam,qap,qaj,qax,qaw,qah,qag,qan,qak,qas,qaq]
 gi_wp2
 exact zz5
theorem Jf(n:Nat)(hn:1<=n)(B1 B2 b o m cp:Nat)(hm:m<=1000000)(hcp:m<=cp)(w:qab)(hB1:B1<w.heap.size)(hB2:B2<w.heap.size)(h1:w.cell? ⟨B1,0,none⟩=some (.slice (some ⟨b,o,none⟩) m cp))(h2:w.cell? ⟨B2,0,none⟩=some (.int .i64 32)):
  SeqStopsK qai n Tryz.prog 260 #[.pointer B1,.pointer B2] (fun x:{c:Nat//32*c<m}=>#[UU b o m x.1]) (Two B1 B2)
   (fun ys=>ys.map (·.1)=qad ((m+31)/32)) (fun _=>True) ((m+31)/32) w:=fun l J Jx W hW hJ hJx hY h0=>by
 refine(Dc n hn l B1 B2 b o m cp hm hcp (fun ys W=>∃xs:List {c:Nat//32*c<m},xs.map (·.1)=ys/\J xs W) (fun ys W=>∃xs,Jx xs W)
  (fun ys W ⟨xs,h,hj⟩=>⟨xs,h,hJ _ _ W.drew none hj ⟨rfl,rfl,rfl,qae _,fun _ _ _=>rfl⟩ (fun r e=>by cases e)⟩) ?_ W ((hW.cell (p:=⟨B1,0,none⟩) hB1).trans h1) ((hW.cell (p:=⟨B2,0,none⟩) hB2).trans h2) ⟨[],rfl,h0⟩).mono ?_
 ·exact zz0
 ·exact zz2
end
end Go.Proofs.YtmehhgfbnfbnaaaGreat.Meta

namespace Go.Proofs.YtmehhgfbnfbnaaaGreat.Meta
open Go.Proofs.YtmehhgfbnfbnaaaGreat
open Go.RowKit Go.Shelf
attribute [local go_sem] Oper.semAt_some
section
variable {n k base x:Nat}{w w' W:qab}{v u v':qaf}{F:Fence}{P:Program}{ops:Array Oper}{rest:List Oper}{a:Act}{Q:Exit->Act->qab->Prop}{l:List Z9.ZC}{op:Oper}{e t:qar}{xs:List qaf}
theorem WH(hgd:op.guard=none)(ty:qar)(x:Operand)(ho:op.op=.load ty x)(b o:Nat)(hx:a.eval x=.pointer (some ⟨b,o,none⟩))(cs:List qaf)(d:TypeDesc)(hc:w.rangeAt b o cs)(hu:P.underlying ty=some d)(hd:d.isRow=true)(hi:(P.info? ty).map (·.size)=some cs.length)(h:wpListIn F n P ops Q rest (a.put op.dst (.agg cs.toArray)) w):wpListIn F n P ops Q (op::rest) a w:=by
 refine qaH hgd fun K hK=>?_
 unfold Oper.wpIn
 refine⟨?_,?_⟩
 ·simp[Oper.about,ho]
 ·rw[qaB F _ _ (by rw[ho];intro c hc';cases hc')]
  unfold execOp
  simp only[ho,hx,Instr.loadAt,Instr.sureAddr,Sem.run_bind,Sem.run_pure,Result.andThen_ok,run_loadVar_mid w b o ty cs d hc hu hd hi]
  exact hK _ _ h
theorem Vp(hgd:op.guard=none)(ty:qar)(x y:Operand)(ho:op.op=.store ty x y)(b o:Nat)(cells:Array qaf)(hx:a.eval x=.pointer (some ⟨b,o,none⟩))(hy:a.eval y=.agg cells)(ht:w.there b o cells.size)(hi:(P.info? ty).map (·.size)=some cells.size)(h1:cells.all (·.oneCell')=true)(h:wpListIn F n P ops Q rest (a.put op.dst undef) (w.setCells b o cells.toList)):wpListIn F n P ops Q (op::rest) a w:=by
 refine qaH hgd fun K hK=>?_
 unfold Oper.wpIn
 refine⟨?_,?_⟩
 ·simp[Oper.about,ho]
 ·rw[qaB F _ _ (by rw[ho];intro c hc';cases hc')]
  unfold execOp
  simp only[ho,hx,hy,Instr.storeAt,Instr.sureAddr,Sem.run_bind,Sem.run_pure,Result.andThen_ok,run_storeVar_mid w b o ty cells ht hi h1]
  exact hK _ _ h
theorem Zm{o:Oper}(hg:o.guard=none)(s x:Operand)(t:qar)(hop:o.op=Op.call {callee:=Callee.builtin Builtin.append,args:=#[s,x],argTypes:=#[t,t]}){r:qaf}(hs:a.eval s=v)(hx:a.eval x=u)(hrun:(qaG #[t,t] o.type #[v,u]).run P w=.ok r w')(h:wpListIn F n P ops Q rest (a.put o.dst r) w'):
  wpListIn F n P ops Q (o::rest) a w:=by
 refine qaH hg fun K hK'=>?_
 unfold Oper.wpIn
 refine⟨?_,?_⟩
 ·simp[Oper.about,hop,resolve,Target.leads,Sem.run_pure]
 ·rw[qaB F _ _ (by rw[hop];intro c hc';cases hc')]
  simp[execOp,hop,resolve,invoke,builtin,hs,hx,hrun,Result.andThen]
  exact hK' _ _ h
theorem PL{X Y:qab}{row:Option Nat}(h:X.ownsRow base e k v n xs)(hg:X.grownBy Y row)(hrow:∀r,row=some r->∃o:Obj,X.heap[r]? =some o/\o.isCells=false):Y.ownsRow base e k v n xs:=by
 refine h.kept hg ?_
 rcases h.2 with⟨rfl,_⟩|⟨g,cap,cur,rfl,_,hgb,_⟩
 ·exact .inl rfl
 ·refine .inr fun e'=>?_
  obtain⟨o,ho,hc⟩:=hrow g (by simpa[qaf.ownBlock]using e'.symm)
  rw[hgb]at ho;cases ho;cases hc
def jc(n₀ Bs:Nat)(l:List (List UInt8))(W:qab):Prop:=∃v L,Boxed W Bs 130 v/\Zx W n₀ v L l
theorem xP{β:Type}(n₀ Bs:Nat)(f:β->List (List UInt8)):Own (fun s W=>jc n₀ Bs (f s) W):=by
 rintro s X Y row ⟨v,L,hb,hs⟩ hg hrow
 refine⟨v,L,hb.kept hg (fun e'=>?_),hs.len,PL hs.row hg hrow,fun i a b h1 h2=>PL (hs.each i a b h1 h2) hg hrow⟩
 obtain⟨o,ho,hc⟩:=hrow Bs e'.symm
 rw[show X.heap[Bs]? =_ from hb]at ho;cases ho;cases hc
theorem lh(hev:l.length%2=0)(h:2*x<l.length):∃p q,l[2*x]? =some p/\l[2*x+1]? =some q:=
 ⟨_,_,qaa h,qaa (by omega)⟩
def OP(l:List Z9.ZC)(x:Nat):List UInt8:=Z9.ZK (l.getD (2*x) .z)++Z9.ZK (l.getD (2*x+1) .z)
theorem Bb{p q:Z9.ZC}(hp:l[2*x]? =some p)(hq:l[2*x+1]? =some q):OP l x=Z9.ZK p++Z9.ZK q:=by
 unfold OP
 rw[qaE,qaE,hp,hq]
 rfl
theorem FN(hev:l.length%2=0):(qad ((l.length+1)/2)).map (OP l)=pairs l:=by
 apply List.ext_getElem?
 intro i
 by_cases hi:i<l.length/2
 ·obtain⟨a,b,h1,h2,h3⟩:=Ib (i:=2*i) hev (by omega)
  rw[show 2*i/2=i by omega]at h1 h2 h3
  rw[List.getElem?_map,List.getElem?_range (by omega),Option.map_some,Bb h1 h2,h3]
 ·rw[qaK (by simp;omega),qaK (by rw[Uo hev];omega)]
theorem Sv{w1:qab}{n₀ B:Nat}{size m:Nat}{tmp:Obj}(hk:Boxed W k t u)(hte:t≠e)(hkB:k≠B)(hrow:W.ownsRow n₀ e size v m xs)(hgrow:(W.alloc tmp).grownBy w1 v.ownBlock):
  (w1.setCell ⟨B,0,none⟩ v').heap[k]? =W.heap[k]? :=
 (Below.heap_setCell w1 ⟨B,0,none⟩ v' k hkB).trans (((hk.alloc tmp).kept hgrow (hk.not_row hte hrow)).trans hk.symm)
theorem Uz{W3:qab}(h:W.heap[k]? =W3.heap[k]?)(hb:Boxed W3 k t u):k<W.heap.size:=(Array.getElem?_eq_some_iff.1 (h.trans hb)).1
theorem qF(w:qab)(ty:qar)(base:Nat)(v:qaf)(n:Nat)(l:List UInt8)(hown:w.ownsRow base 5 1 v n (Z6 l))(B:Nat)(A:Option qaM)(m c:Nat)(k:List UInt8)(hm:k.length=m)(hr:Rd w B A (Z6 k))(hbytes:n+m<=140737488355328)(hbase:base<=w.heap.size):
  ∃v' w',(qaG #[37,37] ty #[v,.slice A m c]).run Tryz.prog w=.ok v' w'/\w'.ownsRow base 5 1 v' (n+m) (Z6 (l++k))/\w.grownBy w' v.ownBlock:=by
 obtain⟨i0,hi,hz0,hz1,hz2⟩:=qat info5
 rw[Xc]
 exact U6 w base 37 ty 5 i0 _ 1 Tryz.underlying37 hi hz0 hz1 hz2 rfl v n _ hown B A m c _ (by rw[Z4,hm]) hr (YC _) (by simp only[maxLen];omega) (by omega) hbase
theorem lg(w:qab)(ty:qar)(base:Nat)(v:qaf)(L:List Sc)(l:List (List UInt8))(hown:Zx w base v L l)(g:Nat)(S:Sc)(nb:Nat)(hc:w.cell? ⟨g,0,none⟩=some (.slice S.A nb S.c))(h63:l.length<=100000)(hbase:base<=w.heap.size):
  ∃v' w',(qaG #[130,130] ty #[v,.slice g 1 1]).run Tryz.prog w=.ok v' w'/\w'.ownsRow base 37 1 v' (l.length+1) (X3 L l++[.slice S.A nb S.c])/\w.grownBy w' v.ownBlock:=by
 obtain⟨i0,hi,hz0,hz1,hz2⟩:=qat RO
 have hrd:Rd w (g+1) (some ⟨g,0,none⟩) [.slice S.A nb S.c]:=.inr ⟨g,0,rfl,Nat.lt_succ_self g,fun j u hu=>by
  cases j with
  |zero=>
   have e:qaf.slice S.A nb S.c=u:=by simpa using hu
   rw[<-e];exact hc
  |succ j=>simp at hu⟩
 exact U6 w base 130 ty 37 i0 _ 24 Tryz.underlying130 hi hz0 hz1 hz2 rfl v l.length (X3 L l) hown.row (g+1) _ 1 1 [.slice S.A nb S.c] rfl hrd (by
  intro u hu
  have e:u=qaf.slice S.A nb S.c:=by simpa using hu
  rw[e];rfl) (by unfold maxLen;omega) (by omega) hbase
theorem Zx.snoc {L:List Sc}{l:List (List UInt8)}{S:Sc}{b:List UInt8}(h:Zx w base v L l)(hr:w'.ownsRow base 37 1 v' (l.length+1) (X3 L l++[.slice S.A b.length S.c]))(hb:w'.ownsRow base 5 1 (.slice S.A b.length S.c) b.length (Z6 b))(hk:∀(i:Nat)(s:Sc)(b:List UInt8),L[i]? =some s->l[i]? =some b->w'.ownsRow base 5 1 (.slice s.A b.length s.c) b.length (Z6 b)):Zx w' base v' (L++[S]) (l++[b]):=by
 refine⟨by simp[h.len],?_,fun i s' b' g1 g2=>?_⟩
 ·rw[List.length_append,qaJ,N7 h.len]
  exact hr
 ·by_cases hi:i<l.length
  ·rw[qaF (by rw[h.len];exact hi)]at g1
   rw[qaF hi]at g2
   exact hk i s' b' g1 g2
  ·have hi2:i=l.length:=by
    have:=(qal.1 g2).1
    rw[List.length_append,qaJ]at this
    omega
   rw[hi2,<-h.len,qaD (qae _),qaz]at g1
   rw[hi2,qaD (qae _),qaz]at g2
   have e1:S=s':=by simpa using g1
   have e2:b=b':=by simpa using g2
   subst e1 e2
   exact hb
end
end Go.Proofs.YtmehhgfbnfbnaaaGreat.Meta
