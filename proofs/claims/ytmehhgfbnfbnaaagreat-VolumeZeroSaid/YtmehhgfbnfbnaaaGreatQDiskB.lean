import Derived.Test.YtmehhgfbnfbnaaaGreatQDisk
import Derived.Test.YtmehhgfbnfbnaaaGreatQTk
import Derived.Test.YtmehhgfbnfbnaaaGreatQF
set_option maxRecDepth 100000
set_option maxHeartbeats 25600000
open List renaming setIfInBounds_toArray->qaa,set_cons_zero->qab,set_cons_succ->qac,getElem?_toArray->qak,getElem?_eq_none->qal,getElem?_cons_succ->qao,getElem?_eq_some_iff->qat,getElem?_eq_getElem->qau,mem_cons->qaB,take_add_one->qaD,mem_map->qaE,getElem?_map->qaF,length_cons->qaI,getElem?_cons_zero->qaM,mem_iff_getElem?->qaO
open Go.Act renaming put->qad
open Go.World renaming block_lt_of_cell?->qae,cell?_of_block->qaf,cell?_alloc_lt->qas
open Go renaming World->qag,all_oneCell_toArray->qai,Value->qaj,wp_region_held_drew->qan,yieldsIf_load_mid->qap,heap_alloc_new->qaq,wpAnyH_done->qav,cell_of_row->qaw,run_storeCells_new->qaG,wpList_load_mid->qaL,Calls->qaN
open Go.RowKit.Below renaming heap_setCell->qah,heap_alloc->qam,refl->qaA
open Nat renaming le_refl->qar,zero_add->qax,lt_or_ge->qay,zero_le->qaJ
open Array renaming getElem?_eq_none->qaz,ext_getElem?->qaC,getElem?_setIfInBounds->qaK
open Go.World.grownBy renaming refl->qaH
open Go.Instr renaming arrayAt->qaP
namespace Go.Proofs.YtmehhgfbnfbnaaaGreat
open Go.RowKit
attribute [local go_sem↓] Go.wp_at_zero Go.wp_at_succ
section
variable {α:Type}{f:α->List qaj}
section
variable {w:qag}{vu:qaj}{b bn bs cn cs s g cap:Nat}{now safe:List α}{un:List (Nat × α)}{dead cut:Bool}{left done:Int}
theorem Mem.alloc (h:Mem f w b bn bs cn cs vu now safe un dead cut left done)(o:Obj):Mem f (w.alloc o) b bn bs cn cs vu now safe un dead cut left done:=
 h.keep fun i hi=>qam w o i (h.lt hi)
abbrev R7(f:α->List qaj)(w:qag)(b bn bs cn cs:Nat)(vu:qaj)(k:Dk α):Prop:=Mem f w b bn bs cn cs vu k.now k.safe k.un k.dead k.cut k.left k.done
theorem xM(w:qag)(b bn bs cn cs:Nat)(vu:qaj)(k:Dk α)(hm:R7 f w b bn bs cn cs vu k)(ho:k.off=true):
  qaN Tryz.prog 190 #[.pointer b] w fun e w'=>e=.returned (.bool false)/\w.grownBy w' (some b)/\R7 f w' b bn bs cn cs vu k.op:=by
 refine(xL _ _ _ _ _ _ _ _ _ _ _ _ _ _ hm).mono ?_
 rintro e w' ⟨rfl,hg,h⟩
 rw[<-Dk.off,ho]at h⊢
 refine⟨rfl,hg,?_⟩
 have e1:k.op={k with dead:=true}:=by unfold Dk.op;rw[if_pos ho]
 rw[e1]
 exact h
theorem rC(w:qag)(b bn bs cn cs:Nat)(vu:qaj)(k:Dk α)(hm:R7 f w b bn bs cn cs vu k)(ho:k.off=false):
  qaN Tryz.prog 190 #[.pointer b] w fun e w'=>e=.returned (.bool true)/\w.grownBy w' (some b)/\R7 f w' b bn bs cn cs vu k.op:=by
 refine(xL _ _ _ _ _ _ _ _ _ _ _ _ _ _ hm).mono ?_
 rintro e w' ⟨rfl,hg,h⟩
 rw[<-Dk.off,ho]at h⊢
 refine⟨rfl,hg,?_⟩
 have e1:k.op={k with left:=if k.cut then wrap64 (k.left-1)else k.left,done:=wrap64 (k.done+1)}:=by unfold Dk.op;rw[if_neg (by rw[ho];decide)]
 rw[e1]
 exact h
theorem BV(w:qag)(S:Nat->Prop)(b:Nat)(k:Dk α)(h:Zo f w S b k)(s:Nat)(hs:s<k.safe.length)(A:Option Addr)(cp:Nat)(t:qaj)(hoff:k.off=true):
  qaN Tryz.prog 114 #[.pointer b,.agg #[s,.slice A 64 cp,t]] w fun e w'=>e=.returned (.int .i64 6)/\Turned f S w w' b k.op:=by
 obtain⟨bn,bs,cn,cs,vu,rfl,hm⟩:=h
 have hin:(decide (0<=(s:Int))&&decide ((s:Int)<(k.safe.length:Int)))=true:=by simp;omega
 have H:=χ hm
 have uk:=χ hin
 have R8:=χ hoff
 clear hm hin hoff hs
 go_enter Tryz.func114,Tryz.ntmps114
 go_wp2_with (first
  |(go_at_call 189;refine(TQ _ _ _ _ _ _ _ _ _ _ _ _ _ _ (H.out.alloc _) _).mono ?_;rintro e w' ⟨rfl,rfl⟩;rw[uk.out])
  |(go_at_call 190;refine(xM _ _ _ _ _ _ _ _ (H.out.alloc _) R8.out).mono ?_;rintro e w' ⟨rfl,hg,hop⟩;replace hop:=χ hop;replace hg:=χ hg))
 go_ret
 have hb0:Kept (foot b bn bs vu) w (w.alloc (.cells #[s,.slice A 64 cp,t] 140)):=Kept.of_below ((qaA _ w).alloc (qar _) _)
 exact⟨rfl,hb0.trans (Kept.Zb (S:=foot b bn bs vu) hg.out (by rintro _ h;injection h with h;exact .inl h.symm)) (fun i hi=>.inl hi),_,⟨bn,bs,cn,cs,vu,rfl,hop.out⟩,fun i hi=>.inl hi⟩
theorem NP(w:qag)(S:Nat->Prop)(b:Nat)(k:Dk α)(h:Zo f w S b k)(s:Int)(hs:k.has s=false)(v u:qaj):
  qaN Tryz.prog 114 #[.pointer b,.agg #[s,v,u]] w fun e w'=>e=.returned (.int .i64 1)/\Below w.heap.size w w':=by
 obtain⟨bn,bs,cn,cs,vu,rfl,hm⟩:=h
 have H:=χ hm
 have uk:=χ hs
 clear hm hs
 unfold Dk.has at uk
 go_enter Tryz.func114,Tryz.ntmps114
 go_wp2_with (go_at_call 189;refine(TQ _ _ _ _ _ _ _ _ _ _ _ _ _ _ (H.out.alloc _) _).mono ?_;rintro e w' ⟨rfl,rfl⟩;rw[uk.out])
 go_ret
 exact⟨rfl,(qaA _ w).alloc (qar _) _⟩
theorem OW(vs:List qaj):∀(n o:Nat)(arr:Array qaj)(k:Nat),((vs.zipIdx n).foldl (fun cs x=>cs.setIfInBounds (o+x.2) x.1) arr)[k]? =if o+n<=k/\k<o+n+vs.length/\k<arr.size then vs[k-(o+n)]? else arr[k]? :=by
 induction vs with
 |nil=>intro n o arr k;simp;omega
 |cons v r ih=>
  intro n o arr k
  rw[List.zipIdx_cons,List.foldl_cons,ih (n+1) o _ k]
  simp only[Array.size_setIfInBounds,qaI,qaK]
  by_cases h1:k=o+n
  ·subst h1
   rw[if_neg (by omega)]
   by_cases h2:o+n<arr.size
   ·simp[h2]
   ·simp[h2]
  ·by_cases h2:o+n<=k/\k<o+n+(r.length+1)/\k<arr.size
   ·rw[if_pos (by omega),if_pos h2]
    have e:k-(o+n)=(k-(o+(n+1)))+1:=by omega
    rw[e,qao]
   ·rw[if_neg (by omega),if_neg h2,if_neg (by omega)]
theorem BP(vs:List qaj):∀(n o:Nat)(arr:Array qaj),((vs.zipIdx n).foldl (fun cs x=>cs.setIfInBounds (o+x.2) x.1) arr).size=arr.size:=by
 induction vs with
 |nil=>intro n o arr;rfl
 |cons v r ih=>intro n o arr;rw[List.zipIdx_cons,List.foldl_cons,ih];simp
theorem Gc:Tryz.t231.zero=some (.agg (.int .i64 0::z65).toArray):=by kernel_rfl
theorem uh(W:qag):(zeroValue 178).run Tryz.prog W=.ok (.agg z65.toArray) W:=by
 have e0:Tryz.prog.info? 178=some Tryz.t178:=by kernel_rfl
 simp[zeroValue,typeInfo,e0,xK]
theorem Qt(W:qag):(zeroValue 231).run Tryz.prog W=.ok (.agg (.int .i64 0::z65).toArray) W:=by
 have e0:Tryz.prog.info? 231=some Tryz.t231:=by kernel_rfl
 simp[zeroValue,typeInfo,e0,Gc]
theorem S9:z65.length=65:=by kernel_rfl
theorem nQ(bs':List qaj)(hl:bs'.length=64)(t:qaj):(bs'.zipIdx.foldl (fun cs x=>cs.setIfInBounds x.2 x.1) z65.toArray).size=65/\(bs'.zipIdx.foldl (fun cs x=>cs.setIfInBounds x.2 x.1) z65.toArray).setIfInBounds 64 t=(bs'++[t]).toArray:=by
 have f1:=BP bs' 0 0 z65.toArray
 have f2:=OW bs' 0 0 z65.toArray
 have hz:z65.toArray.size=65:=by kernel_rfl
 simp only[qax]at f1 f2
 refine⟨f1.trans hz,?_⟩
 apply qaC
 intro k
 rw[qaK,f1,hz,f2,hz]
 simp only[hl,qak]
 by_cases h64:64=k
 ·subst h64
  simp[hl]
 ·rw[if_neg h64]
  rcases qay k 64 with hk|hk
  ·rw[if_pos (by omega),List.getElem?_append_left (by omega)]
   simp
  ·rw[if_neg (by omega),qal (by rw[S9];omega)]
   exact(qal (by simp[hl];omega)).symm
theorem nP(c:List qaj)(hl:c.length=65)(s:Int):(c.zipIdx.foldl (fun cs x=>cs.setIfInBounds (1+x.2) x.1) (.int .i64 s::z65).toArray)=(.int .i64 s::c).toArray:=by
 have f2:=OW c 0 1 (.int .i64 s::z65).toArray
 apply qaC
 intro k
 rw[f2]
 simp only[List.size_toArray,qaI,S9,hl,qak]
 cases k with
 |zero=>simp
 |succ k=>
  simp only[qao]
  rcases qay k 65 with hk|hk
  ·rw[if_pos (by omega)]
   congr 1
  ·rw[if_neg (by omega),qal (by rw[S9];omega),qal (by omega)]
theorem Mem.put (h:Mem f w b bn bs cn cs vu now safe un dead cut left done)(hf:Enc f)(hs:s<now.length)(c:α):Mem f (w.setCells bn (s*65) (f c)) b bn bs cn cs vu (now.set s c) safe un dead cut left done:=by
 have ho:=fun k (hk:k≠bn)=>ZE bn (f c) (s*65) w k hk
 refine⟨by rw[List.length_set];exact(ho b h.BR).trans h.blk,?_,h.VU.keep (ho bs h.ne.symm),h.Dt.keep fun i hi=>ho i (h.bu hi).2.1,h.ne,by simpa using h.len,h.idx⟩
 rw[List.map_set]
 exact h.Uw.set (by simpa using hs) (hf.len c) (hf.one c)
theorem Oe.owns {L:List (List qaj)}(h:Oe w vu L):w.ownsRow 0 231 66 vu L.length L.flatten:=by
 rcases h with⟨rfl,rfl⟩|⟨bu,cu,rfl,h⟩
 ·exact qag.ownsRow_nil w 0 231 66
 ·exact h.owns
theorem Lp(hf:Enc f)(p:Nat × α):(UN f p).length=66:=by simp[UN,hf.len]
theorem Lm(hf:Enc f)(p:Nat × α):∀u∈UN f p,u.oneCell'=true:=by
 intro u hu
 simp only[UN,qaB]at hu
 rcases hu with rfl|hu
 ·rfl
 ·exact hf.one _ u hu
theorem Mem.grow {w':qag}(h:Mem f w b bn bs cn cs vu now safe un dead cut left done)(hf:Enc f){p:Nat × α}(hp:p.1<safe.length)(hg:w.grownBy w' vu.ownBlock)(hat:vu.ownBlock=some g\/g=w.heap.size)(ho:w'.ownsRow 0 231 66 (.slice g (un.length+1) cap) (un.length+1) ((un.map (UN f)).flatten++UN f p)):
  Mem f (w'.setCell ⟨b,2,none⟩ (.slice g (un.length+1) cap)) b bn bs cn cs (.slice g (un.length+1) cap) now safe (un++[p]) dead cut left done/\g≠b:=by
 have hgb:g≠b:=by
  rcases hat with hat|hat
  ·exact(h.bu hat).1
  ·have:=h.blk.lt;omega
 have e1:∀k,k<w.heap.size->vu.ownBlock≠some k->k≠b->(w'.setCell ⟨b,2,none⟩ (.slice g (un.length+1) cap)).heap[k]? =w.heap[k]? :=fun k hk h1 h2=>(qah w' _ _ k h2).trans (hg.block k hk fun e=>h1 e.symm)
 have hb':Bk w' b 156 _:=h.blk.grown hg fun e=>(h.bu e.symm).1 rfl
 refine⟨⟨?_,h.Uw.keep (e1 bn h.Uw.lt (fun e=>(h.bu e).2.1 rfl) h.BR.symm),h.VU.keep (e1 bs h.VU.lt (fun e=>(h.bu e).2.2 rfl) h.xP.symm),.inr ⟨g,cap,by simp,?_⟩,h.ne,h.len,?_⟩,hgb⟩
 ·exact hb'.set 2 _
 ·have:=Row.ug (L:=(un++[p]).map (UN f)) (by simpa using ho) (by simp) (by
   intro c hc
   obtain⟨q,_,rfl⟩:=qaE.1 hc
   exact Lp hf q) (by
   intro c hc
   obtain⟨q,_,rfl⟩:=qaE.1 hc
   exact Lm hf q)
  exact this.keep (qah w' _ _ g hgb)
 ·intro q hq
  rcases List.mem_append.1 hq with hq|hq
  ·exact h.idx q hq
  ·obtain rfl:q=p:=by simpa using hq
   exact hp
theorem Mem.far (h:Mem f w b bn bs cn cs vu now safe un dead cut left done){x:Nat}{c:Array qaj}{e:TypeId}(hx:w.heap[x]? =some (.cells c e (0,0)))(he:e≠231):some x≠vu.ownBlock:=by
 intro hi
 rcases h.Dt with⟨rfl,_⟩|⟨bu,cu,rfl,hr⟩
 ·cases hi
 ·cases hi
  obtain⟨d,hd⟩:=hr.elemType
  exact Xj hx hd he rfl
theorem Nb(hf:Enc f){w3 w4:qag}{k:Dk α}{c:α}{B:Obj}(hK:Kept (foot b bn bs vu) w w3)(hm:Mem f (w3.alloc B).drew b bn bs cn cs vu (k.op.now.set s c) k.op.safe k.op.un k.op.dead k.op.cut k.op.left k.op.done)(hs:s<k.op.safe.length)(hg:(w3.alloc B).drew.grownBy w4 vu.ownBlock)(hat:vu.ownBlock=some g\/g=(w3.alloc B).drew.heap.size)(ho:w4.ownsRow 0 231 66 (.slice g (k.op.un.length+1) cap) (k.op.un.length+1) ((k.op.un.map (UN f)).flatten++UN f (s,c))):
  Turned f (foot b bn bs vu) w (w4.setCell ⟨b,2,none⟩ (.slice g (k.op.un.length+1) cap)) b (k.wrote s c):=by
 obtain⟨gI,hgb⟩:=hm.grow hf (p:=(s,c)) hs hg hat ho
 have k1:Kept (foot b bn bs vu) w3 (w3.alloc B).drew:=(Kept.of_below ((qaA _ w3).alloc (qar _) _)).drew
 have k2:Kept (foot b bn bs vu) (w3.alloc B).drew w4:=Kept.Zb hg fun i hi=>.inr (.inr (.inr hi))
 have k3:Kept (foot b bn bs vu) w4 (w4.setCell ⟨b,2,none⟩ (.slice g (k.op.un.length+1) cap)):=Kept.Zb (row:=some b) (ZT (qaH w4 _) 2 _) (by rintro _ h;injection h with h;exact .inl h.symm)
 refine⟨((hK.trans k1 fun i hi=>.inl hi).trans k2 fun i hi=>.inl hi).trans k3 fun i hi=>.inl hi,_,⟨bn,bs,cn,cs,.slice g (k.op.un.length+1) cap,rfl,?_⟩,?_⟩
 ·have e1:(k.wrote s c).now=k.op.now.set s c:=by
   simp only[Dk.now,Dk.wrote,VQ,Dk.QV,X8,WN]
  have e2:(k.wrote s c).un=k.op.un++[(s,c)]:=by simp[Dk.wrote,Dk.QV]
  rw[e1,e2]
  exact gI
 ·rintro i (rfl|rfl|rfl|hi)
  ·exact .inl (.inl rfl)
  ·exact .inl (.inr (.inl rfl))
  ·exact .inl (.inr (.inr (.inl rfl)))
  ·simp only[qaj.ownBlock,Option.some.injEq]at hi
   subst hi
   rcases hat with hat|hat
   ·exact .inl (.inr (.inr (.inr hat)))
   ·right
    have:=hK.size
    simp at hat
    omega
theorem Rn(W:qag)(v:List qaj)(hl:v.length=66):(Instr.buildSlice 154 1 #[(0,.agg v.toArray)]).run Tryz.prog W=.ok (.slice W.heap.size 1 1) (W.alloc (.cells v.toArray 231)):=by
 obtain⟨Z,hZ⟩:∃Z:Array qaj,Z=(Array.range 66).map ((qaj.agg (qaj.int .i64 0::z65).toArray).cells[· %(qaj.agg (qaj.int .i64 0::z65).toArray).cells.size]!):=⟨_,rfl⟩
 have hZs:Z.size=66:=by rw[hZ];simp
 have hz:∀W:qag,(zeroValue 231).run Tryz.prog W=.ok (.agg (qaj.int .i64 0::z65).toArray) W:=Qt
 have Jp:v.zipIdx.foldl (fun cs x=>cs.setIfInBounds (0+x.2) x.1) Z=v.toArray:=by
  apply qaC
  intro k
  rw[OW,hZs]
  simp only[hl,qak]
  rcases qay k 66 with hk|hk
  ·rw[if_pos (by omega)]
   congr 1
  ·rw[if_neg (by omega),qaz (by omega),qal (by omega)]
 have c1:(qaj.agg v.toArray).cells=v.toArray:=rfl
 unfold Instr.buildSlice
 simp only[Sem.run_bind,Tryz.runUnderlying154,Result.andThen_ok,Tryz.sizeOf231]
 simp only[qax]at Jp
 simp[Instr.fill,hz]
 rw[<-hZ]
 simp[c1,hl,Jp]
 simp[newRow]
theorem UM{o:Oper}{a:Act}{K:Act->qag->Prop}{Q:Exit->Act->qag->Prop}(x:Operand)(ho:o.op=.buildSlice 154 1 #[(0,x)])(v:List qaj)(hx:a.eval x=.agg v.toArray)(hl:v.length=66)(h:K (a.put o.dst (.slice w.heap.size 1 1)) (w.alloc (.cells v.toArray 231))):o.wp Tryz.prog a w K Q:=by
 unfold Oper.wp execOp
 simp only[ho,List.map_toArray,List.map_cons,List.map_nil,hx,Sem.run_bind,Rn w v hl,Result.andThen_ok]
 exact h
theorem run_arrayAt(W:qag)(a:Addr)(cp:Nat):(qaP 161 (.slice (some a) 64 cp)).run Tryz.prog W=.ok (.pointer (some a)) W:=by
 simp[qaP,Sem.run_bind,Tryz.runUnderlying161]
theorem NF(hf:Enc f)(w:qag)(S:Nat->Prop)(b:Nat)(k:Dk α)(h:Zo f w S b k)(s:Nat)(hs:s<k.safe.length)(ba oa cp:Nat)(bs':List qaj)(t:Int)(c:α)(hc:f c=bs'++[.int .u16 t])(hl:bs'.length=64)(hr:w.rangeAt ba oa bs')(hS:¬ S ba)(hlt:ba<w.heap.size)(hun:k.un.length<=1073741824)(hoff:k.off=false):
  qaN Tryz.prog 114 #[.pointer b,.agg #[s,.slice (some ⟨ba,oa,none⟩) 64 cp,.int .u16 t]] w fun e w'=>e=.returned (.int .i64 0)/\Turned f S w w' b (k.wrote s c):=by
 obtain⟨bn,bs,cn,cs,vu,rfl,hm⟩:=h
 have hin:(decide (0<=(s:Int))&&decide ((s:Int)<(k.safe.length:Int)))=true:=by simp;omega
 have H:=χ hm
 have uk:=χ hin
 have R8:=χ hoff
 have HS:=χ hS
 have Hr:=χ hr
 have Hs:=χ hs
 have Hf:=χ hf
 have Hc:=χ hc
 clear hm hin hoff hs hS hr hf hc
 go_enter Tryz.func114,Tryz.ntmps114
 go_wp2_with (first
  |(go_at_call 189;refine(TQ _ _ _ _ _ _ _ _ _ _ _ _ _ _ (H.out.alloc _) _).mono ?_;rintro e w' ⟨rfl,rfl⟩;rw[uk.out])
  |(go_at_call 190;refine(rC _ _ _ _ _ _ _ _ (H.out.alloc _) R8.out).mono ?_;rintro e w1 ⟨rfl,hg,hop⟩;replace hop:=χ hop;replace hg:=χ hg))
 have hW:=hg.out
 obtain⟨gb,hgb⟩:∃gb,gb=w.heap.size:=⟨_,rfl⟩
 have hbl:b≠gb:=by have:=H.out.blk.lt;omega
 have hsz1:gb+1<=w1.heap.size:=by have:=hW.size;simp at this;omega
 have xJ:w1.heap[gb]? =some (.cells #[s,.slice (some ⟨ba,oa,none⟩) 64 cp,.int .u16 t] 140 (0,0)):=by
  rw[hW.block gb (by simp;omega) (by rintro e;injection e with e;exact hbl e.symm),hgb]
  exact qaq w _
 have hb0:w1.cell? ⟨gb,0,none⟩=some (.int .i64 s):=qaw w1 gb 0 _ 140 (0,0) xJ
 have hb1:w1.cell? ⟨gb,1,none⟩=some (.slice (some ⟨ba,oa,none⟩) 64 cp):=qaw w1 gb 1 _ 140 (0,0) xJ
 have hb2:w1.cell? ⟨gb,2,none⟩=some (.int .u16 t):=qaw w1 gb 2 _ 140 (0,0) xJ
 have hr1:w1.rangeAt ba oa bs':=ZL (ZL Hr.out (qam w _ ba hlt)) (hW.block ba (by simp;omega) (by rintro e;injection e with e;exact HS.out (.inl e)))
 rw[<-hgb]at*
 have jl:=χ xJ
 clear hW xJ
 have bz:=Tryz.underlying161
 have hat:∀W:qag,(qaP 161 (.slice (some ⟨ba,oa,none⟩) 64 cp)).run Tryz.prog W=.ok (.pointer (some ⟨ba,oa,none⟩)) W:=fun W=>run_arrayAt W _ cp
 have jk:(Tryz.prog.info? 161).map (·.size)=some bs'.length:=by rw[Gb,hl]
 have h1:∀v∈bs',v.oneCell'=true:=fun v hv=>Hf.out.one c v (by rw[Hc.out];simp[hv])
 have bq:=uh
 have hzl:=S9
 obtain⟨hf1,hf2⟩:=nQ bs' hl (.int .u16 t)
 have hn0:=qag.new_ne w1 _ hb0
 obtain⟨C,hC⟩:∃C,C=bs'++[qaj.int .u16 t]:=⟨_,rfl⟩
 have xI:C.length=65:=by rw[hC];simp[hl]
 have bg:∀u∈C,u.oneCell'=true:=fun u hu=>Hf.out.one c u (by rw[Hc.out,<-hC];exact hu)
 rw[<-hC]at hf2
 have hst:∀(c0:Array qaj),c0.size=65->(storeCells ⟨w1.heap.size,0,none⟩ C 0).run Tryz.prog (w1.alloc (.cells c0 178)).drew=.ok () (w1.alloc (.cells C.toArray 178)).drew:=fun c0 h0=>
  qaG (P:=Tryz.prog) w1.drew 178 c0 C.toArray (by rw[Uj];simp[xI]) (by simp[xI,h0]) (qai bg)
 have HC:=χ hC
 have VL:=χ bg
 clear hC bg
 have key:∀o,(fun w':qag=>w'.cell? ⟨gb,1,none⟩=some (.slice (some ⟨ba,oa,none⟩) 64 cp)/\w'.cell? ⟨gb,2,none⟩=some (.int .u16 t)/\w'.rangeAt ba oa bs') (w1.alloc o).drew:=fun o=>⟨(qas _ _ _ (qae w1 _ hb1)).trans hb1,(qas _ _ _ (qae w1 _ hb2)).trans hb2,qag.rangeAt_alloc hr1 o⟩
 have Key:=χ key
 clear key
 refine qan (S:=fun w'=>w'.cell? ⟨gb,1,none⟩=some (.slice (some ⟨ba,oa,none⟩) 64 cp)/\w'.cell? ⟨gb,2,none⟩=some (.int .u16 t)/\w'.rangeAt ba oa bs') (by kernel_rfl) ⟨hb1,hb2,hr1⟩ (fun hHeld=>?_)
 refine tk 0 ?_ (y:=.inl ⟨by rfl,?hya0⟩) (s:=by assumption) (h:=?V4)
 case hya0=>(rintro w ⟨hA1,hA2,hA3⟩;go_simp<;>with_reducible rfl)
 try simp only[qad,qaa,qab,qac]
 refine tk 1 ?_ (y:=.inl ⟨by rfl,?hya1⟩) (s:=by assumption) (h:=?Wn)
 case hya1=>(rintro w ⟨hA1,hA2,hA3⟩;go_simp<;>with_reducible rfl)
 try simp only[qad,qaa,qab,qac]
 refine tk 2 ?_ (y:=.inl ⟨by rfl,?hya2⟩) (s:=by assumption) (h:=?Wm)
 case hya2=>(rintro w ⟨hA1,hA2,hA3⟩;go_simp<;>with_reducible rfl)
 try simp only[qad,qaa,qab,qac]
 refine tk 3 _ (y:=(qap (by rfl) 161 _ rfl ba oa rfl bs' _ (fun w' h=>h.2.2) Tryz.underlying161 rfl jk)) (s:=by assumption) (h:=?_)
 try simp only[qad,qaa,qab,qac]
 refine tk 4 ?_ (y:=.inl ⟨by rfl,?hya4⟩) (s:=by assumption) (h:=?TJ)
 case hya4=>(rintro w ⟨hA1,hA2,hA3⟩;go_simp<;>with_reducible rfl)
 try simp only[qad,qaa,qab,qac]
 refine tk 5 ?_ (y:=.inl ⟨by rfl,?hya5⟩) (s:=by assumption) (h:=?Vw)
 case hya5=>(rintro w ⟨hA1,hA2,hA3⟩;go_simp<;>with_reducible rfl)
 try simp only[qad,qaa,qab,qac]
 refine tk 6 ?_ (y:=.inl ⟨by rfl,?hya6⟩) (s:=by assumption) (h:=?Vg)
 case hya6=>(rintro w ⟨hA1,hA2,hA3⟩;go_simp<;>with_reducible rfl)
 try simp only[qad,qaa,qab,qac]
 refine rd 7 (h:=fun K hK=>?_)
 go_simp
 refine hK.out _ _ (Key.out _) (fun Z4=>?_)
 clear hK K hHeld
 refine rd 8 (h:=fun K hK=>?_)
 go_simp
 refine hK.out _ _ (Key.out _) (fun hHeld=>?_)
 clear hK K Z4
 refine qav (by kernel_rfl) ?_ _
 have xH:R7 f (w1.alloc (.cells C.toArray 178)).drew b bn bs cn cs vu k.op:=(hop.out.alloc (.cells C.toArray 178)).keep fun _ _=>rfl
 have hC2:(w1.alloc (.cells C.toArray 178)).drew.heap[w1.heap.size]? =some (.cells C.toArray 178 (0,0)):=qaq w1 _
 have hB2:Below w1.heap.size w1 (w1.alloc (.cells C.toArray 178)).drew:=((qaA _ w1).alloc (qar _) _).drew
 have hs2:(w1.alloc (.cells C.toArray 178)).drew.heap.size=w1.heap.size+1:=by simp
 have rz:(w1.alloc (.cells C.toArray 178)).drew.heap[gb]? =some (.cells #[s,.slice (some ⟨ba,oa,none⟩) 64 cp,.int .u16 t] 140 (0,0)):=(qam w1 _ gb (by omega)).trans jl.out
 have xG:=χ rz
 clear rz
 have nO:(w1.alloc (.cells C.toArray 178)).drew.cell? ⟨gb,0,none⟩=some (.int .i64 s):=(qas _ _ _ (qae w1 _ hb0)).trans hb0
 clear hHeld hst Key hn0 hf2 hf1 hzl bq h1 jk hat bz hr1 hb2 hb1 hb0 Hr HS uk H R8 hlt hl
 generalize (w1.alloc (.cells C.toArray 178)).drew=w2 at*
 obtain⟨g2,hg2⟩:∃g2,g2=w1.heap.size:=⟨_,rfl⟩
 rw[<-hg2]at hC2 hB2 hs2⊢
 have hr2:w2.rangeAt g2 0 C:=fun j v hj=>by
  rw[qax,qaw w2 g2 j _ 178 (0,0) hC2]
  simpa using hj
 have MF:=xH.BQ
 have hlen:k.op.now.length=k.safe.length:=by rw[xH.len,Dk.UZ]
 have hth:w2.there bn (s*65) 65:=xH.Uw.there (by simp only[List.length_map];rw[hlen];exact Hs.out)
 have hsn:(s:Int)<(k.op.now.length:Int):=by have:=Hs.out;omega
 have hs0:(0:Int)<=(s:Int):=by omega
 obtain⟨nn,hnn⟩:∃nn,nn=k.op.now.length:=⟨_,rfl⟩
 rw[<-hnn]at MF hsn
 have uf:=χ xH
 have HB2:=χ hB2
 have nN:=χ hC2
 have Hlen:=χ hlen
 have jm:=χ hnn
 have bf:=χ hg2
 have ji:=hop
 clear xH hB2 hC2 hlen hnn hg2 hop
 have tZ:=Tryz.underlying178
 have Od:(Tryz.prog.info? 178).map (·.size)=some C.length:=by rw[Uj,xI]
 have hone:=VL.out
 have hne1:bn≠b:=(uf.out.BR).symm
 have hne2:gb≠bn:=by
  obtain⟨x,hx⟩:=uf.out.Uw.elemType
  exact Xj xG.out hx (by decide)
 have nM:g2≠bn:=by
  have h1:=(ji.out).Uw.lt
  have h2:=bf.out
  omega
 have jh:Hid ((fun w':qag=>w'.cell? ⟨b,0,none⟩=some (.slice bn nn cn)/\w'.cell? ⟨gb,0,none⟩=some (.int .i64 s)/\w'.rangeAt g2 0 C) (w2.drew.setCells bn (s*65) C)):=⟨(qaf (a:=⟨b,0,none⟩) (ZE bn C _ w2.drew b hne1.symm)).trans MF,(qaf (a:=⟨gb,0,none⟩) (ZE bn C _ w2.drew gb hne2)).trans nO,ZL hr2 (ZE bn C _ w2.drew g2 nM)⟩
 go_wp2
 refine qan (S:=fun w'=>w'.cell? ⟨b,0,none⟩=some (.slice bn nn cn)/\w'.cell? ⟨gb,0,none⟩=some (.int .i64 s)/\w'.rangeAt g2 0 C) (by kernel_rfl) ⟨MF,nO,hr2⟩ (fun hHeld=>?_)
 refine tk 0 ?_ (y:=.inl ⟨by rfl,?hyb0⟩) (s:=by assumption) (h:=?AU)
 case hyb0=>(rintro w ⟨hA1,hA2,hA3⟩;go_simp<;>with_reducible rfl)
 try simp only[qad,qaa,qab,qac]
 refine tk 1 ?_ (y:=.inl ⟨by rfl,?hyb1⟩) (s:=by assumption) (h:=?AR)
 case hyb1=>(rintro w ⟨hA1,hA2,hA3⟩;go_simp<;>with_reducible rfl)
 try simp only[qad,qaa,qab,qac]
 refine tk 2 ?_ (y:=.inl ⟨by rfl,?hyb2⟩) (s:=by assumption) (h:=?AQ)
 case hyb2=>(rintro w ⟨hA1,hA2,hA3⟩;go_simp<;>with_reducible rfl)
 try simp only[qad,qaa,qab,qac]
 refine tk 3 ?_ (y:=.inl ⟨by rfl,?hyb3⟩) (s:=by assumption) (h:=?AP)
 case hyb3=>(rintro w ⟨hA1,hA2,hA3⟩;go_simp<;>with_reducible rfl)
 try simp only[qad,qaa,qab,qac]
 refine tk 4 ?_ (y:=.inl ⟨by rfl,?hyb4⟩) (s:=by assumption) (h:=?AO)
 case hyb4=>(rintro w ⟨hA1,hA2,hA3⟩;go_simp<;>with_reducible rfl)
 try simp only[qad,qaa,qab,qac]
 refine tk 5 ?_ (y:=.inl ⟨by rfl,?hyb5⟩) (s:=by assumption) (h:=?vM)
 case hyb5=>(rintro w ⟨hA1,hA2,hA3⟩;go_simp<;>with_reducible rfl)
 try simp only[qad,qaa,qab,qac]
 refine tk 6 _ (y:=(qap (by rfl) 178 _ rfl g2 0 rfl C _ (fun w' h=>h.2.2) tZ rfl Od)) (s:=by assumption) (h:=?_)
 try simp only[qad,qaa,qab,qac]
 refine tk 7 ?_ (y:=.inl ⟨by rfl,?hyb7⟩) (s:=by assumption) (h:=?vS)
 case hyb7=>(rintro w ⟨hA1,hA2,hA3⟩;go_simp<;>with_reducible rfl)
 try simp only[qad,qaa,qab,qac]
 refine rd 8 (h:=fun K hK=>?_)
 rw[if_pos (by rfl)]
 refine wp_store_mid 178 _ _ rfl bn (s*65) C.toArray rfl rfl (by simpa[xI]using hth) (by rw[Uj];simp[xI]) (qai hone) ?_
 simp only[qad]
 refine hK.out _ _ (jh.out) (fun Z4=>?_)
 clear hK K hHeld
 refine qav (by kernel_rfl) ?_ _
 have hfc:C=f c:=HC.out.trans Hc.out.symm
 have aZ:Mem f (w2.drew.setCells bn (s*65) C) b bn bs cn cs vu (k.op.now.set s c) k.op.safe k.op.un k.op.dead k.op.cut k.op.left k.op.done:=by
  rw[hfc]
  exact Mem.put (w:=w2.drew) (uf.out.keep fun _ _=>rfl) Hf.out (by rw[Hlen.out];exact Hs.out) c
 have hg3:w2.drew.grownBy (w2.drew.setCells bn (s*65) C) (some bn):=V6 _ _ _ _
 have hC3:(w2.drew.setCells bn (s*65) C).heap[g2]? =some (.cells C.toArray 178 (0,0)):=(ZE bn C _ w2.drew g2 nM).trans nN.out
 have hB3:(w2.drew.setCells bn (s*65) C).heap[gb]? =some (.cells #[s,.slice (some ⟨ba,oa,none⟩) 64 cp,.int .u16 t] 140 (0,0)):=(ZE bn C _ w2.drew gb hne2).trans xG.out
 have hK3:Kept (foot b bn bs vu) w (w2.drew.setCells bn (s*65) C):=by
  have k1:Kept (foot b bn bs vu) w (w.alloc (.cells #[s,.slice (some ⟨ba,oa,none⟩) 64 cp,.int .u16 t] 140)):=Kept.of_below ((qaA _ w).alloc (qar _) _)
  have k2:Kept (foot b bn bs vu) _ w1:=Kept.Zb hg.out (by rintro _ h;injection h with h;exact .inl h.symm)
  have k3:Kept (foot b bn bs vu) w1 w2:=by
   have:=HB2.out
   rw[bf.out]at this
   exact Kept.of_below this
  have k4:Kept (foot b bn bs vu) w2.drew _:=Kept.Zb hg3 (by rintro _ h;injection h with h;exact .inr (.inl h.symm))
  exact((k1.trans k2 fun i hi=>.inl hi).trans k3 fun i hi=>.inl hi).drew.trans k4 fun i hi=>.inl hi
 have Hfc:=χ hfc
 clear hfc
 have hc3:=Z4.2.1
 have hr3:=Z4.2.2
 have Hs':Hid (s<k.op.safe.length):=by rw[Dk.UZ];exact Hs.out
 have wF:Hid (k.op.un.length<=1073741824):=by rw[Dk.QV];exact hun
 clear Z4 jh nM hne2 hne1 Od tZ ji bf jm Hlen nN HB2 uf MF hsn hs0 hth hr2 hs2 nO xG hg jl hg3 hun hsz1
 generalize w2.drew.setCells bn (s*65) C=w3 at*
 have Hm3:=χ aZ
 have tY:=χ hC3
 have HB3:=χ hB3
 have gV:=χ hK3
 have abD:=aZ.lJ
 clear aZ hC3 hB3 hK3
 have tZ:=Tryz.underlying178
 have Od:(Tryz.prog.info? 178).map (·.size)=some C.length:=by rw[Uj,xI]
 have jq:=Qt
 have hzl:=S9
 have abE:=nP C xI (s:Int)
 have hal:∀o,w3.alloc o=w3.alloc o:=fun _=>rfl
 have jg:∀o,(fun w':qag=>w'.cell? ⟨gb,0,none⟩=some (.int .i64 s)/\w'.rangeAt g2 0 C) (w3.alloc o).drew:=fun o=>⟨(qas _ _ _ (qae w3 _ hc3)).trans hc3,qag.rangeAt_alloc hr3 o⟩
 have Ga:=χ jg
 clear jg hal
 go_wp2
 refine qan (S:=fun w'=>w'.cell? ⟨gb,0,none⟩=some (.int .i64 s)/\w'.rangeAt g2 0 C) (by kernel_rfl) ⟨hc3,hr3⟩ (fun hHeld=>?_)
 refine tk 0 ?_ (y:=.inl ⟨by rfl,?hyc0⟩) (s:=by assumption) (h:=?bQ)
 case hyc0=>(rintro w ⟨hA1,hA2⟩;go_simp<;>with_reducible rfl)
 try simp only[qad,qaa,qab,qac]
 refine tk 1 ?_ (y:=.inl ⟨by rfl,?hyc1⟩) (s:=by assumption) (h:=?bO)
 case hyc1=>(rintro w ⟨hA1,hA2⟩;go_simp<;>with_reducible rfl)
 try simp only[qad,qaa,qab,qac]
 refine tk 2 ?_ (y:=.inl ⟨by rfl,?hyc2⟩) (s:=by assumption) (h:=?bM)
 case hyc2=>(rintro w ⟨hA1,hA2⟩;go_simp<;>with_reducible rfl)
 try simp only[qad,qaa,qab,qac]
 refine tk 3 ?_ (y:=.inl ⟨by rfl,?hyc3⟩) (s:=by assumption) (h:=?bK)
 case hyc3=>(rintro w ⟨hA1,hA2⟩;go_simp<;>with_reducible rfl)
 try simp only[qad,qaa,qab,qac]
 refine tk 5 ?_ (y:=.inl ⟨by rfl,?hyc5⟩) (s:=by assumption) (h:=?bH)
 case hyc5=>(rintro w ⟨hA1,hA2⟩;go_simp<;>with_reducible rfl)
 try simp only[qad,qaa,qab,qac]
 refine tk 6 ?_ (y:=.inl ⟨by rfl,?hyc6⟩) (s:=by assumption) (h:=?bF)
 case hyc6=>(rintro w ⟨hA1,hA2⟩;go_simp<;>with_reducible rfl)
 try simp only[qad,qaa,qab,qac]
 refine tk 7 _ (y:=(qap (by rfl) 178 _ rfl g2 0 rfl C _ (fun w' h=>h.2) tZ rfl Od)) (s:=by assumption) (h:=?_)
 try simp only[qad,qaa,qab,qac]
 refine tk 8 ?_ (y:=.inl ⟨by rfl,?hyc8⟩) (s:=by assumption) (h:=?abF)
 case hyc8=>(rintro w ⟨hA1,hA2⟩;go_simp<;>with_reducible rfl)
 try simp only[qad,qaa,qab,qac]
 refine wpAnyH_ready (rs:=[4,9]) (by kernel_rfl) (by simp) ?_
 refine AllReadyH.cons (o:=_) (by simp only[qak,qao,qaM];rfl) (fun K hK=>?_) (AllReadyH.cons (o:=_) (by simp only[qak,qao,qaM];rfl) (fun K hK=>?_) (AllReadyH.nil))
 ·go_simp
  refine hK.out _ _ ⟨hc3,hr3⟩ (fun hHeld=>?_)
  clear hK K
  refine rd 9 (h:=fun K hK=>?_)
  rw[if_pos (by rfl)]
  refine UM (.tmp 45) rfl (.int .i64 s::C) rfl (by simp[xI]) ?_
  try simp only[qad,qaa,qab,qac]
  change K _ (w3.alloc (.cells (.int .i64 s::C).toArray 231)).drew
  refine hK.out _ _ (Ga.out _) (fun hHeld=>?_)
  clear hK K
  have K7:Mem f (w3.alloc (.cells (.int .i64 s::C).toArray 231)).drew b bn bs cn cs vu (k.op.now.set s c) k.op.safe k.op.un k.op.dead k.op.cut k.op.left k.op.done:=(Hm3.out.alloc (.cells (.int .i64 s::C).toArray 231)).keep fun _ _=>rfl
  have xE:g2<w3.heap.size:=by
   rcases qay g2 w3.heap.size with h|h
   ·exact h
   ·have:=tY.out;rw[qaz h]at this;cases this
  have nL:=qae w3 _ hc3
  have nK:(w3.alloc (.cells (.int .i64 s::C).toArray 231)).drew.heap[gb]? =some (.cells _ 140 (0,0)):=(qam w3 _ gb nL).trans HB3.out
  have nJ:(w3.alloc (.cells (.int .i64 s::C).toArray 231)).drew.heap[g2]? =some (.cells _ 178 (0,0)):=(qam w3 _ g2 xE).trans tY.out
  refine rd 10 (h:=fun K hK=>?_)
  refine step_append_lies _ rfl (.tmp 41) (.tmp 46) 154 rfl 0 231 Tryz.t231 _ 66 80 Tryz.underlying154 (by kernel_rfl) Gc rfl rfl (by kernel_rfl) (by decide) vu k.op.un.length (k.op.un.map (UN f)).flatten rfl (by simpa using K7.Dt.owns) ⟨w3.heap.size,0,none⟩ 1 1 (.int .i64 s::C) rfl (by simp[xI]) (qag.news_of_block (cs:=(.int .i64 s::C).toArray) (qaq w3 _)) (by intro u hu;simp only[qaB]at hu;rcases hu with rfl|hu;exact rfl;exact hone u hu) (by decide) (by have:=wF.out;simp[maxLen];omega) (by have:=wF.out;omega) (qaJ _) _ rfl ?_
  intro g cap w4 hown hgrow hat oD
  try simp only[qad,qaa,qab,qac]
  have hb4:=K7.blk.grown hgrow (fun e=>(K7.bu e.symm).1 rfl)
  have hc4:=hb4.cell 2
  have hf4:=hb4.frozen 2
  have jf:(fun w':qag=>w'.cell? ⟨gb,0,none⟩=some (.int .i64 s)/\w'.rangeAt g2 0 C) w4:=⟨(hgrow.cell_far ⟨gb,0,none⟩ (by have:=qae w3 _ hc3;simp at this⊢;omega) (K7.far nK (by decide))).trans (Ga.out _).1,ZL (Ga.out _).2 (hgrow.block g2 (by have:=xE;simp;omega) (K7.far nJ (by decide)))⟩
  have hfin:=Nb Hf.out gV.out K7 Hs'.out hgrow hat (by simpa[UN,<-Hfc.out]using hown)
  have R9:=χ hfin
  have Bz:=χ jf
  have xD:w4.heap[gb]? =some (.cells _ 140 (0,0)):=(hgrow.block gb (by have:=qae w3 _ hc3;simp at this⊢;omega) (K7.far nK (by decide))).trans nK
  have hbne:gb≠b:=Xj xD hb4 (by decide)
  have xC:w4.heap[g2]? =some (.cells _ 178 (0,0)):=(hgrow.block g2 (by simp;omega) (K7.far nJ (by decide))).trans nJ
  have xB:g2≠b:=Xj xC hb4 (by decide)
  have mr:Hid (∀v,(fun w':qag=>w'.cell? ⟨gb,0,none⟩=some (.int .i64 s)/\w'.rangeAt g2 0 C) (w4.setCell ⟨b,2,none⟩ v)):=fun v=>⟨(qaf (a:=⟨gb,0,none⟩) (qah w4 _ v gb hbne)).trans Bz.out.1,ZL Bz.out.2 (qah w4 _ v g2 xB)⟩
  clear hfin jf xD xC hown hgrow hat hb4
  refine hK.out _ _ Bz.out (fun hHeld=>?_)
  clear hK K
  refine tk 11 ?_ (y:=.inl ⟨by rfl,?hyd11⟩) (s:=by assumption) (h:=?jw)
  case hyd11=>(rintro w ⟨hA1,hA2⟩;go_simp<;>with_reducible rfl)
  try simp only[qad,qaa,qab,qac]
  refine tk 12 ?_ (y:=.inl ⟨by rfl,?hyd12⟩) (s:=by assumption) (h:=?jv)
  case hyd12=>(rintro w ⟨hA1,hA2⟩;go_simp<;>with_reducible rfl)
  try simp only[qad,qaa,qab,qac]
  refine rd 13 (h:=fun K hK=>?_)
  go_simp
  refine hK.out _ _ (mr.out _) (fun hHeld=>?_)
  clear hK K
  refine qav (by kernel_rfl) ?_ _
  go_wp2
  go_ret
  exact⟨rfl,R9.out⟩
 ·have K7:Mem f (w3.alloc (.cells (.int .i64 s::C).toArray 231)).drew b bn bs cn cs vu (k.op.now.set s c) k.op.safe k.op.un k.op.dead k.op.cut k.op.left k.op.done:=(Hm3.out.alloc (.cells (.int .i64 s::C).toArray 231)).keep fun _ _=>rfl
  have xE:g2<w3.heap.size:=by
   rcases qay g2 w3.heap.size with h|h
   ·exact h
   ·have:=tY.out;rw[qaz h]at this;cases this
  have nL:=qae w3 _ hc3
  have nK:(w3.alloc (.cells (.int .i64 s::C).toArray 231)).drew.heap[gb]? =some (.cells _ 140 (0,0)):=(qam w3 _ gb nL).trans HB3.out
  have nJ:(w3.alloc (.cells (.int .i64 s::C).toArray 231)).drew.heap[g2]? =some (.cells _ 178 (0,0)):=(qam w3 _ g2 xE).trans tY.out
  rw[if_pos (by rfl)]
  refine UM (.tmp 45) rfl (.int .i64 s::C) rfl (by simp[xI]) ?_
  try simp only[qad,qaa,qab,qac]
  change K _ (w3.alloc (.cells (.int .i64 s::C).toArray 231)).drew
  refine hK.out _ _ (Ga.out _) (fun hHeld=>?_)
  clear hK K
  have aY:(w3.alloc (.cells (.int .i64 s::C).toArray 231)).cell? ⟨b,2,none⟩=some vu:=K7.lJ
  refine rd 4 (h:=fun K hK=>?_)
  go_simp
  refine hK.out _ _ (Ga.out _) (fun hHeld=>?_)
  clear hK K aY
  refine rd 10 (h:=fun K hK=>?_)
  refine step_append_lies _ rfl (.tmp 41) (.tmp 46) 154 rfl 0 231 Tryz.t231 _ 66 80 Tryz.underlying154 (by kernel_rfl) Gc rfl rfl (by kernel_rfl) (by decide) vu k.op.un.length (k.op.un.map (UN f)).flatten rfl (by simpa using K7.Dt.owns) ⟨w3.heap.size,0,none⟩ 1 1 (.int .i64 s::C) rfl (by simp[xI]) (qag.news_of_block (cs:=(.int .i64 s::C).toArray) (qaq w3 _)) (by intro u hu;simp only[qaB]at hu;rcases hu with rfl|hu;exact rfl;exact hone u hu) (by decide) (by have:=wF.out;simp[maxLen];omega) (by have:=wF.out;omega) (qaJ _) _ rfl ?_
  intro g cap w4 hown hgrow hat oD
  try simp only[qad,qaa,qab,qac]
  have hb4:=K7.blk.grown hgrow (fun e=>(K7.bu e.symm).1 rfl)
  have hc4:=hb4.cell 2
  have hf4:=hb4.frozen 2
  have jf:(fun w':qag=>w'.cell? ⟨gb,0,none⟩=some (.int .i64 s)/\w'.rangeAt g2 0 C) w4:=⟨(hgrow.cell_far ⟨gb,0,none⟩ (by have:=qae w3 _ hc3;simp at this⊢;omega) (K7.far nK (by decide))).trans (Ga.out _).1,ZL (Ga.out _).2 (hgrow.block g2 (by have:=xE;simp;omega) (K7.far nJ (by decide)))⟩
  have hfin:=Nb Hf.out gV.out K7 Hs'.out hgrow hat (by simpa[UN,<-Hfc.out]using hown)
  have R9:=χ hfin
  have Bz:=χ jf
  have xD:w4.heap[gb]? =some (.cells _ 140 (0,0)):=(hgrow.block gb (by have:=qae w3 _ hc3;simp at this⊢;omega) (K7.far nK (by decide))).trans nK
  have hbne:gb≠b:=Xj xD hb4 (by decide)
  have xC:w4.heap[g2]? =some (.cells _ 178 (0,0)):=(hgrow.block g2 (by simp;omega) (K7.far nJ (by decide))).trans nJ
  have xB:g2≠b:=Xj xC hb4 (by decide)
  have mr:Hid (∀v,(fun w':qag=>w'.cell? ⟨gb,0,none⟩=some (.int .i64 s)/\w'.rangeAt g2 0 C) (w4.setCell ⟨b,2,none⟩ v)):=fun v=>⟨(qaf (a:=⟨gb,0,none⟩) (qah w4 _ v gb hbne)).trans Bz.out.1,ZL Bz.out.2 (qah w4 _ v g2 xB)⟩
  clear hfin jf xD xC hown hgrow hat hb4
  refine hK.out _ _ Bz.out (fun hHeld=>?_)
  clear hK K
  refine tk 11 ?_ (y:=.inl ⟨by rfl,?hye11⟩) (s:=by assumption) (h:=?aaV)
  case hye11=>(rintro w ⟨hA1,hA2⟩;go_simp<;>with_reducible rfl)
  try simp only[qad,qaa,qab,qac]
  refine tk 12 ?_ (y:=.inl ⟨by rfl,?hye12⟩) (s:=by assumption) (h:=?aaW)
  case hye12=>(rintro w ⟨hA1,hA2⟩;go_simp<;>with_reducible rfl)
  try simp only[qad,qaa,qab,qac]
  refine rd 13 (h:=fun K hK=>?_)
  go_simp
  refine hK.out _ _ (mr.out _) (fun hHeld=>?_)
  clear hK K
  refine qav (by kernel_rfl) ?_ _
  go_wp2
  go_ret
  exact⟨rfl,R9.out⟩
end
end
end Go.Proofs.YtmehhgfbnfbnaaaGreat

namespace Go.Proofs.YtmehhgfbnfbnaaaGreat
open Go.RowKit
attribute [local go_sem↓] Go.wp_at_zero Go.wp_at_succ
section
variable {α:Type}{f:α->List qaj}
section
variable {w:qag}{b bn bs t i s cn cs j:Nat}{vu:qaj}{l un:List (Nat × α)}{now safe N:List α}{dead cut:Bool}{left done:Int}{k:Dk α}
theorem QU(t i:Nat)(l m:List (Nat × α)):kept t i (l++m)=kept t i l++kept t (i+l.length) m:=by
 induction l generalizing i with
 |nil=>simp[kept]
 |cons p l ih=>
  simp only[List.cons_append,kept,qaI]
  rw[ih (i+1),show i+1+l.length=i+(l.length+1)by omega]
  split<;>rfl
theorem JA:∀p∈kept t i l,p∈l:=by
 induction l generalizing i with
 |nil=>intro p hp;exact hp
 |cons q l ih=>
  intro p hp
  simp only[kept]at hp
  split at hp
  ·rcases qaB.1 hp with rfl|hp
   ·exact List.mem_cons_self
   ·exact List.mem_cons_of_mem _ (ih p hp)
  ·exact List.mem_cons_of_mem _ (ih p hp)
theorem Xk{L:List α}(h:∀p∈l,p.1≠s):(puts L l)[s]? =L[s]? :=by
 induction l generalizing L with
 |nil=>rfl
 |cons p l ih=>
  rw[X8,ih fun q hq=>h q (by simp[hq]),List.getElem?_set_ne (h p (by simp))]
def YT(k:Dk α)(t j:Nat):List α:=puts k.safe (kept t 0 (k.un.take j))
theorem Tu(k:Dk α)(t j:Nat):(YT k t j).length=k.safe.length:=XV _ _
theorem Ju(k:Dk α)(t:Nat):YT k t 0=k.safe:=by simp[YT,kept,puts]
theorem Gi(k:Dk α)(t j:Nat)(p:Nat × α)(hp:k.un[j]? =some p)(h:t.testBit (j%64)=true):YT k t (j+1)=(YT k t j).set p.1 p.2:=by
 have hl:(k.un.take j).length=j:=by have:=(qat.1 hp).1;simp;omega
 have e:k.un.take (j+1)=k.un.take j++[p]:=by rw[qaD,hp];rfl
 simp only[YT,e,QU,VQ,hl,kept,qax,h,if_true,X8,WN]
theorem BU(k:Dk α)(t j:Nat)(p:Nat × α)(hp:k.un[j]? =some p)(h:t.testBit (j%64)=false):YT k t (j+1)=YT k t j:=by
 have hl:(k.un.take j).length=j:=by have:=(qat.1 hp).1;simp;omega
 have e:k.un.take (j+1)=k.un.take j++[p]:=by rw[qaD,hp];rfl
 simp only[YT,e,QU,VQ,hl,kept,qax,h,Bool.false_eq_true,if_false,WN]
theorem Gh(k:Dk α)(t:Nat):YT k t k.un.length=(k.settle t).safe:=by simp[YT,Dk.settle]
theorem Mem.ui (h:Mem f w b bn bs cn cs vu now safe un dead cut left done)(hf:Enc f)(hs:s<safe.length)(c:α):Mem f (w.setCells bs (s*65) (f c)) b bn bs cn cs vu now (safe.set s c) un dead cut left done:=by
 have ho:=fun k (hk:k≠bs)=>ZE bs (f c) (s*65) w k hk
 refine⟨by rw[List.length_set];exact(ho b h.xP).trans h.blk,h.Uw.keep (ho bn h.ne),?_,h.Dt.keep fun i hi=>ho i (h.bu hi).2.2,h.ne,by simpa using h.len,by simpa using h.idx⟩
 rw[List.map_set]
 exact h.VU.set (by simpa using hs) (hf.len c) (hf.one c)
theorem Jt(W:qag)(p:Nat × α):(W.alloc (.cells (UN f p).toArray 231)).cell? ⟨W.heap.size,0,none⟩=some (.int .i64 p.1):=by
 rw[qaw _ W.heap.size 0 _ 231 (0,0) (qaq W _)]
 simp[UN]
theorem BS(W:qag)(p:Nat × α):(W.alloc (.cells (UN f p).toArray 231)).rangeAt W.heap.size 1 (f p.2):=fun j v hj=>by
 rw[qaw _ W.heap.size (1+j) _ 231 (0,0) (qaq W _),Nat.add_comm]
 simpa[UN]using hj
theorem OY(a j:Nat)(ha:a<18446744073709551616):(bits .and .u64 ((a:Int)/2^j) 1==1)=a.testBit j:=by
 have e:((a:Int)/2^j)=((a/2^j:Nat):Int):=by simp
 have h:=Nat.div_le_self a (2^j)
 have e2:=u64_and_nat (a/2^j) 1 (by omega) (by omega)
 rw[show(a/2^j)&&& 1=a/2^j%2 from Nat.and_one_is_mod _]at e2
 rw[e,show(1:Int)=((1:Nat):Int)from rfl,e2,Nat.testBit_eq_decide_div_mod_eq,Bool.eq_iff_iff]
 simp
 omega
theorem Oe.range {a:Addr}{m cu:Nat}{L:List (List qaj)}(h:Oe w (.slice (some a) m cu) L){c:List qaj}(hc:L[j]? =some c):w.rangeAt a.block (j*66) c:=by
 rcases h with⟨h,_⟩|⟨bu',cu',he,hR⟩
 ·cases h
 ·injection he with h1 h2 h3
  injection h1 with h1
  subst h1
  exact(hR.elem j _ hc).2.2
def Lr(k:Dk α)(S' N:List α)(j:Nat):Prop:=∀s,(s∈(k.un.take j).map (·.1)->N[s]? =S'[s]?)/\(s∉(k.un.take j).map (·.1)->N[s]? =k.now[s]?)
theorem Lr.start (k:Dk α)(S':List α):Lr k S' k.now 0:=fun s=>⟨fun h=>by simp at h,fun _=>rfl⟩
theorem Lr.step {S':List α}(h:Lr k S' N j){p:Nat × α}(hp:k.un[j]? =some p){c:α}(hc:S'[p.1]? =some c)(hl:N.length=S'.length):Lr k S' (N.set p.1 c) (j+1):=fun s=>by
 have e:k.un.take (j+1)=k.un.take j++[p]:=by rw[qaD,hp];rfl
 rw[e,List.map_append,List.mem_append]
 have hlt:p.1<N.length:=by rw[hl];exact(qat.1 hc).1
 by_cases hs:p.1=s
 ·subst hs
  refine⟨fun _=>by rw[List.getElem?_set_self hlt,hc],fun hn=>absurd (.inr (by simp)) hn⟩
 ·rw[List.getElem?_set_ne hs]
  refine⟨fun hm=>(h s).1 ?_,fun hn=>(h s).2 fun hm=>hn (.inl hm)⟩
  rcases hm with hm|hm
  ·exact hm
  ·simp at hm
   exact absurd hm.symm hs
theorem Lr.all (h:Lr k (YT k t k.un.length) N k.un.length):N=YT k t k.un.length:=by
 apply List.ext_getElem?
 intro s
 by_cases hs:s∈(k.un.take k.un.length).map (·.1)
 ·exact(h s).1 hs
 ·rw[(h s).2 hs]
  rw[List.take_length]at hs
  have h1:k.now[s]? =k.safe[s]? :=Xk fun p hp e=>hs (qaE.2 ⟨p,hp,e⟩)
  have h2:(YT k t k.un.length)[s]? =k.safe[s]? :=Xk fun p hp e=>hs (qaE.2 ⟨p,by
   have:=JA p hp
   rwa[List.take_length]at this,e⟩)
  rw[h1,h2]
theorem Mem.drop (h:Mem f w b bn bs cn cs vu now safe un dead cut left done):Mem f (w.setCell ⟨b,2,none⟩ (.slice none 0 0)) b bn bs cn cs (.slice none 0 0) now safe [] dead cut left done:=by
 have ho:=fun k (hk:k≠b)=>qah w ⟨b,2,none⟩ (.slice none 0 0) k hk
 exact⟨h.blk.set 2 _,h.Uw.keep (ho bn h.BR.symm),h.VU.keep (ho bs h.xP.symm),.inl ⟨rfl,rfl⟩,h.ne,h.len,fun p hp=>by cases hp⟩
theorem Js(hf:Enc f)(w:qag)(b bn bs cn cs bu cu:Nat)(k:Dk α)(there:Nat)(ht:there<18446744073709551616)(hun:k.un.length<=1073741824)(hm:R7 f w b bn bs cn cs (.slice bu k.un.length cu) k):
  qaN Tryz.prog 94 #[.pointer b,.int .u64 there] w fun e w'=>e=.returned (.tuple #[])/\Kept (foot b bn bs (.slice bu k.un.length cu)) w w'/\R7 f w' b bn bs cn cs (.slice none 0 0) (k.settle there):=by
 have h2:=hm.lJ
 have Hf:=χ hf
 have Hm:=χ hm
 clear hm hf
 obtain⟨m,hmm⟩:∃m,m=k.un.length:=⟨_,rfl⟩
 rw[<-hmm]at h2 hun
 have jr:=χ hmm
 clear hmm
 go_enter Tryz.func94,Tryz.ntmps94
 go_wp2
 go_loopw [13] (fun i wr=>∃j:Nat,j<=m/\i=.int .i64 j/\Kept (foot b bn bs (.slice bu k.un.length cu)) w wr/\Mem f wr b bn bs cn cs (.slice bu k.un.length cu) k.now (YT k there j) k.un k.dead k.cut k.left k.done) (fun i _=>m-(intOf i).toNat)
 case atStart=>exact⟨0,qaJ _,rfl,Kept.refl _ _,by rw[Ju];exact Hm.out⟩
 case round=>
  obtain⟨j,hj,rfl,hK,hM⟩:=hrel
  have HK:=χ hK
  have HM:=χ hM
  clear hK hM
  by_cases hlt:j<m
  ·have hlt':j<k.un.length:=by rw[<-jr.out];exact hlt
   obtain⟨p,hp⟩:∃p,k.un[j]? =some p:=⟨_,qau hlt'⟩
   have hr:wr.rangeAt bu (j*66) (UN f p):=by
    exact HM.out.Dt.range (by rw[qaF,hp];rfl)
   have Hp:=χ hp
   clear hp hlt'
   have hEl:=Lp Hf.out p
   have bE:=χ (Lm Hf.out p)
   have hst:∀(c0:Array qaj),c0.size=66->(storeCells ⟨wr.heap.size,0,none⟩ (UN f p) 0).run Tryz.prog (wr.alloc (.cells c0 231))=.ok () (wr.alloc (.cells (UN f p).toArray 231)):=fun c0 h0=>by
    simpa using qaG (P:=Tryz.prog) wr 231 c0 (UN f p).toArray (by rw[OX];simp[hEl]) (by simp[hEl,h0]) (qai bE.out)
   have jq:=Qt
   have hzl:=S9
   have jo:Mem f (wr.alloc (.cells (UN f p).toArray 231)) b bn bs cn cs (.slice bu k.un.length cu) k.now (YT k there j) k.un k.dead k.cut k.left k.done:=HM.out.alloc _
   have hKa:Kept (foot b bn bs (.slice bu k.un.length cu)) w (wr.alloc (.cells (UN f p).toArray 231)):=HK.out.trans (Kept.of_below (S:=foot b bn bs (.slice bu k.un.length cu)) ((qaA _ wr).alloc (qar _) _)) fun i hi=>.inl hi
   have Gg:=χ jo
   have rE:=χ hKa
   clear jo hKa
   cases hbit:there.testBit (j%64)
   ·have ht':(bits .and .u64 ((there:Int)/2^(j%64)) 1==1)=false:=by rw[OY _ _ ht,hbit]
    have nR:=χ hbit
    clear hbit
    go_wp2_with (refine qaL rfl 231 (.tmp 16) rfl bu (j*66) rfl (UN f p) _ hr Tryz.underlying231 rfl (by rw[OX,hEl]) ?_)
    go_roundw
    case rel=>exact⟨j+1,by omega,by go_num,rE.out,by rw[BU k there j p Hp.out nR.out];exact Gg.out⟩
    case measure=>simp[intOf];omega
   ·have ht':(bits .and .u64 ((there:Int)/2^(j%64)) 1==1)=true:=by rw[OY _ _ ht,hbit]
    have nR:=χ hbit
    clear hbit
    go_wp2_with (refine qaL rfl 231 (.tmp 16) rfl bu (j*66) rfl (UN f p) _ hr Tryz.underlying231 rfl (by rw[OX,hEl]) ?_)
    have hc0:=Jt (f:=f) wr p
    have hr0:=BS (f:=f) wr p
    have hps:p.1<(YT k there j).length:=by
     rw[Tu]
     exact Hm.out.idx p (qaO.2 ⟨j,Hp.out⟩)
    obtain⟨nn,hnn⟩:∃nn,nn=(YT k there j).length:=⟨_,rfl⟩
    have hb1:=Gg.out.rD
    have hth:(wr.alloc (.cells (UN f p).toArray 231)).there bs (p.1*65) 65:=Gg.out.VU.there (by simpa using hps)
    have hgs:wr.heap.size≠bs:=by have:=HM.out.VU.lt;omega
    have hbb:=Gg.out.xP
    rw[<-hnn]at hb1 hps
    have hp0:(0:Int)<=(p.1:Int):=by omega
    have hpn:(p.1:Int)<(nn:Int):=by omega
    have jm:=χ hnn
    have bD:=χ hps
    clear hnn hps hst hr
    obtain⟨g,hg⟩:∃g,g=wr.heap.size:=⟨_,rfl⟩
    rw[<-hg]at hc0 hr0 hgs
    generalize wr.alloc (.cells (UN f p).toArray 231)=w1 at*
    have Gf:=Hf.out.len p.2
    have h1:=Hf.out.one p.2
    have Key:Hid ((fun w':qag=>w'.cell? ⟨b,1,none⟩=some (.slice bs nn cs)/\w'.cell? ⟨g,0,none⟩=some (.int .i64 p.1)/\w'.rangeAt g 1 (f p.2)) (w1.drew.setCells bs (p.1*65) (f p.2))):=⟨(qaf (a:=⟨b,1,none⟩) (ZE bs _ _ w1.drew b hbb)).trans hb1,(qaf (a:=⟨g,0,none⟩) (ZE bs _ _ w1.drew g hgs)).trans hc0,ZL hr0 (ZE bs _ _ w1.drew g hgs)⟩
    have hfin:Mem f (w1.drew.setCells bs (p.1*65) (f p.2)) b bn bs cn cs (.slice bu k.un.length cu) k.now (YT k there (j+1)) k.un k.dead k.cut k.left k.done:=by
     rw[Gi k there j p Hp.out nR.out]
     exact Mem.ui (w:=w1.drew) (Gg.out.keep fun _ _=>rfl) Hf.out (by rw[<-jm.out];exact bD.out) p.2
    have R9:=χ hfin
    have bC:Hid (Kept (foot b bn bs (.slice bu k.un.length cu)) w (w1.drew.setCells bs (p.1*65) (f p.2))):=rE.out.drew.trans (Kept.Zb (S:=foot b bn bs (.slice bu k.un.length cu)) (V6 w1.drew bs _ _) (by rintro _ h;injection h with h;exact .inr (.inr (.inl h.symm)))) fun i hi=>.inl hi
    have Jr:=χ Gf
    have h1':=χ h1
    have Od:(Tryz.prog.info? 178).map (·.size)=some (f p.2).length:=by rw[Uj,Gf]
    clear Gf h1 hfin hgs hbb
    rw[<-hg]
    clear hg
    refine qan (S:=fun w'=>w'.cell? ⟨b,1,none⟩=some (.slice bs nn cs)/\w'.cell? ⟨g,0,none⟩=some (.int .i64 p.1)/\w'.rangeAt g 1 (f p.2)) (by kernel_rfl) ⟨hb1,hc0,hr0⟩ (fun hHeld=>?_)
    refine tk 0 ?_ (y:=.inl ⟨by rfl,?hya0⟩) (s:=by assumption) (h:=?V4)
    case hya0=>(rintro w ⟨hA1,hA2,hA3⟩;go_simp<;>with_reducible rfl)
    try simp only[qad,qaa,qab,qac]
    refine tk 1 ?_ (y:=.inl ⟨by rfl,?hya1⟩) (s:=by assumption) (h:=?Wn)
    case hya1=>(rintro w ⟨hA1,hA2,hA3⟩;go_simp<;>with_reducible rfl)
    try simp only[qad,qaa,qab,qac]
    refine tk 2 ?_ (y:=.inl ⟨by rfl,?hya2⟩) (s:=by assumption) (h:=?Wm)
    case hya2=>(rintro w ⟨hA1,hA2,hA3⟩;go_simp<;>with_reducible rfl)
    try simp only[qad,qaa,qab,qac]
    refine tk 3 ?_ (y:=.inl ⟨by rfl,?hya3⟩) (s:=by assumption) (h:=?Tp)
    case hya3=>(rintro w ⟨hA1,hA2,hA3⟩;go_simp<;>with_reducible rfl)
    try simp only[qad,qaa,qab,qac]
    refine tk 4 ?_ (y:=.inl ⟨by rfl,?hya4⟩) (s:=by assumption) (h:=?TJ)
    case hya4=>(rintro w ⟨hA1,hA2,hA3⟩;go_simp<;>with_reducible rfl)
    try simp only[qad,qaa,qab,qac]
    refine tk 5 ?_ (y:=.inl ⟨by rfl,?hya5⟩) (s:=by assumption) (h:=?Vw)
    case hya5=>(rintro w ⟨hA1,hA2,hA3⟩;go_simp<;>with_reducible rfl)
    try simp only[qad,qaa,qab,qac]
    refine tk 6 ?_ (y:=.inl ⟨by rfl,?hya6⟩) (s:=by assumption) (h:=?Vg)
    case hya6=>(rintro w ⟨hA1,hA2,hA3⟩;go_simp<;>with_reducible rfl)
    try simp only[qad,qaa,qab,qac]
    refine tk 7 _ (y:=(qap (by rfl) 178 _ rfl g 1 rfl (f p.2) _ (fun w' h=>h.2.2) Tryz.underlying178 rfl Od)) (s:=by assumption) (h:=?_)
    try simp only[qad,qaa,qab,qac]
    refine tk 8 ?_ (y:=.inl ⟨by rfl,?hya8⟩) (s:=by assumption) (h:=?RJ)
    case hya8=>(rintro w ⟨hA1,hA2,hA3⟩;go_simp<;>with_reducible rfl)
    try simp only[qad,qaa,qab,qac]
    refine rd 9 (h:=fun K hK=>?_)
    rw[if_pos (by rfl)]
    refine wp_store_mid 178 _ _ rfl bs (p.1*65) (f p.2).toArray rfl rfl (by simpa[Jr.out]using hth) (by rw[Uj];simp[Jr.out]) (qai h1'.out) ?_
    simp only[qad]
    refine hK.out _ _ Key.out (fun Z4=>?_)
    clear hK K hHeld
    refine qav (by kernel_rfl) ?_ _
    clear Z4 hb1 hc0 hr0 hth hp0 hpn Od
    generalize w1.drew.setCells bs (p.1*65) (f p.2)=w2 at*
    go_wp2
    go_roundw
    case rel=>exact⟨j+1,by omega,by go_num,bC.out,R9.out⟩
    case measure=>simp[intOf];omega
  ·obtain rfl:j=m:=by omega
   clear hj hlt h2
   have h2:wr.cell? ⟨b,2,none⟩=some (.slice bu j cu):=by
    have:=HM.out.lJ
    rw[<-jr.out]at this
    exact this
   go_wp2
   go_loopw [39] (fun i wq=>∃(i':Nat)(N:List α),i'<=j/\i=.int .i64 i'/\Kept (foot b bn bs (.slice bu k.un.length cu)) w wq/\Mem f wq b bn bs cn cs (.slice bu k.un.length cu) N (YT k there j) k.un k.dead k.cut k.left k.done/\Lr k (YT k there j) N i') (fun i _=>j-(intOf i).toNat)
   case atStart=>exact⟨0,k.now,qaJ _,rfl,HK.out,HM.out,Lr.start _ _⟩
   case round=>
    clear HM HK h2
    obtain⟨i,N,hi,rfl,hK,hM,hB⟩:=hrel
    have HK:=χ hK
    have HM:=χ hM
    have HB:=χ hB
    clear hK hM hB
    by_cases hlt:i<j
    ·have hlt':i<k.un.length:=by rw[<-jr.out];exact hlt
     obtain⟨p,hp⟩:∃p,k.un[i]? =some p:=⟨_,qau hlt'⟩
     have hr:wr.rangeAt bu (i*66) (UN f p):=by
      exact HM.out.Dt.range (by rw[qaF,hp];rfl)
     have hps:p.1<(YT k there j).length:=by
      rw[Tu]
      exact Hm.out.idx p (qaO.2 ⟨i,hp⟩)
     obtain⟨c,hcc⟩:∃c,(YT k there j)[p.1]? =some c:=⟨_,qau hps⟩
     have Hp:=χ hp
     have jM:=χ hcc
     clear hp hlt' hcc
     have hEl:=Lp Hf.out p
     have bE:=χ (Lm Hf.out p)
     have hst:∀(c0:Array qaj),c0.size=66->(storeCells ⟨wr.heap.size,0,none⟩ (UN f p) 0).run Tryz.prog (wr.alloc (.cells c0 231))=.ok () (wr.alloc (.cells (UN f p).toArray 231)):=fun c0 h0=>by
      simpa using qaG (P:=Tryz.prog) wr 231 c0 (UN f p).toArray (by rw[OX];simp[hEl]) (by simp[hEl,h0]) (qai bE.out)
     have jq:=Qt
     have hzl:=S9
     have jo:Mem f (wr.alloc (.cells (UN f p).toArray 231)) b bn bs cn cs (.slice bu k.un.length cu) N (YT k there j) k.un k.dead k.cut k.left k.done:=HM.out.alloc _
     have hKa:Kept (foot b bn bs (.slice bu k.un.length cu)) w (wr.alloc (.cells (UN f p).toArray 231)):=HK.out.trans (Kept.of_below (S:=foot b bn bs (.slice bu k.un.length cu)) ((qaA _ wr).alloc (qar _) _)) fun i hi=>.inl hi
     have Gg:=χ jo
     have rE:=χ hKa
     clear jo hKa
     go_wp2_with (refine qaL rfl 231 (.tmp 41) rfl bu (i*66) rfl (UN f p) _ hr Tryz.underlying231 rfl (by rw[OX,hEl]) ?_)
     have hc0:=Jt (f:=f) wr p
     obtain⟨nn,hnn⟩:∃nn,nn=(YT k there j).length:=⟨_,rfl⟩
     have hb0:=Gg.out.BQ
     have hb1:=Gg.out.rD
     have hth:(wr.alloc (.cells (UN f p).toArray 231)).there bn (p.1*65) 65:=Gg.out.Uw.there (by have:=Gg.out.len;simp;omega)
     have hr1:(wr.alloc (.cells (UN f p).toArray 231)).rangeAt bs (p.1*65) (f c):=(Gg.out.VU.elem p.1 (f c) (by rw[qaF,jM.out];rfl)).2.2
     have hgs:wr.heap.size≠bn:=by have:=HM.out.Uw.lt;omega
     have hbb:=Gg.out.BR
     have hsn:=Gg.out.ne
     have bB:=Gg.out.len
     rw[bB,<-hnn]at hb0
     rw[<-hnn]at hb1 hps
     have hp0:(0:Int)<=(p.1:Int):=by omega
     have hpn:(p.1:Int)<(nn:Int):=by omega
     have jm:=χ hnn
     have bD:=χ hps
     have HNl:=χ bB
     clear hnn hps hst hr bB
     obtain⟨g,hg⟩:∃g,g=wr.heap.size:=⟨_,rfl⟩
     rw[<-hg]at hc0 hgs
     generalize wr.alloc (.cells (UN f p).toArray 231)=w1 at*
     have Gf:=Hf.out.len c
     have h1:=Hf.out.one c
     have Key:Hid ((fun w':qag=>w'.cell? ⟨b,0,none⟩=some (.slice bn nn cn)/\w'.cell? ⟨b,1,none⟩=some (.slice bs nn cs)/\w'.cell? ⟨g,0,none⟩=some (.int .i64 p.1)/\w'.rangeAt bs (p.1*65) (f c)) (w1.drew.setCells bn (p.1*65) (f c))):=⟨(qaf (a:=⟨b,0,none⟩) (ZE bn _ _ w1.drew b hbb)).trans hb0,(qaf (a:=⟨b,1,none⟩) (ZE bn _ _ w1.drew b hbb)).trans hb1,(qaf (a:=⟨g,0,none⟩) (ZE bn _ _ w1.drew g hgs)).trans hc0,ZL hr1 (ZE bn _ _ w1.drew bs hsn.symm)⟩
     have hfin:Mem f (w1.drew.setCells bn (p.1*65) (f c)) b bn bs cn cs (.slice bu k.un.length cu) (N.set p.1 c) (YT k there j) k.un k.dead k.cut k.left k.done:=
      Mem.put (w:=w1.drew) (Gg.out.keep fun _ _=>rfl) Hf.out (by rw[HNl.out,<-jm.out];exact bD.out) c
     have R9:=χ hfin
     have bC:Hid (Kept (foot b bn bs (.slice bu k.un.length cu)) w (w1.drew.setCells bn (p.1*65) (f c))):=rE.out.drew.trans (Kept.Zb (S:=foot b bn bs (.slice bu k.un.length cu)) (V6 w1.drew bn _ _) (by rintro _ h;injection h with h;exact .inr (.inl h.symm))) fun i hi=>.inl hi
     have Jr:=χ Gf
     have h1':=χ h1
     have Od:(Tryz.prog.info? 178).map (·.size)=some (f c).length:=by rw[Uj,Gf]
     clear Gf h1 hfin hgs hbb hsn
     rw[<-hg]
     clear hg
     refine qan (S:=fun w'=>w'.cell? ⟨b,0,none⟩=some (.slice bn nn cn)/\w'.cell? ⟨b,1,none⟩=some (.slice bs nn cs)/\w'.cell? ⟨g,0,none⟩=some (.int .i64 p.1)/\w'.rangeAt bs (p.1*65) (f c)) (by kernel_rfl) ⟨hb0,hb1,hc0,hr1⟩ (fun hHeld=>?_)
     refine tk 0 ?_ (y:=.inl ⟨by rfl,?hyb0⟩) (s:=by assumption) (h:=?AU)
     case hyb0=>(rintro w ⟨hA1,hA2,hA3,Rq⟩;go_simp<;>with_reducible rfl)
     try simp only[qad,qaa,qab,qac]
     refine tk 1 ?_ (y:=.inl ⟨by rfl,?hyb1⟩) (s:=by assumption) (h:=?AR)
     case hyb1=>(rintro w ⟨hA1,hA2,hA3,Rq⟩;go_simp<;>with_reducible rfl)
     try simp only[qad,qaa,qab,qac]
     refine tk 2 ?_ (y:=.inl ⟨by rfl,?hyb2⟩) (s:=by assumption) (h:=?AQ)
     case hyb2=>(rintro w ⟨hA1,hA2,hA3,Rq⟩;go_simp<;>with_reducible rfl)
     try simp only[qad,qaa,qab,qac]
     refine tk 3 ?_ (y:=.inl ⟨by rfl,?hyb3⟩) (s:=by assumption) (h:=?AP)
     case hyb3=>(rintro w ⟨hA1,hA2,hA3,Rq⟩;go_simp<;>with_reducible rfl)
     try simp only[qad,qaa,qab,qac]
     refine tk 4 ?_ (y:=.inl ⟨by rfl,?hyb4⟩) (s:=by assumption) (h:=?AO)
     case hyb4=>(rintro w ⟨hA1,hA2,hA3,Rq⟩;go_simp<;>with_reducible rfl)
     try simp only[qad,qaa,qab,qac]
     refine tk 5 ?_ (y:=.inl ⟨by rfl,?hyb5⟩) (s:=by assumption) (h:=?vM)
     case hyb5=>(rintro w ⟨hA1,hA2,hA3,Rq⟩;go_simp<;>with_reducible rfl)
     try simp only[qad,qaa,qab,qac]
     refine tk 6 ?_ (y:=.inl ⟨by rfl,?hyb6⟩) (s:=by assumption) (h:=?pY)
     case hyb6=>(rintro w ⟨hA1,hA2,hA3,Rq⟩;go_simp<;>with_reducible rfl)
     try simp only[qad,qaa,qab,qac]
     refine tk 7 ?_ (y:=.inl ⟨by rfl,?hyb7⟩) (s:=by assumption) (h:=?vS)
     case hyb7=>(rintro w ⟨hA1,hA2,hA3,Rq⟩;go_simp<;>with_reducible rfl)
     try simp only[qad,qaa,qab,qac]
     refine tk 8 ?_ (y:=.inl ⟨by rfl,?hyb8⟩) (s:=by assumption) (h:=?qm)
     case hyb8=>(rintro w ⟨hA1,hA2,hA3,Rq⟩;go_simp<;>with_reducible rfl)
     try simp only[qad,qaa,qab,qac]
     refine tk 9 ?_ (y:=.inl ⟨by rfl,?hyb9⟩) (s:=by assumption) (h:=?vR)
     case hyb9=>(rintro w ⟨hA1,hA2,hA3,Rq⟩;go_simp<;>with_reducible rfl)
     try simp only[qad,qaa,qab,qac]
     refine tk 10 ?_ (y:=.inl ⟨by rfl,?hyb10⟩) (s:=by assumption) (h:=?FE)
     case hyb10=>(rintro w ⟨hA1,hA2,hA3,Rq⟩;go_simp<;>with_reducible rfl)
     try simp only[qad,qaa,qab,qac]
     refine tk 11 ?_ (y:=.inl ⟨by rfl,?hyb11⟩) (s:=by assumption) (h:=?FD)
     case hyb11=>(rintro w ⟨hA1,hA2,hA3,Rq⟩;go_simp<;>with_reducible rfl)
     try simp only[qad,qaa,qab,qac]
     refine tk 12 ?_ (y:=.inl ⟨by rfl,?hyb12⟩) (s:=by assumption) (h:=?si)
     case hyb12=>(rintro w ⟨hA1,hA2,hA3,Rq⟩;go_simp<;>with_reducible rfl)
     try simp only[qad,qaa,qab,qac]
     refine tk 13 _ (y:=(qap (by rfl) 178 _ rfl bs (p.1*65) rfl (f c) _ (fun w' h=>h.2.2.2) Tryz.underlying178 rfl Od)) (s:=by assumption) (h:=?_)
     try simp only[qad,qaa,qab,qac]
     refine tk 14 ?_ (y:=.inl ⟨by rfl,?hyb14⟩) (s:=by assumption) (h:=?sw)
     case hyb14=>(rintro w ⟨hA1,hA2,hA3,Rq⟩;go_simp<;>with_reducible rfl)
     try simp only[qad,qaa,qab,qac]
     refine rd 15 (h:=fun K hK=>?_)
     rw[if_pos (by rfl)]
     refine wp_store_mid 178 _ _ rfl bn (p.1*65) (f c).toArray rfl rfl (by simpa[Jr.out]using hth) (by rw[Uj];simp[Jr.out]) (qai h1'.out) ?_
     simp only[qad]
     refine hK.out _ _ Key.out (fun Z4=>?_)
     clear hK K hHeld
     refine qav (by kernel_rfl) ?_ _
     clear Z4 hb0 hb1 hc0 hr1 hth hp0 hpn Od
     generalize w1.drew.setCells bn (p.1*65) (f c)=w2 at*
     go_wp2
     go_roundw
     case rel=>exact⟨i+1,N.set p.1 c,by omega,by go_num,bC.out,R9.out,HB.out.step Hp.out jM.out HNl.out⟩
     case measure=>simp[intOf];omega
    ·obtain rfl:i=j:=by omega
     have hb2:=HM.out.lJ
     have hf2:=HM.out.blk.frozen 2
     have hN:N=YT k there i:=by
      have h1:=HB.out
      have h2:=jr.out
      rw[h2]at h1⊢
      exact h1.all
     have hfin:R7 f (wr.setCell ⟨b,2,none⟩ (.slice none 0 0)) b bn bs cn cs (.slice none 0 0) (k.settle there):=by
      have h1:=HM.out.drop
      rw[hN,jr.out,Gh]at h1
      exact h1
     have R9:=χ hfin
     clear hfin hN
     go_wp2
     go_end0
     exact⟨rfl,HK.out.trans (Kept.Zb (row:=some b) (S:=foot b bn bs (.slice bu k.un.length cu)) (ZT (qaH wr _) 2 _) (by rintro _ h;injection h with h;exact .inl h.symm)) (fun i hi=>.inl hi),R9.out⟩
theorem Jq(w:qag)(b bn bs cn cs:Nat)(k:Dk α)(there:Nat)(hm:R7 f w b bn bs cn cs (.slice none 0 0) k)(hu:k.un=[]):
  qaN Tryz.prog 94 #[.pointer b,.int .u64 there] w fun e w'=>e=.returned (.tuple #[])/\Kept (foot b bn bs (.slice none 0 0)) w w'/\R7 f w' b bn bs cn cs (.slice none 0 0) (k.settle there):=by
 have h2:=hm.lJ
 have f2:=hm.blk.frozen 2
 have hfin:R7 f (w.setCell ⟨b,2,none⟩ (.slice none 0 0)) b bn bs cn cs (.slice none 0 0) (k.settle there):=by
  have h1:=hm.drop
  have e1:k.now=k.safe:=by simp[Dk.now,hu,puts]
  have e2:(k.settle there).safe=k.safe:=by simp[Dk.settle,hu,kept,puts]
  have e3:(k.settle there).now=k.safe:=by simp[Dk.now,Dk.settle,hu,kept,puts]
  unfold R7
  rw[e2,e3,<-e1]
  rw[<-e1]at h1
  exact h1
 have R9:=χ hfin
 clear hfin hm hu
 go_enter Tryz.func94,Tryz.ntmps94
 go_wp2
 go_loopw [13] (fun i wr=>i=.int .i64 0/\wr=w) (fun _ _=>0)
 case atStart=>exact⟨rfl,rfl⟩
 case round=>
  obtain⟨rfl,rfl⟩:=hrel
  go_wp2
  go_loopw [39] (fun i wq=>i=.int .i64 0/\wq=wr) (fun _ _=>0)
  case atStart=>exact⟨rfl,rfl⟩
  case round=>
   obtain⟨rfl,rfl⟩:=hrel
   go_wp2
   go_end0
   exact⟨rfl,Kept.Zb (row:=some b) (ZT (qaH _ _) 2 _) (by rintro _ h;injection h with h;exact .inl h.symm),R9.out⟩
theorem Gd(hf:Enc f)(w:qag)(b bn bs cn cs:Nat)(vu:qaj)(k:Dk α)(there:Nat)(ht:there<18446744073709551616)(hun:k.un.length<=1073741824)(hm:R7 f w b bn bs cn cs vu k):
  qaN Tryz.prog 94 #[.pointer b,.int .u64 there] w fun e w'=>e=.returned (.tuple #[])/\Kept (foot b bn bs vu) w w'/\R7 f w' b bn bs cn cs (.slice none 0 0) (k.settle there):=by
 rcases hm.Dt with⟨rfl,h⟩|⟨bu,cu,rfl,h⟩
 ·exact Jq w b bn bs cn cs k there hm (by simpa using h)
 ·rw[List.length_map]at hm⊢
  exact Js hf w b bn bs cn cs bu cu k there ht hun hm
theorem xO(i:Nat)(l:List (Nat × α)):kept 18446744073709551615 i l=l:=by
 induction l generalizing i with
 |nil=>rfl
 |cons p l ih=>
  have:(18446744073709551615:Nat).testBit (i%64)=true:=by
   rw[show(18446744073709551615:Nat)=2^64-1 from rfl,Nat.testBit_two_pow_sub_one]
   simp
   omega
  simp only[kept,this,if_true,ih]
theorem xN(h:foot b bn bs (.slice none 0 0) i):foot b bn bs vu i:=by
 rcases h with h|h|h|h
 ·exact .inl h
 ·exact .inr (.inl h)
 ·exact .inr (.inr (.inl h))
 ·cases h
theorem ND(hf:Enc f)(w:qag)(S:Nat->Prop)(b:Nat)(k:Dk α)(h:Zo f w S b k)(hun:k.un.length<=1073741824):
  qaN Tryz.prog 115 #[.pointer b] w fun e w'=>e=.returned (.int .i64 (if k.off then 6 else 0))/\Turned f S w w' b k.flush:=by
 obtain⟨bn,bs,cn,cs,vu,rfl,hm⟩:=h
 have Hm:=χ hm
 clear hm
 cases hoff:k.off
 ·have R8:=χ hoff
  have hr:Hid (k.flush=k.op.settle 18446744073709551615):=by
   unfold Hid Dk.flush Dk.settle
   rw[hoff,if_neg (by decide),xO]
   simp[Dk.now,Dk.UZ,Dk.QV]
  rw[hr.out]
  clear hoff hr
  go_enter Tryz.func115,Tryz.ntmps115
  go_wp2_with (first
   |(go_at_call 190;refine(rC _ _ _ _ _ _ _ _ Hm.out R8.out).mono ?_;rintro e w1 ⟨rfl,hg,hop⟩;replace hop:=χ hop;replace hg:=χ hg)
   |(go_at_call 94;refine(Gd hf _ _ _ _ _ _ _ _ 18446744073709551615 (by decide) (by rw[Dk.QV];exact hun) hop.out).mono ?_;rintro e w2 ⟨rfl,hK,hM⟩;replace hK:=χ hK;replace hM:=χ hM))
  go_ret
  exact⟨rfl,(Kept.Zb (S:=foot b bn bs vu) hg.out (by rintro _ h;injection h with h;exact .inl h.symm)).trans hK.out (fun i hi=>.inl hi),_,⟨bn,bs,cn,cs,_,rfl,hM.out⟩,fun i hi=>.inl (xN hi)⟩
 ·have R8:=χ hoff
  have hr:Hid (k.flush=k.op):=by
   unfold Hid Dk.flush
   rw[hoff,if_pos rfl]
  rw[hr.out]
  clear hoff hr
  go_enter Tryz.func115,Tryz.ntmps115
  go_wp2_with (go_at_call 190;refine(xM _ _ _ _ _ _ _ _ Hm.out R8.out).mono ?_;rintro e w1 ⟨rfl,hg,hop⟩;replace hop:=χ hop;replace hg:=χ hg)
  go_ret
  exact⟨rfl,Kept.Zb (S:=foot b bn bs vu) hg.out (by rintro _ h;injection h with h;exact .inl h.symm),_,⟨bn,bs,cn,cs,_,rfl,hop.out⟩,fun i hi=>.inl hi⟩
end
end
end Go.Proofs.YtmehhgfbnfbnaaaGreat

namespace Go.Proofs.YtmehhgfbnfbnaaaGreat
open Go.RowKit
attribute [local go_sem↓] Go.wp_at_zero Go.wp_at_succ
end Go.Proofs.YtmehhgfbnfbnaaaGreat

namespace Go.Proofs.YtmehhgfbnfbnaaaGreat
open Go.RowKit
attribute [local go_sem↓] Go.wp_at_zero Go.wp_at_succ
end Go.Proofs.YtmehhgfbnfbnaaaGreat
