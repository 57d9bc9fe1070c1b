import Derived.Test.YtmehhgfbnfbnaaaGreatQDisk
import Derived.Test.YtmehhgfbnfbnaaaGreatQTk
import Derived.Test.YtmehhgfbnfbnaaaGreatQF
set_option maxRecDepth 100000
set_option maxHeartbeats 25600000
open List renaming setIfInBounds_toArray->qaa,set_cons_zero->qab,set_cons_succ->qac,getElem?_toArray->qak,getElem?_eq_none->qal,getElem?_cons_succ->qao,getElem?_eq_some_iff->qat,getElem?_eq_getElem->qau,mem_cons->qaB,take_add_one->qaD,mem_map->qaE,getElem?_map->qaF,length_cons->qaI,getElem?_cons_zero->qaM,mem_iff_getElem?->qaO
open Go.Act renaming put->qad
open Go.World renaming block_lt_of_cell?->qae,cell?_of_block->qaf,cell?_alloc_lt->qas
open Go renaming World->qag,all_oneCell_toArray->qai,Value->qaj,wp_region_held_drew->qan,yieldsIf_load_mid->qap,heap_alloc_new->qaq,wpAnyH_done->qav,cell_of_row->qaw,run_storeCells_new->qaG,wpList_load_mid->qaL,Calls->qaN
open Go.RowKit.Below renaming heap_setCell->qah,heap_alloc->qam,refl->qaA
open Nat renaming le_refl->qar,zero_add->qax,lt_or_ge->qay,zero_le->qaJ
open Array renaming getElem?_eq_none->qaz,ext_getElem?->qaC,getElem?_setIfInBounds->qaK
open Go.World.grownBy renaming refl->qaH
open Go.Instr renaming arrayAt->qaP
namespace Go.Proofs.YtmehhgfbnfbnaaaGreat
theorem zc0{P:Prop}(h:P:=by
 try simp only[qad,qaa,qab,qac]
 refine rd 13 (h:=fun K hK=>?_)
 go_simp
 refine hK.out _ _ (ou.out _) (fun hHeld=>?_)
 clear hK K
 refine qav (by kernel_rfl) ?_ _
 go_wp2
 go_ret
 exact⟨rfl,QI.out⟩):P:=h
theorem zc1{P:Prop}(h:P:=by
 (rintro w ⟨hA1,hA2,hA3,PW⟩;go_simp<;>with_reducible rfl)):P:=h
theorem zc2{P:Prop}(h:P:=by
 (rintro w ⟨hA1,hA2,hA3⟩;go_simp<;>with_reducible rfl)):P:=h
theorem zc3{P:Prop}(h:P:=by
 (rintro w ⟨hA1,hA2⟩;go_simp<;>with_reducible rfl)):P:=h
end Go.Proofs.YtmehhgfbnfbnaaaGreat
namespace Go.Proofs.YtmehhgfbnfbnaaaGreat
open Go.RowKit
attribute [local go_sem↓] Go.wp_at_zero Go.wp_at_succ
section
variable {α:Type}{f:α->List qaj}
section
variable {w:qag}{vu:qaj}{b bn bs cn cs s g cap:Nat}{now safe:List α}{un:List (Nat × α)}{dead cut:Bool}{left done:Int}
theorem Mem.alloc (h:Mem f w b bn bs cn cs vu now safe un dead cut left done)(o:Obj):Mem f (w.alloc o) b bn bs cn cs vu now safe un dead cut left done:=
 h.keep fun i hi=>qam w o i (h.lt hi)
abbrev QF(f:α->List qaj)(w:qag)(b bn bs cn cs:Nat)(vu:qaj)(k:Dk α):Prop:=Mem f w b bn bs cn cs vu k.now k.safe k.un k.dead k.cut k.left k.done
theorem qY(w:qag)(b bn bs cn cs:Nat)(vu:qaj)(k:Dk α)(hm:QF f w b bn bs cn cs vu k)(ho:k.off=true):
  qaN Tryz.prog 190 #[.pointer b] w fun e w'=>e=.returned (.bool false)/\w.grownBy w' (some b)/\QF f w' b bn bs cn cs vu k.op:=by
 refine(qX _ _ _ _ _ _ _ _ _ _ _ _ _ _ hm).mono ?_
 rintro e w' ⟨rfl,hg,h⟩
 rw[<-Dk.off,ho]at h⊢
 refine⟨rfl,hg,?_⟩
 have e1:k.op={k with dead:=true}:=by unfold Dk.op;rw[if_pos ho]
 rw[e1]
 exact h
theorem jk(w:qag)(b bn bs cn cs:Nat)(vu:qaj)(k:Dk α)(hm:QF f w b bn bs cn cs vu k)(ho:k.off=false):
  qaN Tryz.prog 190 #[.pointer b] w fun e w'=>e=.returned (.bool true)/\w.grownBy w' (some b)/\QF f w' b bn bs cn cs vu k.op:=by
 refine(qX _ _ _ _ _ _ _ _ _ _ _ _ _ _ hm).mono ?_
 rintro e w' ⟨rfl,hg,h⟩
 rw[<-Dk.off,ho]at h⊢
 refine⟨rfl,hg,?_⟩
 have e1:k.op={k with left:=if k.cut then wrap64 (k.left-1)else k.left,done:=wrap64 (k.done+1)}:=by unfold Dk.op;rw[if_neg (by rw[ho];decide)]
 rw[e1]
 exact h
theorem yc(w:qag)(S:Nat->Prop)(b:Nat)(k:Dk α)(h:Zv f w S b k)(s:Nat)(hs:s<k.safe.length)(A:Option Addr)(cp:Nat)(t:qaj)(hoff:k.off=true):
  qaN Tryz.prog 114 #[.pointer b,.agg #[s,.slice A 64 cp,t]] w fun e w'=>e=.returned (.int .i64 6)/\Turned f S w w' b k.op:=by
 obtain⟨bn,bs,cn,cs,vu,rfl,hm⟩:=h
 have hin:(decide (0<=(s:Int))&&decide ((s:Int)<(k.safe.length:Int)))=true:=by simp;omega
 have H:=χ hm
 have lT:=χ hin
 have QH:=χ hoff
 clear hm hin hoff hs
 go_enter Tryz.func114,Tryz.ntmps114
 go_wp2_with (first
  |(go_at_call 189;refine(Sz _ _ _ _ _ _ _ _ _ _ _ _ _ _ (H.out.alloc _) _).mono ?_;rintro e w' ⟨rfl,rfl⟩;rw[lT.out])
  |(go_at_call 190;refine(qY _ _ _ _ _ _ _ _ (H.out.alloc _) QH.out).mono ?_;rintro e w' ⟨rfl,hg,hop⟩;replace hop:=χ hop;replace hg:=χ hg))
 go_ret
 have hb0:Kept (foot b bn bs vu) w (w.alloc (.cells #[s,.slice A 64 cp,t] 140)):=Kept.of_below ((qaA _ w).alloc (qar _) _)
 exact⟨rfl,hb0.trans (Kept.Y4 (S:=foot b bn bs vu) hg.out (by rintro _ h;injection h with h;exact .inl h.symm)) (fun i hi=>.inl hi),_,⟨bn,bs,cn,cs,vu,rfl,hop.out⟩,fun i hi=>.inl hi⟩
theorem KY(w:qag)(S:Nat->Prop)(b:Nat)(k:Dk α)(h:Zv f w S b k)(s:Int)(hs:k.has s=false)(v u:qaj):
  qaN Tryz.prog 114 #[.pointer b,.agg #[s,v,u]] w fun e w'=>e=.returned (.int .i64 1)/\Below w.heap.size w w':=by
 obtain⟨bn,bs,cn,cs,vu,rfl,hm⟩:=h
 have H:=χ hm
 have lT:=χ hs
 clear hm hs
 unfold Dk.has at lT
 go_enter Tryz.func114,Tryz.ntmps114
 go_wp2_with (go_at_call 189;refine(Sz _ _ _ _ _ _ _ _ _ _ _ _ _ _ (H.out.alloc _) _).mono ?_;rintro e w' ⟨rfl,rfl⟩;rw[lT.out])
 go_ret
 exact⟨rfl,(qaA _ w).alloc (qar _) _⟩
theorem M8(vs:List qaj):∀(n o:Nat)(arr:Array qaj)(k:Nat),((vs.zipIdx n).foldl (fun cs x=>cs.setIfInBounds (o+x.2) x.1) arr)[k]? =if o+n<=k/\k<o+n+vs.length/\k<arr.size then vs[k-(o+n)]? else arr[k]? :=by
 induction vs with
 |nil=>intro n o arr k;simp;omega
 |cons v r ih=>
  intro n o arr k
  rw[List.zipIdx_cons,List.foldl_cons,ih (n+1) o _ k]
  simp only[Array.size_setIfInBounds,qaI,qaK]
  by_cases h1:k=o+n
  ·subst h1
   rw[if_neg (by omega)]
   by_cases h2:o+n<arr.size
   ·simp[h2]
   ·simp[h2]
  ·by_cases h2:o+n<=k/\k<o+n+(r.length+1)/\k<arr.size
   ·rw[if_pos (by omega),if_pos h2]
    have e:k-(o+n)=(k-(o+(n+1)))+1:=by omega
    rw[e,qao]
   ·rw[if_neg (by omega),if_neg h2,if_neg (by omega)]
theorem xV(vs:List qaj):∀(n o:Nat)(arr:Array qaj),((vs.zipIdx n).foldl (fun cs x=>cs.setIfInBounds (o+x.2) x.1) arr).size=arr.size:=by
 induction vs with
 |nil=>intro n o arr;rfl
 |cons v r ih=>intro n o arr;rw[List.zipIdx_cons,List.foldl_cons,ih];simp
theorem Dm:Tryz.t231.zero=some (.agg (.int .i64 0::z65).toArray):=by kernel_rfl
theorem lM(W:qag):(zeroValue 178).run Tryz.prog W=.ok (.agg z65.toArray) W:=by
 have e0:Tryz.prog.info? 178=some Tryz.t178:=by kernel_rfl
 simp[zeroValue,typeInfo,e0,qW]
theorem Ox(W:qag):(zeroValue 231).run Tryz.prog W=.ok (.agg (.int .i64 0::z65).toArray) W:=by
 have e0:Tryz.prog.info? 231=some Tryz.t231:=by kernel_rfl
 simp[zeroValue,typeInfo,e0,Dm]
theorem Ry:z65.length=65:=by kernel_rfl
theorem eu(bs':List qaj)(hl:bs'.length=64)(t:qaj):(bs'.zipIdx.foldl (fun cs x=>cs.setIfInBounds x.2 x.1) z65.toArray).size=65/\(bs'.zipIdx.foldl (fun cs x=>cs.setIfInBounds x.2 x.1) z65.toArray).setIfInBounds 64 t=(bs'++[t]).toArray:=by
 have f1:=xV bs' 0 0 z65.toArray
 have f2:=M8 bs' 0 0 z65.toArray
 have hz:z65.toArray.size=65:=by kernel_rfl
 simp only[qax]at f1 f2
 refine⟨f1.trans hz,?_⟩
 apply qaC
 intro k
 rw[qaK,f1,hz,f2,hz]
 simp only[hl,qak]
 by_cases h64:64=k
 ·subst h64
  simp[hl]
 ·rw[if_neg h64]
  rcases qay k 64 with hk|hk
  ·rw[if_pos (by omega),List.getElem?_append_left (by omega)]
   simp
  ·rw[if_neg (by omega),qal (by rw[Ry];omega)]
   exact(qal (by simp[hl];omega)).symm
theorem ed(c:List qaj)(hl:c.length=65)(s:Int):(c.zipIdx.foldl (fun cs x=>cs.setIfInBounds (1+x.2) x.1) (.int .i64 s::z65).toArray)=(.int .i64 s::c).toArray:=by
 have f2:=M8 c 0 1 (.int .i64 s::z65).toArray
 apply qaC
 intro k
 rw[f2]
 simp only[List.size_toArray,qaI,Ry,hl,qak]
 cases k with
 |zero=>simp
 |succ k=>
  simp only[qao]
  rcases qay k 65 with hk|hk
  ·rw[if_pos (by omega)]
   congr 1
  ·rw[if_neg (by omega),qal (by rw[Ry];omega),qal (by omega)]
theorem Mem.put (h:Mem f w b bn bs cn cs vu now safe un dead cut left done)(hf:Enc f)(hs:s<now.length)(c:α):Mem f (w.setCells bn (s*65) (f c)) b bn bs cn cs vu (now.set s c) safe un dead cut left done:=by
 have ho:=fun k (hk:k≠bn)=>ZJ bn (f c) (s*65) w k hk
 refine⟨by rw[List.length_set];exact(ho b h.xX).trans h.blk,?_,h.U8.keep (ho bs h.ne.symm),h.zH.keep fun i hi=>ho i (h.bu hi).2.1,h.ne,by simpa using h.len,h.idx⟩
 rw[List.map_set]
 exact h.Tw.set (by simpa using hs) (hf.len c) (hf.one c)
theorem Md.owns {L:List (List qaj)}(h:Md w vu L):w.ownsRow 0 231 66 vu L.length L.flatten:=by
 rcases h with⟨rfl,rfl⟩|⟨bu,cu,rfl,h⟩
 ·exact qag.ownsRow_nil w 0 231 66
 ·exact h.owns
theorem Jn(hf:Enc f)(p:Nat × α):(TR f p).length=66:=by simp[TR,hf.len]
theorem Jm(hf:Enc f)(p:Nat × α):∀u∈TR f p,u.oneCell'=true:=by
 intro u hu
 simp only[TR,qaB]at hu
 rcases hu with rfl|hu
 ·rfl
 ·exact hf.one _ u hu
theorem Mem.grow {w':qag}(h:Mem f w b bn bs cn cs vu now safe un dead cut left done)(hf:Enc f){p:Nat × α}(hp:p.1<safe.length)(hg:w.grownBy w' vu.ownBlock)(hat:vu.ownBlock=some g\/g=w.heap.size)(ho:w'.ownsRow 0 231 66 (.slice g (un.length+1) cap) (un.length+1) ((un.map (TR f)).flatten++TR f p)):
  Mem f (w'.setCell ⟨b,2,none⟩ (.slice g (un.length+1) cap)) b bn bs cn cs (.slice g (un.length+1) cap) now safe (un++[p]) dead cut left done/\g≠b:=by
 have hgb:g≠b:=by
  rcases hat with hat|hat
  ·exact(h.bu hat).1
  ·have:=h.blk.lt;omega
 have e1:∀k,k<w.heap.size->vu.ownBlock≠some k->k≠b->(w'.setCell ⟨b,2,none⟩ (.slice g (un.length+1) cap)).heap[k]? =w.heap[k]? :=fun k hk h1 h2=>(qah w' _ _ k h2).trans (hg.block k hk fun e=>h1 e.symm)
 have hb':Bk w' b 156 _:=h.blk.grown hg fun e=>(h.bu e.symm).1 rfl
 refine⟨⟨?_,h.Tw.keep (e1 bn h.Tw.lt (fun e=>(h.bu e).2.1 rfl) h.xX.symm),h.U8.keep (e1 bs h.U8.lt (fun e=>(h.bu e).2.2 rfl) h.rq.symm),.inr ⟨g,cap,by simp,?_⟩,h.ne,h.len,?_⟩,hgb⟩
 ·exact hb'.set 2 _
 ·have:=Row.Bh (L:=(un++[p]).map (TR f)) (by simpa using ho) (by simp) (by
   intro c hc
   obtain⟨q,_,rfl⟩:=qaE.1 hc
   exact Jn hf q) (by
   intro c hc
   obtain⟨q,_,rfl⟩:=qaE.1 hc
   exact Jm hf q)
  exact this.keep (qah w' _ _ g hgb)
 ·intro q hq
  rcases List.mem_append.1 hq with hq|hq
  ·exact h.idx q hq
  ·obtain rfl:q=p:=by simpa using hq
   exact hp
theorem Mem.far (h:Mem f w b bn bs cn cs vu now safe un dead cut left done){x:Nat}{c:Array qaj}{e:TypeId}(hx:w.heap[x]? =some (.cells c e (0,0)))(he:e≠231):some x≠vu.ownBlock:=by
 intro hi
 rcases h.zH with⟨rfl,_⟩|⟨bu,cu,rfl,hr⟩
 ·cases hi
 ·cases hi
  obtain⟨d,hd⟩:=hr.elemType
  exact WK hx hd he rfl
theorem KX(hf:Enc f){w3 w4:qag}{k:Dk α}{c:α}{B:Obj}(hK:Kept (foot b bn bs vu) w w3)(hm:Mem f (w3.alloc B).drew b bn bs cn cs vu (k.op.now.set s c) k.op.safe k.op.un k.op.dead k.op.cut k.op.left k.op.done)(hs:s<k.op.safe.length)(hg:(w3.alloc B).drew.grownBy w4 vu.ownBlock)(hat:vu.ownBlock=some g\/g=(w3.alloc B).drew.heap.size)(ho:w4.ownsRow 0 231 66 (.slice g (k.op.un.length+1) cap) (k.op.un.length+1) ((k.op.un.map (TR f)).flatten++TR f (s,c))):
  Turned f (foot b bn bs vu) w (w4.setCell ⟨b,2,none⟩ (.slice g (k.op.un.length+1) cap)) b (k.wrote s c):=by
 obtain⟨hm5,hgb⟩:=hm.grow hf (p:=(s,c)) hs hg hat ho
 have k1:Kept (foot b bn bs vu) w3 (w3.alloc B).drew:=(Kept.of_below ((qaA _ w3).alloc (qar _) _)).drew
 have k2:Kept (foot b bn bs vu) (w3.alloc B).drew w4:=Kept.Y4 hg fun i hi=>.inr (.inr (.inr hi))
 have k3:Kept (foot b bn bs vu) w4 (w4.setCell ⟨b,2,none⟩ (.slice g (k.op.un.length+1) cap)):=Kept.Y4 (row:=some b) (ZT (qaH w4 _) 2 _) (by rintro _ h;injection h with h;exact .inl h.symm)
 refine⟨((hK.trans k1 fun i hi=>.inl hi).trans k2 fun i hi=>.inl hi).trans k3 fun i hi=>.inl hi,_,⟨bn,bs,cn,cs,.slice g (k.op.un.length+1) cap,rfl,?_⟩,?_⟩
 ·have e1:(k.wrote s c).now=k.op.now.set s c:=by
   simp only[Dk.now,Dk.wrote,UX,Dk.O7,XJ,Xa]
  have e2:(k.wrote s c).un=k.op.un++[(s,c)]:=by simp[Dk.wrote,Dk.O7]
  rw[e1,e2]
  exact hm5
 ·rintro i (rfl|rfl|rfl|hi)
  ·exact .inl (.inl rfl)
  ·exact .inl (.inr (.inl rfl))
  ·exact .inl (.inr (.inr (.inl rfl)))
  ·simp only[qaj.ownBlock,Option.some.injEq]at hi
   subst hi
   rcases hat with hat|hat
   ·exact .inl (.inr (.inr (.inr hat)))
   ·right
    have:=hK.size
    simp at hat
    omega
theorem PN(W:qag)(v:List qaj)(hl:v.length=66):(Instr.buildSlice 154 1 #[(0,.agg v.toArray)]).run Tryz.prog W=.ok (.slice W.heap.size 1 1) (W.alloc (.cells v.toArray 231)):=by
 obtain⟨Z,hZ⟩:∃Z:Array qaj,Z=(Array.range 66).map ((qaj.agg (qaj.int .i64 0::z65).toArray).cells[· %(qaj.agg (qaj.int .i64 0::z65).toArray).cells.size]!):=⟨_,rfl⟩
 have hZs:Z.size=66:=by rw[hZ];simp
 have hz:∀W:qag,(zeroValue 231).run Tryz.prog W=.ok (.agg (qaj.int .i64 0::z65).toArray) W:=Ox
 have FY:v.zipIdx.foldl (fun cs x=>cs.setIfInBounds (0+x.2) x.1) Z=v.toArray:=by
  apply qaC
  intro k
  rw[M8,hZs]
  simp only[hl,qak]
  rcases qay k 66 with hk|hk
  ·rw[if_pos (by omega)]
   congr 1
  ·rw[if_neg (by omega),qaz (by omega),qal (by omega)]
 have c1:(qaj.agg v.toArray).cells=v.toArray:=rfl
 unfold Instr.buildSlice
 simp only[Sem.run_bind,Tryz.runUnderlying154,Result.andThen_ok,Tryz.sizeOf231]
 simp only[qax]at FY
 simp[Instr.fill,hz]
 rw[<-hZ]
 simp[c1,hl,FY]
 simp[newRow]
theorem TQ{o:Oper}{a:Act}{K:Act->qag->Prop}{Q:Exit->Act->qag->Prop}(x:Operand)(ho:o.op=.buildSlice 154 1 #[(0,x)])(v:List qaj)(hx:a.eval x=.agg v.toArray)(hl:v.length=66)(h:K (a.put o.dst (.slice w.heap.size 1 1)) (w.alloc (.cells v.toArray 231))):o.wp Tryz.prog a w K Q:=by
 unfold Oper.wp execOp
 simp only[ho,List.map_toArray,List.map_cons,List.map_nil,hx,Sem.run_bind,PN w v hl,Result.andThen_ok]
 exact h
theorem run_arrayAt(W:qag)(a:Addr)(cp:Nat):(qaP 161 (.slice (some a) 64 cp)).run Tryz.prog W=.ok (.pointer (some a)) W:=by
 simp[qaP,Sem.run_bind,Tryz.runUnderlying161]
theorem LC(hf:Enc f)(w:qag)(S:Nat->Prop)(b:Nat)(k:Dk α)(h:Zv f w S b k)(s:Nat)(hs:s<k.safe.length)(ba oa cp:Nat)(bs':List qaj)(t:Int)(c:α)(hc:f c=bs'++[.int .u16 t])(hl:bs'.length=64)(hr:w.rangeAt ba oa bs')(hS:¬ S ba)(hlt:ba<w.heap.size)(hun:k.un.length<=1073741824)(hoff:k.off=false):
  qaN Tryz.prog 114 #[.pointer b,.agg #[s,.slice (some ⟨ba,oa,none⟩) 64 cp,.int .u16 t]] w fun e w'=>e=.returned (.int .i64 0)/\Turned f S w w' b (k.wrote s c):=by
 obtain⟨bn,bs,cn,cs,vu,rfl,hm⟩:=h
 have hin:(decide (0<=(s:Int))&&decide ((s:Int)<(k.safe.length:Int)))=true:=by simp;omega
 have H:=χ hm
 have lT:=χ hin
 have QH:=χ hoff
 have HS:=χ hS
 have Hr:=χ hr
 have Hs:=χ hs
 have Hf:=χ hf
 have Hc:=χ hc
 clear hm hin hoff hs hS hr hf hc
 go_enter Tryz.func114,Tryz.ntmps114
 go_wp2_with (first
  |(go_at_call 189;refine(Sz _ _ _ _ _ _ _ _ _ _ _ _ _ _ (H.out.alloc _) _).mono ?_;rintro e w' ⟨rfl,rfl⟩;rw[lT.out])
  |(go_at_call 190;refine(jk _ _ _ _ _ _ _ _ (H.out.alloc _) QH.out).mono ?_;rintro e w1 ⟨rfl,hg,hop⟩;replace hop:=χ hop;replace hg:=χ hg))
 have hW:=hg.out
 obtain⟨gb,hgb⟩:∃gb,gb=w.heap.size:=⟨_,rfl⟩
 have hbl:b≠gb:=by have:=H.out.blk.lt;omega
 have hsz1:gb+1<=w1.heap.size:=by have:=hW.size;simp at this;omega
 have FX:w1.heap[gb]? =some (.cells #[s,.slice (some ⟨ba,oa,none⟩) 64 cp,.int .u16 t] 140 (0,0)):=by
  rw[hW.block gb (by simp;omega) (by rintro e;injection e with e;exact hbl e.symm),hgb]
  exact qaq w _
 have hb0:w1.cell? ⟨gb,0,none⟩=some (.int .i64 s):=qaw w1 gb 0 _ 140 (0,0) FX
 have hb1:w1.cell? ⟨gb,1,none⟩=some (.slice (some ⟨ba,oa,none⟩) 64 cp):=qaw w1 gb 1 _ 140 (0,0) FX
 have hb2:w1.cell? ⟨gb,2,none⟩=some (.int .u16 t):=qaw w1 gb 2 _ 140 (0,0) FX
 have hr1:w1.rangeAt ba oa bs':=ZO (ZO Hr.out (qam w _ ba hlt)) (hW.block ba (by simp;omega) (by rintro e;injection e with e;exact HS.out (.inl e)))
 rw[<-hgb]at*
 have lL:=χ FX
 clear hW FX
 have acm:=Tryz.underlying161
 have hat:∀W:qag,(qaP 161 (.slice (some ⟨ba,oa,none⟩) 64 cp)).run Tryz.prog W=.ok (.pointer (some ⟨ba,oa,none⟩)) W:=fun W=>run_arrayAt W _ cp
 have aaV:(Tryz.prog.info? 161).map (·.size)=some bs'.length:=by rw[Dj,hl]
 have h1:∀v∈bs',v.oneCell'=true:=fun v hv=>Hf.out.one c v (by rw[Hc.out];simp[hv])
 have acn:=lM
 have hzl:=Ry
 obtain⟨hf1,hf2⟩:=eu bs' hl (.int .u16 t)
 have hn0:=qag.new_ne w1 _ hb0
 obtain⟨C,hC⟩:∃C,C=bs'++[qaj.int .u16 t]:=⟨_,rfl⟩
 have qV:C.length=65:=by rw[hC];simp[hl]
 have hC1:∀u∈C,u.oneCell'=true:=fun u hu=>Hf.out.one c u (by rw[Hc.out,<-hC];exact hu)
 rw[<-hC]at hf2
 have hst:∀(c0:Array qaj),c0.size=65->(storeCells ⟨w1.heap.size,0,none⟩ C 0).run Tryz.prog (w1.alloc (.cells c0 178)).drew=.ok () (w1.alloc (.cells C.toArray 178)).drew:=fun c0 h0=>
  qaG (P:=Tryz.prog) w1.drew 178 c0 C.toArray (by rw[Te];simp[qV]) (by simp[qV,h0]) (qai hC1)
 have HC:=χ hC
 have VF:=χ hC1
 clear hC hC1
 have key:∀o,(fun w':qag=>w'.cell? ⟨gb,1,none⟩=some (.slice (some ⟨ba,oa,none⟩) 64 cp)/\w'.cell? ⟨gb,2,none⟩=some (.int .u16 t)/\w'.rangeAt ba oa bs') (w1.alloc o).drew:=fun o=>⟨(qas _ _ _ (qae w1 _ hb1)).trans hb1,(qas _ _ _ (qae w1 _ hb2)).trans hb2,qag.rangeAt_alloc hr1 o⟩
 have Key:=χ key
 clear key
 refine qan (S:=fun w'=>w'.cell? ⟨gb,1,none⟩=some (.slice (some ⟨ba,oa,none⟩) 64 cp)/\w'.cell? ⟨gb,2,none⟩=some (.int .u16 t)/\w'.rangeAt ba oa bs') (by kernel_rfl) ⟨hb1,hb2,hr1⟩ (fun hHeld=>?_)
 refine tk 0 ?_ (y:=.inl ⟨by rfl,?hya0⟩) (s:=by assumption) (h:=?V6)
 case hya0=>exact zc2
 try simp only[qad,qaa,qab,qac]
 refine tk 1 ?_ (y:=.inl ⟨by rfl,?hya1⟩) (s:=by assumption) (h:=?V5)
 case hya1=>exact zc2
 try simp only[qad,qaa,qab,qac]
 refine tk 2 ?_ (y:=.inl ⟨by rfl,?hya2⟩) (s:=by assumption) (h:=?V4)
 case hya2=>exact zc2
 try simp only[qad,qaa,qab,qac]
 refine tk 3 _ (y:=(qap (by rfl) 161 _ rfl ba oa rfl bs' _ (fun w' h=>h.2.2) Tryz.underlying161 rfl aaV)) (s:=by assumption) (h:=?_)
 try simp only[qad,qaa,qab,qac]
 refine tk 4 ?_ (y:=.inl ⟨by rfl,?hya4⟩) (s:=by assumption) (h:=?TN)
 case hya4=>exact zc2
 try simp only[qad,qaa,qab,qac]
 refine tk 5 ?_ (y:=.inl ⟨by rfl,?hya5⟩) (s:=by assumption) (h:=?Vi)
 case hya5=>exact zc2
 try simp only[qad,qaa,qab,qac]
 refine tk 6 ?_ (y:=.inl ⟨by rfl,?hya6⟩) (s:=by assumption) (h:=?UR)
 case hya6=>exact zc2
 try simp only[qad,qaa,qab,qac]
 refine rd 7 (h:=fun K hK=>?_)
 go_simp
 refine hK.out _ _ (Key.out _) (fun Z5=>?_)
 clear hK K hHeld
 refine rd 8 (h:=fun K hK=>?_)
 go_simp
 refine hK.out _ _ (Key.out _) (fun hHeld=>?_)
 clear hK K Z5
 refine qav (by kernel_rfl) ?_ _
 have qU:QF f (w1.alloc (.cells C.toArray 178)).drew b bn bs cn cs vu k.op:=(hop.out.alloc (.cells C.toArray 178)).keep fun _ _=>rfl
 have hC2:(w1.alloc (.cells C.toArray 178)).drew.heap[w1.heap.size]? =some (.cells C.toArray 178 (0,0)):=qaq w1 _
 have hB2:Below w1.heap.size w1 (w1.alloc (.cells C.toArray 178)).drew:=((qaA _ w1).alloc (qar _) _).drew
 have hs2:(w1.alloc (.cells C.toArray 178)).drew.heap.size=w1.heap.size+1:=by simp
 have ji:(w1.alloc (.cells C.toArray 178)).drew.heap[gb]? =some (.cells #[s,.slice (some ⟨ba,oa,none⟩) 64 cp,.int .u16 t] 140 (0,0)):=(qam w1 _ gb (by omega)).trans lL.out
 have qR:=χ ji
 clear ji
 have dZ:(w1.alloc (.cells C.toArray 178)).drew.cell? ⟨gb,0,none⟩=some (.int .i64 s):=(qas _ _ _ (qae w1 _ hb0)).trans hb0
 clear hHeld hst Key hn0 hf2 hf1 hzl acn h1 aaV hat acm hr1 hb2 hb1 hb0 Hr HS lT H QH hlt hl
 generalize (w1.alloc (.cells C.toArray 178)).drew=w2 at*
 obtain⟨g2,hg2⟩:∃g2,g2=w1.heap.size:=⟨_,rfl⟩
 rw[<-hg2]at hC2 hB2 hs2⊢
 have hr2:w2.rangeAt g2 0 C:=fun j v hj=>by
  rw[qax,qaw w2 g2 j _ 178 (0,0) hC2]
  simpa using hj
 have Kc:=qU.xW
 have hlen:k.op.now.length=k.safe.length:=by rw[qU.len,Dk.Uh]
 have hth:w2.there bn (s*65) 65:=qU.Tw.there (by simp only[List.length_map];rw[hlen];exact Hs.out)
 have hsn:(s:Int)<(k.op.now.length:Int):=by have:=Hs.out;omega
 have hs0:(0:Int)<=(s:Int):=by omega
 obtain⟨nn,hnn⟩:∃nn,nn=k.op.now.length:=⟨_,rfl⟩
 rw[<-hnn]at Kc hsn
 have lK:=χ qU
 have HB2:=χ hB2
 have dY:=χ hC2
 have Hlen:=χ hlen
 have Hnn:=χ hnn
 have Hg2:=χ hg2
 have aaW:=hop
 clear qU hB2 hC2 hlen hnn hg2 hop
 have lJ:=Tryz.underlying178
 have Mc:(Tryz.prog.info? 178).map (·.size)=some C.length:=by rw[Te,qV]
 have hone:=VF.out
 have hne1:bn≠b:=(lK.out.xX).symm
 have hne2:gb≠bn:=by
  obtain⟨x,hx⟩:=lK.out.Tw.elemType
  exact WK qR.out hx (by decide)
 have dX:g2≠bn:=by
  have h1:=(aaW.out).Tw.lt
  have h2:=Hg2.out
  omega
 have aaX:Hid ((fun w':qag=>w'.cell? ⟨b,0,none⟩=some (.slice bn nn cn)/\w'.cell? ⟨gb,0,none⟩=some (.int .i64 s)/\w'.rangeAt g2 0 C) (w2.drew.setCells bn (s*65) C)):=⟨(qaf (a:=⟨b,0,none⟩) (ZJ bn C _ w2.drew b hne1.symm)).trans Kc,(qaf (a:=⟨gb,0,none⟩) (ZJ bn C _ w2.drew gb hne2)).trans dZ,ZO hr2 (ZJ bn C _ w2.drew g2 dX)⟩
 go_wp2
 refine qan (S:=fun w'=>w'.cell? ⟨b,0,none⟩=some (.slice bn nn cn)/\w'.cell? ⟨gb,0,none⟩=some (.int .i64 s)/\w'.rangeAt g2 0 C) (by kernel_rfl) ⟨Kc,dZ,hr2⟩ (fun hHeld=>?_)
 refine tk 0 ?_ (y:=.inl ⟨by rfl,?hyb0⟩) (s:=by assumption) (h:=?Ad)
 case hyb0=>exact zc2
 try simp only[qad,qaa,qab,qac]
 refine tk 1 ?_ (y:=.inl ⟨by rfl,?hyb1⟩) (s:=by assumption) (h:=?Ac)
 case hyb1=>exact zc2
 try simp only[qad,qaa,qab,qac]
 refine tk 2 ?_ (y:=.inl ⟨by rfl,?hyb2⟩) (s:=by assumption) (h:=?Ab)
 case hyb2=>exact zc2
 try simp only[qad,qaa,qab,qac]
 refine tk 3 ?_ (y:=.inl ⟨by rfl,?hyb3⟩) (s:=by assumption) (h:=?Aa)
 case hyb3=>exact zc2
 try simp only[qad,qaa,qab,qac]
 refine tk 4 ?_ (y:=.inl ⟨by rfl,?hyb4⟩) (s:=by assumption) (h:=?zZ)
 case hyb4=>exact zc2
 try simp only[qad,qaa,qab,qac]
 refine tk 5 ?_ (y:=.inl ⟨by rfl,?hyb5⟩) (s:=by assumption) (h:=?vK)
 case hyb5=>exact zc2
 try simp only[qad,qaa,qab,qac]
 refine tk 6 _ (y:=(qap (by rfl) 178 _ rfl g2 0 rfl C _ (fun w' h=>h.2.2) lJ rfl Mc)) (s:=by assumption) (h:=?_)
 try simp only[qad,qaa,qab,qac]
 refine tk 7 ?_ (y:=.inl ⟨by rfl,?hyb7⟩) (s:=by assumption) (h:=?vJ)
 case hyb7=>exact zc2
 try simp only[qad,qaa,qab,qac]
 refine rd 8 (h:=fun K hK=>?_)
 rw[if_pos (by rfl)]
 refine wp_store_mid 178 _ _ rfl bn (s*65) C.toArray rfl rfl (by simpa[qV]using hth) (by rw[Te];simp[qV]) (qai hone) ?_
 simp only[qad]
 refine hK.out _ _ (aaX.out) (fun Z5=>?_)
 clear hK K hHeld
 refine qav (by kernel_rfl) ?_ _
 have hfc:C=f c:=HC.out.trans Hc.out.symm
 have hm3:Mem f (w2.drew.setCells bn (s*65) C) b bn bs cn cs vu (k.op.now.set s c) k.op.safe k.op.un k.op.dead k.op.cut k.op.left k.op.done:=by
  rw[hfc]
  exact Mem.put (w:=w2.drew) (lK.out.keep fun _ _=>rfl) Hf.out (by rw[Hlen.out];exact Hs.out) c
 have hg3:w2.drew.grownBy (w2.drew.setCells bn (s*65) C) (some bn):=Vr _ _ _ _
 have hC3:(w2.drew.setCells bn (s*65) C).heap[g2]? =some (.cells C.toArray 178 (0,0)):=(ZJ bn C _ w2.drew g2 dX).trans dY.out
 have hB3:(w2.drew.setCells bn (s*65) C).heap[gb]? =some (.cells #[s,.slice (some ⟨ba,oa,none⟩) 64 cp,.int .u16 t] 140 (0,0)):=(ZJ bn C _ w2.drew gb hne2).trans qR.out
 have hK3:Kept (foot b bn bs vu) w (w2.drew.setCells bn (s*65) C):=by
  have k1:Kept (foot b bn bs vu) w (w.alloc (.cells #[s,.slice (some ⟨ba,oa,none⟩) 64 cp,.int .u16 t] 140)):=Kept.of_below ((qaA _ w).alloc (qar _) _)
  have k2:Kept (foot b bn bs vu) _ w1:=Kept.Y4 hg.out (by rintro _ h;injection h with h;exact .inl h.symm)
  have k3:Kept (foot b bn bs vu) w1 w2:=by
   have:=HB2.out
   rw[Hg2.out]at this
   exact Kept.of_below this
  have k4:Kept (foot b bn bs vu) w2.drew _:=Kept.Y4 hg3 (by rintro _ h;injection h with h;exact .inr (.inl h.symm))
  exact((k1.trans k2 fun i hi=>.inl hi).trans k3 fun i hi=>.inl hi).drew.trans k4 fun i hi=>.inl hi
 have Hfc:=χ hfc
 clear hfc
 have hc3:=Z5.2.1
 have hr3:=Z5.2.2
 have Hs':Hid (s<k.op.safe.length):=by rw[Dk.Uh];exact Hs.out
 have yt:Hid (k.op.un.length<=1073741824):=by rw[Dk.O7];exact hun
 clear Z5 aaX dX hne2 hne1 Mc lJ aaW Hg2 Hnn Hlen dY HB2 lK Kc hsn hs0 hth hr2 hs2 dZ qR hg lL hg3 hun hsz1
 generalize w2.drew.setCells bn (s*65) C=w3 at*
 have Hm3:=χ hm3
 have lI:=χ hC3
 have HB3:=χ hB3
 have HK3:=χ hK3
 have aea:=hm3.aH
 clear hm3 hC3 hB3 hK3
 have lJ:=Tryz.underlying178
 have Mc:(Tryz.prog.info? 178).map (·.size)=some C.length:=by rw[Te,qV]
 have aaU:=Ox
 have hzl:=Ry
 have aeb:=ed C qV (s:Int)
 have hal:∀o,w3.alloc o=w3.alloc o:=fun _=>rfl
 have aaY:∀o,(fun w':qag=>w'.cell? ⟨gb,0,none⟩=some (.int .i64 s)/\w'.rangeAt g2 0 C) (w3.alloc o).drew:=fun o=>⟨(qas _ _ _ (qae w3 _ hc3)).trans hc3,qag.rangeAt_alloc hr3 o⟩
 have Di:=χ aaY
 clear aaY hal
 go_wp2
 refine qan (S:=fun w'=>w'.cell? ⟨gb,0,none⟩=some (.int .i64 s)/\w'.rangeAt g2 0 C) (by kernel_rfl) ⟨hc3,hr3⟩ (fun hHeld=>?_)
 refine tk 0 ?_ (y:=.inl ⟨by rfl,?hyc0⟩) (s:=by assumption) (h:=?acf)
 case hyc0=>exact zc3
 try simp only[qad,qaa,qab,qac]
 refine tk 1 ?_ (y:=.inl ⟨by rfl,?hyc1⟩) (s:=by assumption) (h:=?acg)
 case hyc1=>exact zc3
 try simp only[qad,qaa,qab,qac]
 refine tk 2 ?_ (y:=.inl ⟨by rfl,?hyc2⟩) (s:=by assumption) (h:=?ach)
 case hyc2=>exact zc3
 try simp only[qad,qaa,qab,qac]
 refine tk 3 ?_ (y:=.inl ⟨by rfl,?hyc3⟩) (s:=by assumption) (h:=?aci)
 case hyc3=>exact zc3
 try simp only[qad,qaa,qab,qac]
 refine tk 5 ?_ (y:=.inl ⟨by rfl,?hyc5⟩) (s:=by assumption) (h:=?acj)
 case hyc5=>exact zc3
 try simp only[qad,qaa,qab,qac]
 refine tk 6 ?_ (y:=.inl ⟨by rfl,?hyc6⟩) (s:=by assumption) (h:=?ack)
 case hyc6=>exact zc3
 try simp only[qad,qaa,qab,qac]
 refine tk 7 _ (y:=(qap (by rfl) 178 _ rfl g2 0 rfl C _ (fun w' h=>h.2) lJ rfl Mc)) (s:=by assumption) (h:=?_)
 try simp only[qad,qaa,qab,qac]
 refine tk 8 ?_ (y:=.inl ⟨by rfl,?hyc8⟩) (s:=by assumption) (h:=?aec)
 case hyc8=>exact zc3
 try simp only[qad,qaa,qab,qac]
 refine wpAnyH_ready (rs:=[4,9]) (by kernel_rfl) (by simp) ?_
 refine AllReadyH.cons (o:=_) (by simp only[qak,qao,qaM];rfl) (fun K hK=>?_) (AllReadyH.cons (o:=_) (by simp only[qak,qao,qaM];rfl) (fun K hK=>?_) (AllReadyH.nil))
 ·go_simp
  refine hK.out _ _ ⟨hc3,hr3⟩ (fun hHeld=>?_)
  clear hK K
  refine rd 9 (h:=fun K hK=>?_)
  rw[if_pos (by rfl)]
  refine TQ (.tmp 45) rfl (.int .i64 s::C) rfl (by simp[qV]) ?_
  try simp only[qad,qaa,qab,qac]
  change K _ (w3.alloc (.cells (.int .i64 s::C).toArray 231)).drew
  refine hK.out _ _ (Di.out _) (fun hHeld=>?_)
  clear hK K
  have IU:Mem f (w3.alloc (.cells (.int .i64 s::C).toArray 231)).drew b bn bs cn cs vu (k.op.now.set s c) k.op.safe k.op.un k.op.dead k.op.cut k.op.left k.op.done:=(Hm3.out.alloc (.cells (.int .i64 s::C).toArray 231)).keep fun _ _=>rfl
  have qQ:g2<w3.heap.size:=by
   rcases qay g2 w3.heap.size with h|h
   ·exact h
   ·have:=lI.out;rw[qaz h]at this;cases this
  have dW:=qae w3 _ hc3
  have dV:(w3.alloc (.cells (.int .i64 s::C).toArray 231)).drew.heap[gb]? =some (.cells _ 140 (0,0)):=(qam w3 _ gb dW).trans HB3.out
  have dU:(w3.alloc (.cells (.int .i64 s::C).toArray 231)).drew.heap[g2]? =some (.cells _ 178 (0,0)):=(qam w3 _ g2 qQ).trans lI.out
  refine rd 10 (h:=fun K hK=>?_)
  refine step_append_lies _ rfl (.tmp 41) (.tmp 46) 154 rfl 0 231 Tryz.t231 _ 66 80 Tryz.underlying154 (by kernel_rfl) Dm rfl rfl (by kernel_rfl) (by decide) vu k.op.un.length (k.op.un.map (TR f)).flatten rfl (by simpa using IU.zH.owns) ⟨w3.heap.size,0,none⟩ 1 1 (.int .i64 s::C) rfl (by simp[qV]) (qag.news_of_block (cs:=(.int .i64 s::C).toArray) (qaq w3 _)) (by intro u hu;simp only[qaB]at hu;rcases hu with rfl|hu;exact rfl;exact hone u hu) (by decide) (by have:=yt.out;simp[maxLen];omega) (by have:=yt.out;omega) (qaJ _) _ rfl ?_
  intro g cap w4 hown hgrow hat fC
  try simp only[qad,qaa,qab,qac]
  have hb4:=IU.blk.grown hgrow (fun e=>(IU.bu e.symm).1 rfl)
  have hc4:=hb4.cell 2
  have hf4:=hb4.frozen 2
  have hS4:(fun w':qag=>w'.cell? ⟨gb,0,none⟩=some (.int .i64 s)/\w'.rangeAt g2 0 C) w4:=⟨(hgrow.cell_far ⟨gb,0,none⟩ (by have:=qae w3 _ hc3;simp at this⊢;omega) (IU.far dV (by decide))).trans (Di.out _).1,ZO (Di.out _).2 (hgrow.block g2 (by have:=qQ;simp;omega) (IU.far dU (by decide)))⟩
  have hfin:=KX Hf.out HK3.out IU Hs'.out hgrow hat (by simpa[TR,<-Hfc.out]using hown)
  have QI:=χ hfin
  have EU:=χ hS4
  have qP:w4.heap[gb]? =some (.cells _ 140 (0,0)):=(hgrow.block gb (by have:=qae w3 _ hc3;simp at this⊢;omega) (IU.far dV (by decide))).trans dV
  have hbne:gb≠b:=WK qP hb4 (by decide)
  have qO:w4.heap[g2]? =some (.cells _ 178 (0,0)):=(hgrow.block g2 (by simp;omega) (IU.far dU (by decide))).trans dU
  have qN:g2≠b:=WK qO hb4 (by decide)
  have ou:Hid (∀v,(fun w':qag=>w'.cell? ⟨gb,0,none⟩=some (.int .i64 s)/\w'.rangeAt g2 0 C) (w4.setCell ⟨b,2,none⟩ v)):=fun v=>⟨(qaf (a:=⟨gb,0,none⟩) (qah w4 _ v gb hbne)).trans EU.out.1,ZO EU.out.2 (qah w4 _ v g2 qN)⟩
  clear hfin hS4 qP qO hown hgrow hat hb4
  refine hK.out _ _ EU.out (fun hHeld=>?_)
  clear hK K
  refine tk 11 ?_ (y:=.inl ⟨by rfl,?hyd11⟩) (s:=by assumption) (h:=?aaS)
  case hyd11=>exact zc3
  try simp only[qad,qaa,qab,qac]
  refine tk 12 ?_ (y:=.inl ⟨by rfl,?hyd12⟩) (s:=by assumption) (h:=?aaT)
  case hyd12=>exact zc3
  exact zc0
 ·have IU:Mem f (w3.alloc (.cells (.int .i64 s::C).toArray 231)).drew b bn bs cn cs vu (k.op.now.set s c) k.op.safe k.op.un k.op.dead k.op.cut k.op.left k.op.done:=(Hm3.out.alloc (.cells (.int .i64 s::C).toArray 231)).keep fun _ _=>rfl
  have qQ:g2<w3.heap.size:=by
   rcases qay g2 w3.heap.size with h|h
   ·exact h
   ·have:=lI.out;rw[qaz h]at this;cases this
  have dW:=qae w3 _ hc3
  have dV:(w3.alloc (.cells (.int .i64 s::C).toArray 231)).drew.heap[gb]? =some (.cells _ 140 (0,0)):=(qam w3 _ gb dW).trans HB3.out
  have dU:(w3.alloc (.cells (.int .i64 s::C).toArray 231)).drew.heap[g2]? =some (.cells _ 178 (0,0)):=(qam w3 _ g2 qQ).trans lI.out
  rw[if_pos (by rfl)]
  refine TQ (.tmp 45) rfl (.int .i64 s::C) rfl (by simp[qV]) ?_
  try simp only[qad,qaa,qab,qac]
  change K _ (w3.alloc (.cells (.int .i64 s::C).toArray 231)).drew
  refine hK.out _ _ (Di.out _) (fun hHeld=>?_)
  clear hK K
  have aco:(w3.alloc (.cells (.int .i64 s::C).toArray 231)).cell? ⟨b,2,none⟩=some vu:=IU.aH
  refine rd 4 (h:=fun K hK=>?_)
  go_simp
  refine hK.out _ _ (Di.out _) (fun hHeld=>?_)
  clear hK K aco
  refine rd 10 (h:=fun K hK=>?_)
  refine step_append_lies _ rfl (.tmp 41) (.tmp 46) 154 rfl 0 231 Tryz.t231 _ 66 80 Tryz.underlying154 (by kernel_rfl) Dm rfl rfl (by kernel_rfl) (by decide) vu k.op.un.length (k.op.un.map (TR f)).flatten rfl (by simpa using IU.zH.owns) ⟨w3.heap.size,0,none⟩ 1 1 (.int .i64 s::C) rfl (by simp[qV]) (qag.news_of_block (cs:=(.int .i64 s::C).toArray) (qaq w3 _)) (by intro u hu;simp only[qaB]at hu;rcases hu with rfl|hu;exact rfl;exact hone u hu) (by decide) (by have:=yt.out;simp[maxLen];omega) (by have:=yt.out;omega) (qaJ _) _ rfl ?_
  intro g cap w4 hown hgrow hat fC
  try simp only[qad,qaa,qab,qac]
  have hb4:=IU.blk.grown hgrow (fun e=>(IU.bu e.symm).1 rfl)
  have hc4:=hb4.cell 2
  have hf4:=hb4.frozen 2
  have hS4:(fun w':qag=>w'.cell? ⟨gb,0,none⟩=some (.int .i64 s)/\w'.rangeAt g2 0 C) w4:=⟨(hgrow.cell_far ⟨gb,0,none⟩ (by have:=qae w3 _ hc3;simp at this⊢;omega) (IU.far dV (by decide))).trans (Di.out _).1,ZO (Di.out _).2 (hgrow.block g2 (by have:=qQ;simp;omega) (IU.far dU (by decide)))⟩
  have hfin:=KX Hf.out HK3.out IU Hs'.out hgrow hat (by simpa[TR,<-Hfc.out]using hown)
  have QI:=χ hfin
  have EU:=χ hS4
  have qP:w4.heap[gb]? =some (.cells _ 140 (0,0)):=(hgrow.block gb (by have:=qae w3 _ hc3;simp at this⊢;omega) (IU.far dV (by decide))).trans dV
  have hbne:gb≠b:=WK qP hb4 (by decide)
  have qO:w4.heap[g2]? =some (.cells _ 178 (0,0)):=(hgrow.block g2 (by simp;omega) (IU.far dU (by decide))).trans dU
  have qN:g2≠b:=WK qO hb4 (by decide)
  have ou:Hid (∀v,(fun w':qag=>w'.cell? ⟨gb,0,none⟩=some (.int .i64 s)/\w'.rangeAt g2 0 C) (w4.setCell ⟨b,2,none⟩ v)):=fun v=>⟨(qaf (a:=⟨gb,0,none⟩) (qah w4 _ v gb hbne)).trans EU.out.1,ZO EU.out.2 (qah w4 _ v g2 qN)⟩
  clear hfin hS4 qP qO hown hgrow hat hb4
  refine hK.out _ _ EU.out (fun hHeld=>?_)
  clear hK K
  refine tk 11 ?_ (y:=.inl ⟨by rfl,?hye11⟩) (s:=by assumption) (h:=?adA)
  case hye11=>exact zc3
  try simp only[qad,qaa,qab,qac]
  refine tk 12 ?_ (y:=.inl ⟨by rfl,?hye12⟩) (s:=by assumption) (h:=?adB)
  case hye12=>exact zc3
  exact zc0
end
end
end Go.Proofs.YtmehhgfbnfbnaaaGreat

namespace Go.Proofs.YtmehhgfbnfbnaaaGreat
open Go.RowKit
attribute [local go_sem↓] Go.wp_at_zero Go.wp_at_succ
section
variable {α:Type}{f:α->List qaj}
section
variable {w:qag}{b bn bs t i s cn cs j:Nat}{vu:qaj}{l un:List (Nat × α)}{now safe N:List α}{dead cut:Bool}{left done:Int}{k:Dk α}
theorem O4(t i:Nat)(l m:List (Nat × α)):kept t i (l++m)=kept t i l++kept t (i+l.length) m:=by
 induction l generalizing i with
 |nil=>simp[kept]
 |cons p l ih=>
  simp only[List.cons_append,kept,qaI]
  rw[ih (i+1),show i+1+l.length=i+(l.length+1)by omega]
  split<;>rfl
theorem Gh:∀p∈kept t i l,p∈l:=by
 induction l generalizing i with
 |nil=>intro p hp;exact hp
 |cons q l ih=>
  intro p hp
  simp only[kept]at hp
  split at hp
  ·rcases qaB.1 hp with rfl|hp
   ·exact List.mem_cons_self
   ·exact List.mem_cons_of_mem _ (ih p hp)
  ·exact List.mem_cons_of_mem _ (ih p hp)
theorem YF{L:List α}(h:∀p∈l,p.1≠s):(puts L l)[s]? =L[s]? :=by
 induction l generalizing L with
 |nil=>rfl
 |cons p l ih=>
  rw[XJ,ih fun q hq=>h q (by simp[hq]),List.getElem?_set_ne (h p (by simp))]
def YN(k:Dk α)(t j:Nat):List α:=puts k.safe (kept t 0 (k.un.take j))
theorem RZ(k:Dk α)(t j:Nat):(YN k t j).length=k.safe.length:=Yn _ _
theorem F8(k:Dk α)(t:Nat):YN k t 0=k.safe:=by simp[YN,kept,puts]
theorem Dt(k:Dk α)(t j:Nat)(p:Nat × α)(hp:k.un[j]? =some p)(h:t.testBit (j%64)=true):YN k t (j+1)=(YN k t j).set p.1 p.2:=by
 have hl:(k.un.take j).length=j:=by have:=(qat.1 hp).1;simp;omega
 have e:k.un.take (j+1)=k.un.take j++[p]:=by rw[qaD,hp];rfl
 simp only[YN,e,O4,UX,hl,kept,qax,h,if_true,XJ,Xa]
theorem xZ(k:Dk α)(t j:Nat)(p:Nat × α)(hp:k.un[j]? =some p)(h:t.testBit (j%64)=false):YN k t (j+1)=YN k t j:=by
 have hl:(k.un.take j).length=j:=by have:=(qat.1 hp).1;simp;omega
 have e:k.un.take (j+1)=k.un.take j++[p]:=by rw[qaD,hp];rfl
 simp only[YN,e,O4,UX,hl,kept,qax,h,Bool.false_eq_true,if_false,Xa]
theorem Dr(k:Dk α)(t:Nat):YN k t k.un.length=(k.settle t).safe:=by simp[YN,Dk.settle]
theorem Mem.lN (h:Mem f w b bn bs cn cs vu now safe un dead cut left done)(hf:Enc f)(hs:s<safe.length)(c:α):Mem f (w.setCells bs (s*65) (f c)) b bn bs cn cs vu now (safe.set s c) un dead cut left done:=by
 have ho:=fun k (hk:k≠bs)=>ZJ bs (f c) (s*65) w k hk
 refine⟨by rw[List.length_set];exact(ho b h.rq).trans h.blk,h.Tw.keep (ho bn h.ne),?_,h.zH.keep fun i hi=>ho i (h.bu hi).2.2,h.ne,by simpa using h.len,by simpa using h.idx⟩
 rw[List.map_set]
 exact h.U8.set (by simpa using hs) (hf.len c) (hf.one c)
theorem F7(W:qag)(p:Nat × α):(W.alloc (.cells (TR f p).toArray 231)).cell? ⟨W.heap.size,0,none⟩=some (.int .i64 p.1):=by
 rw[qaw _ W.heap.size 0 _ 231 (0,0) (qaq W _)]
 simp[TR]
theorem xY(W:qag)(p:Nat × α):(W.alloc (.cells (TR f p).toArray 231)).rangeAt W.heap.size 1 (f p.2):=fun j v hj=>by
 rw[qaw _ W.heap.size (1+j) _ 231 (0,0) (qaq W _),Nat.add_comm]
 simpa[TR]using hj
theorem Na(a j:Nat)(ha:a<18446744073709551616):(bits .and .u64 ((a:Int)/2^j) 1==1)=a.testBit j:=by
 have e:((a:Int)/2^j)=((a/2^j:Nat):Int):=by simp
 have h:=Nat.div_le_self a (2^j)
 have e2:=u64_and_nat (a/2^j) 1 (by omega) (by omega)
 rw[show(a/2^j)&&& 1=a/2^j%2 from Nat.and_one_is_mod _]at e2
 rw[e,show(1:Int)=((1:Nat):Int)from rfl,e2,Nat.testBit_eq_decide_div_mod_eq,Bool.eq_iff_iff]
 simp
 omega
theorem Md.range {a:Addr}{m cu:Nat}{L:List (List qaj)}(h:Md w (.slice (some a) m cu) L){c:List qaj}(hc:L[j]? =some c):w.rangeAt a.block (j*66) c:=by
 rcases h with⟨h,_⟩|⟨bu',cu',he,hR⟩
 ·cases h
 ·injection he with h1 h2 h3
  injection h1 with h1
  subst h1
  exact(hR.elem j _ hc).2.2
def Jo(k:Dk α)(S' N:List α)(j:Nat):Prop:=∀s,(s∈(k.un.take j).map (·.1)->N[s]? =S'[s]?)/\(s∉(k.un.take j).map (·.1)->N[s]? =k.now[s]?)
theorem Jo.start (k:Dk α)(S':List α):Jo k S' k.now 0:=fun s=>⟨fun h=>by simp at h,fun _=>rfl⟩
theorem Jo.step {S':List α}(h:Jo k S' N j){p:Nat × α}(hp:k.un[j]? =some p){c:α}(hc:S'[p.1]? =some c)(hl:N.length=S'.length):Jo k S' (N.set p.1 c) (j+1):=fun s=>by
 have e:k.un.take (j+1)=k.un.take j++[p]:=by rw[qaD,hp];rfl
 rw[e,List.map_append,List.mem_append]
 have hlt:p.1<N.length:=by rw[hl];exact(qat.1 hc).1
 by_cases hs:p.1=s
 ·subst hs
  refine⟨fun _=>by rw[List.getElem?_set_self hlt,hc],fun hn=>absurd (.inr (by simp)) hn⟩
 ·rw[List.getElem?_set_ne hs]
  refine⟨fun hm=>(h s).1 ?_,fun hn=>(h s).2 fun hm=>hn (.inl hm)⟩
  rcases hm with hm|hm
  ·exact hm
  ·simp at hm
   exact absurd hm.symm hs
theorem Jo.all (h:Jo k (YN k t k.un.length) N k.un.length):N=YN k t k.un.length:=by
 apply List.ext_getElem?
 intro s
 by_cases hs:s∈(k.un.take k.un.length).map (·.1)
 ·exact(h s).1 hs
 ·rw[(h s).2 hs]
  rw[List.take_length]at hs
  have h1:k.now[s]? =k.safe[s]? :=YF fun p hp e=>hs (qaE.2 ⟨p,hp,e⟩)
  have h2:(YN k t k.un.length)[s]? =k.safe[s]? :=YF fun p hp e=>hs (qaE.2 ⟨p,by
   have:=Gh p hp
   rwa[List.take_length]at this,e⟩)
  rw[h1,h2]
theorem Mem.drop (h:Mem f w b bn bs cn cs vu now safe un dead cut left done):Mem f (w.setCell ⟨b,2,none⟩ (.slice none 0 0)) b bn bs cn cs (.slice none 0 0) now safe [] dead cut left done:=by
 have ho:=fun k (hk:k≠b)=>qah w ⟨b,2,none⟩ (.slice none 0 0) k hk
 exact⟨h.blk.set 2 _,h.Tw.keep (ho bn h.xX.symm),h.U8.keep (ho bs h.rq.symm),.inl ⟨rfl,rfl⟩,h.ne,h.len,fun p hp=>by cases hp⟩
theorem F6(hf:Enc f)(w:qag)(b bn bs cn cs bu cu:Nat)(k:Dk α)(there:Nat)(ht:there<18446744073709551616)(hun:k.un.length<=1073741824)(hm:QF f w b bn bs cn cs (.slice bu k.un.length cu) k):
  qaN Tryz.prog 94 #[.pointer b,.int .u64 there] w fun e w'=>e=.returned (.tuple #[])/\Kept (foot b bn bs (.slice bu k.un.length cu)) w w'/\QF f w' b bn bs cn cs (.slice none 0 0) (k.settle there):=by
 have h2:=hm.aH
 have Hf:=χ hf
 have Hm:=χ hm
 clear hm hf
 obtain⟨m,hmm⟩:∃m,m=k.un.length:=⟨_,rfl⟩
 rw[<-hmm]at h2 hun
 have Hmm:=χ hmm
 clear hmm
 go_enter Tryz.func94,Tryz.ntmps94
 go_wp2
 go_loopw [13] (fun i wr=>∃j:Nat,j<=m/\i=.int .i64 j/\Kept (foot b bn bs (.slice bu k.un.length cu)) w wr/\Mem f wr b bn bs cn cs (.slice bu k.un.length cu) k.now (YN k there j) k.un k.dead k.cut k.left k.done) (fun i _=>m-(intOf i).toNat)
 case atStart=>exact⟨0,qaJ _,rfl,Kept.refl _ _,by rw[F8];exact Hm.out⟩
 case round=>
  obtain⟨j,hj,rfl,hK,hM⟩:=hrel
  have HK:=χ hK
  have HM:=χ hM
  clear hK hM
  by_cases hlt:j<m
  ·have hlt':j<k.un.length:=by rw[<-Hmm.out];exact hlt
   obtain⟨p,hp⟩:∃p,k.un[j]? =some p:=⟨_,qau hlt'⟩
   have hr:wr.rangeAt bu (j*66) (TR f p):=by
    exact HM.out.zH.range (by rw[qaF,hp];rfl)
   have Hp:=χ hp
   clear hp hlt'
   have hEl:=Jn Hf.out p
   have HE1:=χ (Jm Hf.out p)
   have hst:∀(c0:Array qaj),c0.size=66->(storeCells ⟨wr.heap.size,0,none⟩ (TR f p) 0).run Tryz.prog (wr.alloc (.cells c0 231))=.ok () (wr.alloc (.cells (TR f p).toArray 231)):=fun c0 h0=>by
    simpa using qaG (P:=Tryz.prog) wr 231 c0 (TR f p).toArray (by rw[M9];simp[hEl]) (by simp[hEl,h0]) (qai HE1.out)
   have aaU:=Ox
   have hzl:=Ry
   have hMa:Mem f (wr.alloc (.cells (TR f p).toArray 231)) b bn bs cn cs (.slice bu k.un.length cu) k.now (YN k there j) k.un k.dead k.cut k.left k.done:=HM.out.alloc _
   have hKa:Kept (foot b bn bs (.slice bu k.un.length cu)) w (wr.alloc (.cells (TR f p).toArray 231)):=HK.out.trans (Kept.of_below (S:=foot b bn bs (.slice bu k.un.length cu)) ((qaA _ wr).alloc (qar _) _)) fun i hi=>.inl hi
   have Dq:=χ hMa
   have jo:=χ hKa
   clear hMa hKa
   cases hbit:there.testBit (j%64)
   ·have ht':(bits .and .u64 ((there:Int)/2^(j%64)) 1==1)=false:=by rw[Na _ _ ht,hbit]
    have eD:=χ hbit
    clear hbit
    go_wp2_with (refine qaL rfl 231 (.tmp 16) rfl bu (j*66) rfl (TR f p) _ hr Tryz.underlying231 rfl (by rw[M9,hEl]) ?_)
    go_roundw
    case rel=>exact⟨j+1,by omega,by go_num,jo.out,by rw[xZ k there j p Hp.out eD.out];exact Dq.out⟩
    case measure=>simp[intOf];omega
   ·have ht':(bits .and .u64 ((there:Int)/2^(j%64)) 1==1)=true:=by rw[Na _ _ ht,hbit]
    have eD:=χ hbit
    clear hbit
    go_wp2_with (refine qaL rfl 231 (.tmp 16) rfl bu (j*66) rfl (TR f p) _ hr Tryz.underlying231 rfl (by rw[M9,hEl]) ?_)
    have hc0:=F7 (f:=f) wr p
    have hr0:=xY (f:=f) wr p
    have hps:p.1<(YN k there j).length:=by
     rw[RZ]
     exact Hm.out.idx p (qaO.2 ⟨j,Hp.out⟩)
    obtain⟨nn,hnn⟩:∃nn,nn=(YN k there j).length:=⟨_,rfl⟩
    have hb1:=Dq.out.jm
    have hth:(wr.alloc (.cells (TR f p).toArray 231)).there bs (p.1*65) 65:=Dq.out.U8.there (by simpa using hps)
    have hgs:wr.heap.size≠bs:=by have:=HM.out.U8.lt;omega
    have hbb:=Dq.out.rq
    rw[<-hnn]at hb1 hps
    have hp0:(0:Int)<=(p.1:Int):=by omega
    have hpn:(p.1:Int)<(nn:Int):=by omega
    have Hnn:=χ hnn
    have Hps:=χ hps
    clear hnn hps hst hr
    obtain⟨g,hg⟩:∃g,g=wr.heap.size:=⟨_,rfl⟩
    rw[<-hg]at hc0 hr0 hgs
    generalize wr.alloc (.cells (TR f p).toArray 231)=w1 at*
    have Dp:=Hf.out.len p.2
    have h1:=Hf.out.one p.2
    have Key:Hid ((fun w':qag=>w'.cell? ⟨b,1,none⟩=some (.slice bs nn cs)/\w'.cell? ⟨g,0,none⟩=some (.int .i64 p.1)/\w'.rangeAt g 1 (f p.2)) (w1.drew.setCells bs (p.1*65) (f p.2))):=⟨(qaf (a:=⟨b,1,none⟩) (ZJ bs _ _ w1.drew b hbb)).trans hb1,(qaf (a:=⟨g,0,none⟩) (ZJ bs _ _ w1.drew g hgs)).trans hc0,ZO hr0 (ZJ bs _ _ w1.drew g hgs)⟩
    have hfin:Mem f (w1.drew.setCells bs (p.1*65) (f p.2)) b bn bs cn cs (.slice bu k.un.length cu) k.now (YN k there (j+1)) k.un k.dead k.cut k.left k.done:=by
     rw[Dt k there j p Hp.out eD.out]
     exact Mem.lN (w:=w1.drew) (Dq.out.keep fun _ _=>rfl) Hf.out (by rw[<-Hnn.out];exact Hps.out) p.2
    have QI:=χ hfin
    have HKb:Hid (Kept (foot b bn bs (.slice bu k.un.length cu)) w (w1.drew.setCells bs (p.1*65) (f p.2))):=jo.out.drew.trans (Kept.Y4 (S:=foot b bn bs (.slice bu k.un.length cu)) (Vr w1.drew bs _ _) (by rintro _ h;injection h with h;exact .inr (.inr (.inl h.symm)))) fun i hi=>.inl hi
    have F5:=χ Dp
    have h1':=χ h1
    have Mc:(Tryz.prog.info? 178).map (·.size)=some (f p.2).length:=by rw[Te,Dp]
    clear Dp h1 hfin hgs hbb
    rw[<-hg]
    clear hg
    refine qan (S:=fun w'=>w'.cell? ⟨b,1,none⟩=some (.slice bs nn cs)/\w'.cell? ⟨g,0,none⟩=some (.int .i64 p.1)/\w'.rangeAt g 1 (f p.2)) (by kernel_rfl) ⟨hb1,hc0,hr0⟩ (fun hHeld=>?_)
    refine tk 0 ?_ (y:=.inl ⟨by rfl,?hya0⟩) (s:=by assumption) (h:=?V6)
    case hya0=>exact zc2
    try simp only[qad,qaa,qab,qac]
    refine tk 1 ?_ (y:=.inl ⟨by rfl,?hya1⟩) (s:=by assumption) (h:=?V5)
    case hya1=>exact zc2
    try simp only[qad,qaa,qab,qac]
    refine tk 2 ?_ (y:=.inl ⟨by rfl,?hya2⟩) (s:=by assumption) (h:=?V4)
    case hya2=>exact zc2
    try simp only[qad,qaa,qab,qac]
    refine tk 3 ?_ (y:=.inl ⟨by rfl,?hya3⟩) (s:=by assumption) (h:=?TD)
    case hya3=>exact zc2
    try simp only[qad,qaa,qab,qac]
    refine tk 4 ?_ (y:=.inl ⟨by rfl,?hya4⟩) (s:=by assumption) (h:=?TN)
    case hya4=>exact zc2
    try simp only[qad,qaa,qab,qac]
    refine tk 5 ?_ (y:=.inl ⟨by rfl,?hya5⟩) (s:=by assumption) (h:=?Vi)
    case hya5=>exact zc2
    try simp only[qad,qaa,qab,qac]
    refine tk 6 ?_ (y:=.inl ⟨by rfl,?hya6⟩) (s:=by assumption) (h:=?UR)
    case hya6=>exact zc2
    try simp only[qad,qaa,qab,qac]
    refine tk 7 _ (y:=(qap (by rfl) 178 _ rfl g 1 rfl (f p.2) _ (fun w' h=>h.2.2) Tryz.underlying178 rfl Mc)) (s:=by assumption) (h:=?_)
    try simp only[qad,qaa,qab,qac]
    refine tk 8 ?_ (y:=.inl ⟨by rfl,?hya8⟩) (s:=by assumption) (h:=?RS)
    case hya8=>exact zc2
    try simp only[qad,qaa,qab,qac]
    refine rd 9 (h:=fun K hK=>?_)
    rw[if_pos (by rfl)]
    refine wp_store_mid 178 _ _ rfl bs (p.1*65) (f p.2).toArray rfl rfl (by simpa[F5.out]using hth) (by rw[Te];simp[F5.out]) (qai h1'.out) ?_
    simp only[qad]
    refine hK.out _ _ Key.out (fun Z5=>?_)
    clear hK K hHeld
    refine qav (by kernel_rfl) ?_ _
    clear Z5 hb1 hc0 hr0 hth hp0 hpn Mc
    generalize w1.drew.setCells bs (p.1*65) (f p.2)=w2 at*
    go_wp2
    go_roundw
    case rel=>exact⟨j+1,by omega,by go_num,HKb.out,QI.out⟩
    case measure=>simp[intOf];omega
  ·obtain rfl:j=m:=by omega
   clear hj hlt h2
   have h2:wr.cell? ⟨b,2,none⟩=some (.slice bu j cu):=by
    have:=HM.out.aH
    rw[<-Hmm.out]at this
    exact this
   go_wp2
   go_loopw [39] (fun i wq=>∃(i':Nat)(N:List α),i'<=j/\i=.int .i64 i'/\Kept (foot b bn bs (.slice bu k.un.length cu)) w wq/\Mem f wq b bn bs cn cs (.slice bu k.un.length cu) N (YN k there j) k.un k.dead k.cut k.left k.done/\Jo k (YN k there j) N i') (fun i _=>j-(intOf i).toNat)
   case atStart=>exact⟨0,k.now,qaJ _,rfl,HK.out,HM.out,Jo.start _ _⟩
   case round=>
    clear HM HK h2
    obtain⟨i,N,hi,rfl,hK,hM,hB⟩:=hrel
    have HK:=χ hK
    have HM:=χ hM
    have HB:=χ hB
    clear hK hM hB
    by_cases hlt:i<j
    ·have hlt':i<k.un.length:=by rw[<-Hmm.out];exact hlt
     obtain⟨p,hp⟩:∃p,k.un[i]? =some p:=⟨_,qau hlt'⟩
     have hr:wr.rangeAt bu (i*66) (TR f p):=by
      exact HM.out.zH.range (by rw[qaF,hp];rfl)
     have hps:p.1<(YN k there j).length:=by
      rw[RZ]
      exact Hm.out.idx p (qaO.2 ⟨i,hp⟩)
     obtain⟨c,hcc⟩:∃c,(YN k there j)[p.1]? =some c:=⟨_,qau hps⟩
     have Hp:=χ hp
     have oG:=χ hcc
     clear hp hlt' hcc
     have hEl:=Jn Hf.out p
     have HE1:=χ (Jm Hf.out p)
     have hst:∀(c0:Array qaj),c0.size=66->(storeCells ⟨wr.heap.size,0,none⟩ (TR f p) 0).run Tryz.prog (wr.alloc (.cells c0 231))=.ok () (wr.alloc (.cells (TR f p).toArray 231)):=fun c0 h0=>by
      simpa using qaG (P:=Tryz.prog) wr 231 c0 (TR f p).toArray (by rw[M9];simp[hEl]) (by simp[hEl,h0]) (qai HE1.out)
     have aaU:=Ox
     have hzl:=Ry
     have hMa:Mem f (wr.alloc (.cells (TR f p).toArray 231)) b bn bs cn cs (.slice bu k.un.length cu) N (YN k there j) k.un k.dead k.cut k.left k.done:=HM.out.alloc _
     have hKa:Kept (foot b bn bs (.slice bu k.un.length cu)) w (wr.alloc (.cells (TR f p).toArray 231)):=HK.out.trans (Kept.of_below (S:=foot b bn bs (.slice bu k.un.length cu)) ((qaA _ wr).alloc (qar _) _)) fun i hi=>.inl hi
     have Dq:=χ hMa
     have jo:=χ hKa
     clear hMa hKa
     go_wp2_with (refine qaL rfl 231 (.tmp 41) rfl bu (i*66) rfl (TR f p) _ hr Tryz.underlying231 rfl (by rw[M9,hEl]) ?_)
     have hc0:=F7 (f:=f) wr p
     obtain⟨nn,hnn⟩:∃nn,nn=(YN k there j).length:=⟨_,rfl⟩
     have hb0:=Dq.out.xW
     have hb1:=Dq.out.jm
     have hth:(wr.alloc (.cells (TR f p).toArray 231)).there bn (p.1*65) 65:=Dq.out.Tw.there (by have:=Dq.out.len;simp;omega)
     have hr1:(wr.alloc (.cells (TR f p).toArray 231)).rangeAt bs (p.1*65) (f c):=(Dq.out.U8.elem p.1 (f c) (by rw[qaF,oG.out];rfl)).2.2
     have hgs:wr.heap.size≠bn:=by have:=HM.out.Tw.lt;omega
     have hbb:=Dq.out.xX
     have hsn:=Dq.out.ne
     have hNl:=Dq.out.len
     rw[hNl,<-hnn]at hb0
     rw[<-hnn]at hb1 hps
     have hp0:(0:Int)<=(p.1:Int):=by omega
     have hpn:(p.1:Int)<(nn:Int):=by omega
     have Hnn:=χ hnn
     have Hps:=χ hps
     have HNl:=χ hNl
     clear hnn hps hst hr hNl
     obtain⟨g,hg⟩:∃g,g=wr.heap.size:=⟨_,rfl⟩
     rw[<-hg]at hc0 hgs
     generalize wr.alloc (.cells (TR f p).toArray 231)=w1 at*
     have Dp:=Hf.out.len c
     have h1:=Hf.out.one c
     have Key:Hid ((fun w':qag=>w'.cell? ⟨b,0,none⟩=some (.slice bn nn cn)/\w'.cell? ⟨b,1,none⟩=some (.slice bs nn cs)/\w'.cell? ⟨g,0,none⟩=some (.int .i64 p.1)/\w'.rangeAt bs (p.1*65) (f c)) (w1.drew.setCells bn (p.1*65) (f c))):=⟨(qaf (a:=⟨b,0,none⟩) (ZJ bn _ _ w1.drew b hbb)).trans hb0,(qaf (a:=⟨b,1,none⟩) (ZJ bn _ _ w1.drew b hbb)).trans hb1,(qaf (a:=⟨g,0,none⟩) (ZJ bn _ _ w1.drew g hgs)).trans hc0,ZO hr1 (ZJ bn _ _ w1.drew bs hsn.symm)⟩
     have hfin:Mem f (w1.drew.setCells bn (p.1*65) (f c)) b bn bs cn cs (.slice bu k.un.length cu) (N.set p.1 c) (YN k there j) k.un k.dead k.cut k.left k.done:=
      Mem.put (w:=w1.drew) (Dq.out.keep fun _ _=>rfl) Hf.out (by rw[HNl.out,<-Hnn.out];exact Hps.out) c
     have QI:=χ hfin
     have HKb:Hid (Kept (foot b bn bs (.slice bu k.un.length cu)) w (w1.drew.setCells bn (p.1*65) (f c))):=jo.out.drew.trans (Kept.Y4 (S:=foot b bn bs (.slice bu k.un.length cu)) (Vr w1.drew bn _ _) (by rintro _ h;injection h with h;exact .inr (.inl h.symm))) fun i hi=>.inl hi
     have F5:=χ Dp
     have h1':=χ h1
     have Mc:(Tryz.prog.info? 178).map (·.size)=some (f c).length:=by rw[Te,Dp]
     clear Dp h1 hfin hgs hbb hsn
     rw[<-hg]
     clear hg
     refine qan (S:=fun w'=>w'.cell? ⟨b,0,none⟩=some (.slice bn nn cn)/\w'.cell? ⟨b,1,none⟩=some (.slice bs nn cs)/\w'.cell? ⟨g,0,none⟩=some (.int .i64 p.1)/\w'.rangeAt bs (p.1*65) (f c)) (by kernel_rfl) ⟨hb0,hb1,hc0,hr1⟩ (fun hHeld=>?_)
     refine tk 0 ?_ (y:=.inl ⟨by rfl,?hyb0⟩) (s:=by assumption) (h:=?Ad)
     case hyb0=>exact zc1
     try simp only[qad,qaa,qab,qac]
     refine tk 1 ?_ (y:=.inl ⟨by rfl,?hyb1⟩) (s:=by assumption) (h:=?Ac)
     case hyb1=>exact zc1
     try simp only[qad,qaa,qab,qac]
     refine tk 2 ?_ (y:=.inl ⟨by rfl,?hyb2⟩) (s:=by assumption) (h:=?Ab)
     case hyb2=>exact zc1
     try simp only[qad,qaa,qab,qac]
     refine tk 3 ?_ (y:=.inl ⟨by rfl,?hyb3⟩) (s:=by assumption) (h:=?Aa)
     case hyb3=>exact zc1
     try simp only[qad,qaa,qab,qac]
     refine tk 4 ?_ (y:=.inl ⟨by rfl,?hyb4⟩) (s:=by assumption) (h:=?zZ)
     case hyb4=>exact zc1
     try simp only[qad,qaa,qab,qac]
     refine tk 5 ?_ (y:=.inl ⟨by rfl,?hyb5⟩) (s:=by assumption) (h:=?vK)
     case hyb5=>exact zc1
     try simp only[qad,qaa,qab,qac]
     refine tk 6 ?_ (y:=.inl ⟨by rfl,?hyb6⟩) (s:=by assumption) (h:=?eF)
     case hyb6=>exact zc1
     try simp only[qad,qaa,qab,qac]
     refine tk 7 ?_ (y:=.inl ⟨by rfl,?hyb7⟩) (s:=by assumption) (h:=?vJ)
     case hyb7=>exact zc1
     try simp only[qad,qaa,qab,qac]
     refine tk 8 ?_ (y:=.inl ⟨by rfl,?hyb8⟩) (s:=by assumption) (h:=?eB)
     case hyb8=>exact zc1
     try simp only[qad,qaa,qab,qac]
     refine tk 9 ?_ (y:=.inl ⟨by rfl,?hyb9⟩) (s:=by assumption) (h:=?lQ)
     case hyb9=>exact zc1
     try simp only[qad,qaa,qab,qac]
     refine tk 10 ?_ (y:=.inl ⟨by rfl,?hyb10⟩) (s:=by assumption) (h:=?Bl)
     case hyb10=>exact zc1
     try simp only[qad,qaa,qab,qac]
     refine tk 11 ?_ (y:=.inl ⟨by rfl,?hyb11⟩) (s:=by assumption) (h:=?Bj)
     case hyb11=>exact zc1
     try simp only[qad,qaa,qab,qac]
     refine tk 12 ?_ (y:=.inl ⟨by rfl,?hyb12⟩) (s:=by assumption) (h:=?vI)
     case hyb12=>exact zc1
     try simp only[qad,qaa,qab,qac]
     refine tk 13 _ (y:=(qap (by rfl) 178 _ rfl bs (p.1*65) rfl (f c) _ (fun w' h=>h.2.2.2) Tryz.underlying178 rfl Mc)) (s:=by assumption) (h:=?_)
     try simp only[qad,qaa,qab,qac]
     refine tk 14 ?_ (y:=.inl ⟨by rfl,?hyb14⟩) (s:=by assumption) (h:=?jl)
     case hyb14=>exact zc1
     try simp only[qad,qaa,qab,qac]
     refine rd 15 (h:=fun K hK=>?_)
     rw[if_pos (by rfl)]
     refine wp_store_mid 178 _ _ rfl bn (p.1*65) (f c).toArray rfl rfl (by simpa[F5.out]using hth) (by rw[Te];simp[F5.out]) (qai h1'.out) ?_
     simp only[qad]
     refine hK.out _ _ Key.out (fun Z5=>?_)
     clear hK K hHeld
     refine qav (by kernel_rfl) ?_ _
     clear Z5 hb0 hb1 hc0 hr1 hth hp0 hpn Mc
     generalize w1.drew.setCells bn (p.1*65) (f c)=w2 at*
     go_wp2
     go_roundw
     case rel=>exact⟨i+1,N.set p.1 c,by omega,by go_num,HKb.out,QI.out,HB.out.step Hp.out oG.out HNl.out⟩
     case measure=>simp[intOf];omega
    ·obtain rfl:i=j:=by omega
     have hb2:=HM.out.aH
     have hf2:=HM.out.blk.frozen 2
     have hN:N=YN k there i:=by
      have h1:=HB.out
      have h2:=Hmm.out
      rw[h2]at h1⊢
      exact h1.all
     have hfin:QF f (wr.setCell ⟨b,2,none⟩ (.slice none 0 0)) b bn bs cn cs (.slice none 0 0) (k.settle there):=by
      have h1:=HM.out.drop
      rw[hN,Hmm.out,Dr]at h1
      exact h1
     have QI:=χ hfin
     clear hfin hN
     go_wp2
     go_end0
     exact⟨rfl,HK.out.trans (Kept.Y4 (row:=some b) (S:=foot b bn bs (.slice bu k.un.length cu)) (ZT (qaH wr _) 2 _) (by rintro _ h;injection h with h;exact .inl h.symm)) (fun i hi=>.inl hi),QI.out⟩
theorem FZ(w:qag)(b bn bs cn cs:Nat)(k:Dk α)(there:Nat)(hm:QF f w b bn bs cn cs (.slice none 0 0) k)(hu:k.un=[]):
  qaN Tryz.prog 94 #[.pointer b,.int .u64 there] w fun e w'=>e=.returned (.tuple #[])/\Kept (foot b bn bs (.slice none 0 0)) w w'/\QF f w' b bn bs cn cs (.slice none 0 0) (k.settle there):=by
 have h2:=hm.aH
 have f2:=hm.blk.frozen 2
 have hfin:QF f (w.setCell ⟨b,2,none⟩ (.slice none 0 0)) b bn bs cn cs (.slice none 0 0) (k.settle there):=by
  have h1:=hm.drop
  have e1:k.now=k.safe:=by simp[Dk.now,hu,puts]
  have e2:(k.settle there).safe=k.safe:=by simp[Dk.settle,hu,kept,puts]
  have e3:(k.settle there).now=k.safe:=by simp[Dk.now,Dk.settle,hu,kept,puts]
  unfold QF
  rw[e2,e3,<-e1]
  rw[<-e1]at h1
  exact h1
 have QI:=χ hfin
 clear hfin hm hu
 go_enter Tryz.func94,Tryz.ntmps94
 go_wp2
 go_loopw [13] (fun i wr=>i=.int .i64 0/\wr=w) (fun _ _=>0)
 case atStart=>exact⟨rfl,rfl⟩
 case round=>
  obtain⟨rfl,rfl⟩:=hrel
  go_wp2
  go_loopw [39] (fun i wq=>i=.int .i64 0/\wq=wr) (fun _ _=>0)
  case atStart=>exact⟨rfl,rfl⟩
  case round=>
   obtain⟨rfl,rfl⟩:=hrel
   go_wp2
   go_end0
   exact⟨rfl,Kept.Y4 (row:=some b) (ZT (qaH _ _) 2 _) (by rintro _ h;injection h with h;exact .inl h.symm),QI.out⟩
theorem Dn(hf:Enc f)(w:qag)(b bn bs cn cs:Nat)(vu:qaj)(k:Dk α)(there:Nat)(ht:there<18446744073709551616)(hun:k.un.length<=1073741824)(hm:QF f w b bn bs cn cs vu k):
  qaN Tryz.prog 94 #[.pointer b,.int .u64 there] w fun e w'=>e=.returned (.tuple #[])/\Kept (foot b bn bs vu) w w'/\QF f w' b bn bs cn cs (.slice none 0 0) (k.settle there):=by
 rcases hm.zH with⟨rfl,h⟩|⟨bu,cu,rfl,h⟩
 ·exact FZ w b bn bs cn cs k there hm (by simpa using h)
 ·rw[List.length_map]at hm⊢
  exact F6 hf w b bn bs cn cs bu cu k there ht hun hm
theorem rf(i:Nat)(l:List (Nat × α)):kept 18446744073709551615 i l=l:=by
 induction l generalizing i with
 |nil=>rfl
 |cons p l ih=>
  have:(18446744073709551615:Nat).testBit (i%64)=true:=by
   rw[show(18446744073709551615:Nat)=2^64-1 from rfl,Nat.testBit_two_pow_sub_one]
   simp
   omega
  simp only[kept,this,if_true,ih]
theorem qZ(h:foot b bn bs (.slice none 0 0) i):foot b bn bs vu i:=by
 rcases h with h|h|h|h
 ·exact .inl h
 ·exact .inr (.inl h)
 ·exact .inr (.inr (.inl h))
 ·cases h
theorem LB(hf:Enc f)(w:qag)(S:Nat->Prop)(b:Nat)(k:Dk α)(h:Zv f w S b k)(hun:k.un.length<=1073741824):
  qaN Tryz.prog 115 #[.pointer b] w fun e w'=>e=.returned (.int .i64 (if k.off then 6 else 0))/\Turned f S w w' b k.flush:=by
 obtain⟨bn,bs,cn,cs,vu,rfl,hm⟩:=h
 have Hm:=χ hm
 clear hm
 cases hoff:k.off
 ·have QH:=χ hoff
  have hr:Hid (k.flush=k.op.settle 18446744073709551615):=by
   unfold Hid Dk.flush Dk.settle
   rw[hoff,if_neg (by decide),rf]
   simp[Dk.now,Dk.Uh,Dk.O7]
  rw[hr.out]
  clear hoff hr
  go_enter Tryz.func115,Tryz.ntmps115
  go_wp2_with (first
   |(go_at_call 190;refine(jk _ _ _ _ _ _ _ _ Hm.out QH.out).mono ?_;rintro e w1 ⟨rfl,hg,hop⟩;replace hop:=χ hop;replace hg:=χ hg)
   |(go_at_call 94;refine(Dn hf _ _ _ _ _ _ _ _ 18446744073709551615 (by decide) (by rw[Dk.O7];exact hun) hop.out).mono ?_;rintro e w2 ⟨rfl,hK,hM⟩;replace hK:=χ hK;replace hM:=χ hM))
  go_ret
  exact⟨rfl,(Kept.Y4 (S:=foot b bn bs vu) hg.out (by rintro _ h;injection h with h;exact .inl h.symm)).trans hK.out (fun i hi=>.inl hi),_,⟨bn,bs,cn,cs,_,rfl,hM.out⟩,fun i hi=>.inl (qZ hi)⟩
 ·have QH:=χ hoff
  have hr:Hid (k.flush=k.op):=by
   unfold Hid Dk.flush
   rw[hoff,if_pos rfl]
  rw[hr.out]
  clear hoff hr
  go_enter Tryz.func115,Tryz.ntmps115
  go_wp2_with (go_at_call 190;refine(qY _ _ _ _ _ _ _ _ Hm.out QH.out).mono ?_;rintro e w1 ⟨rfl,hg,hop⟩;replace hop:=χ hop;replace hg:=χ hg)
  go_ret
  exact⟨rfl,Kept.Y4 (S:=foot b bn bs vu) hg.out (by rintro _ h;injection h with h;exact .inl h.symm),_,⟨bn,bs,cn,cs,_,rfl,hop.out⟩,fun i hi=>.inl hi⟩
end
end
end Go.Proofs.YtmehhgfbnfbnaaaGreat

namespace Go.Proofs.YtmehhgfbnfbnaaaGreat
open Go.RowKit
attribute [local go_sem↓] Go.wp_at_zero Go.wp_at_succ
end Go.Proofs.YtmehhgfbnfbnaaaGreat

namespace Go.Proofs.YtmehhgfbnfbnaaaGreat
open Go.RowKit
attribute [local go_sem↓] Go.wp_at_zero Go.wp_at_succ
end Go.Proofs.YtmehhgfbnfbnaaaGreat
