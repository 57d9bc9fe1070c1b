import Derived.Test.YtmehhgfbnfbnaaaGreatQF
import Derived.Test.YtmehhgfbnfbnaaaGreatQTk
import Derived.Deep.MidRow
import Derived.Deep.AppendLies
import Derived.Test.YtmehhgfbnfbnaaaGreatRows
import Derived.WalkKit
import Derived.WalkSpells
import Derived.BigQuiet
import Derived.Deep.QuietTactic
import Derived.Lib.Hide
import Derived.Deep.RegionHeld3
import Derived.Deep.WholeRow
import Derived.Deep.DrawnRows
import Derived.RegionTactic
import Derived.BigRegion
set_option maxRecDepth 100000
set_option maxHeartbeats 25600000
open Go renaming Value->qaa,World->qac,heap_alloc_new->qan
open List renaming getElem?_eq_some_iff->qab,getElem?_eq_getElem->qad,getElem?_append_left->qag,flatten_cons->qah,mem_iff_getElem?->qai,replicate->qal,getElem?_append_right->qam,getElem?_eq_none->qao
open Nat renaming mul_le_mul_right->qae,add_mul->qaf,le_refl->qaj,lt_or_ge->qak
namespace Go.Proofs.YtmehhgfbnfbnaaaGreat
theorem zx0{P:Prop}(h:P:=by
 clear hm
 by_cases hs:0<=s
 ·by_cases hn:s<n
  ·go_enter Tryz.func189,Tryz.ntmps189
   go_wp2
   go_ret
   simp[hs,hn]
  ·go_enter Tryz.func189,Tryz.ntmps189
   go_wp2
   go_ret
   simp[hn]
 ·go_enter Tryz.func189,Tryz.ntmps189
  go_wp2
  go_ret
  simp
  omega):P:=h
theorem zx1{P:Prop}(h:P:=by
 go_enter Tryz.func116,Tryz.ntmps116
 go_wp2_with (go_at_call 189;refine(Sz _ _ _ _ _ _ _ _ _ _ _ _ _ _ H.out s).mono ?_;rintro e w' ⟨rfl,rfl⟩;rw[Hh.out])
 go_ret
 exact⟨rfl,rfl⟩):P:=h
theorem zx2{P:Prop}(h:P:=by
 go_enter Tryz.func190,Tryz.ntmps190
 go_wp2
 go_ret
 exact⟨rfl,fin _ _ _ _ _ (ZT g0 3 _) (HB.out.set 3 _)⟩):P:=h
theorem zx3{P:Prop}(h:P:=by
 go_enter Tryz.func190,Tryz.ntmps190
 go_wp2
 go_ret
 exact⟨rfl,fin _ _ _ _ _ g0 HB.out⟩):P:=h
end Go.Proofs.YtmehhgfbnfbnaaaGreat
namespace Go.Proofs.YtmehhgfbnfbnaaaGreat
open Go.RowKit
section
variable {size:Nat}
theorem Td:∀{L:List (List qaa)},(∀c∈L,c.length=size)->L.flatten.length=L.length*size
 |[],_=>by simp
 |c::r,h=>by
  have h1:=h c (by simp)
  have h2:=Td (L:=r) fun c hc=>h c (by simp[hc])
  simp only[qah,List.length_append,List.length_cons,h1,h2,qaf]
  omega
theorem flat_get:∀{L:List (List qaa)},(∀c∈L,c.length=size)->∀{i j:Nat}{c:List qaa}{u:qaa},L[i]? =some c->c[j]? =some u->L.flatten[i*size+j]? =some u
 |[],_,i,j,c,u,hi,_=>by simp at hi
 |d::r,h,i,j,c,u,hi,hj=>by
  have h1:=h d (by simp)
  cases i with
  |zero=>
   simp only[List.getElem?_cons_zero,Option.some.injEq]at hi
   subst hi
   have hlt:j<d.length:=(qab.1 hj).1
   rw[Nat.zero_mul,Nat.zero_add,qah,qag hlt,hj]
  |succ i=>
   simp only[List.getElem?_cons_succ]at hi
   have:=flat_get (L:=r) (fun c hc=>h c (by simp[hc])) hi hj
   rw[qah,qam (by rw[h1,qaf];omega),h1]
   have e:(i+1)*size+j-size=i*size+j:=by rw[qaf];omega
   rw[e,this]
theorem Jl(hs:0<size):∀{L:List (List qaa)},(∀c∈L,c.length=size)->∀{k:Nat}{u:qaa},L.flatten[k]? =some u->∃i j c,k=i*size+j/\j<size/\L[i]? =some c/\c[j]? =some u
 |[],_,k,u,hk=>by simp at hk
 |d::r,h,k,u,hk=>by
  have h1:=h d (by simp)
  rw[qah]at hk
  rcases qak k d.length with hlt|hge
  ·rw[qag hlt]at hk
   exact⟨0,k,d,by omega,by omega,rfl,hk⟩
  ·rw[qam hge]at hk
   obtain⟨i,j,c,e,hj,hi,hc⟩:=Jl hs (L:=r) (fun c hc=>h c (by simp[hc])) hk
   exact⟨i+1,j,c,by rw[qaf];omega,hj,by simpa using hi,hc⟩
structure Row(w:qac)(g:Nat)(e:TypeId)(size cap:Nat)(L:List (List qaa)):Prop where
 blk:∃cur:Array qaa,w.heap[g]? =some (.cells cur e (0,0))/\cur.size=cap*size
 le:L.length<=cap
 max:cap<=maxLen
 elem:∀i c,L[i]? =some c->c.length=size/\(∀u∈c,u.oneCell'=true)/\w.rangeAt g (i*size) c
end
section
variable {w w':qac}{g cap size:Nat}{e:TypeId}{L:List (List qaa)}
section
variable {i:Nat}
theorem Row.lt (h:Row w g e size cap L):g<w.heap.size:=by
 obtain⟨cur,hc,_⟩:=h.blk
 rcases qak g w.heap.size with hlt|hge
 ·exact hlt
 ·rw[Array.getElem?_eq_none hge]at hc;cases hc
theorem ZO{b o:Nat}{cs:List qaa}(h:w.rangeAt b o cs)(hb:w'.heap[b]? =w.heap[b]?):w'.rangeAt b o cs:=fun j v hv=>
 (qac.cell?_of_block (a:=⟨b,o+j,none⟩) hb).trans (h j v hv)
theorem Row.keep (h:Row w g e size cap L)(hb:w'.heap[g]? =w.heap[g]?):Row w' g e size cap L:=by
 obtain⟨⟨cur,h1,h2⟩,h3,h4,h5⟩:=h
 exact⟨⟨cur,hb.trans h1,h2⟩,h3,h4,fun i c hc=>⟨(h5 i c hc).1,(h5 i c hc).2.1,ZO (h5 i c hc).2.2 hb⟩⟩
theorem Row.lens (h:Row w g e size cap L):∀c∈L,c.length=size:=fun c hc=>by
 obtain⟨i,hi⟩:=qai.1 hc
 exact(h.elem i c hi).1
theorem Row.there (h:Row w g e size cap L)(hi:i<L.length):w.there g (i*size) size:=fun j hj=>by
 obtain⟨cur,h1,h2⟩:=h.blk
 obtain⟨hl,_,hr⟩:=h.elem i _ (qad hi)
 have hj':j<(L[i]).length:=by omega
 refine⟨by rw[hr j _ (qad hj')];rfl,?_⟩
 simp[qac.frozen?,h1]
theorem M4(g:Nat)(vs:List qaa):∀(o:Nat)(w:qac)(cur:Array qaa)(e:TypeId),w.heap[g]? =some (.cells cur e (0,0))->∃cur':Array qaa,(w.setCells g o vs).heap[g]? =some (.cells cur' e (0,0))/\cur'.size=cur.size:=by
 induction vs with
 |nil=>exact fun o w cur e h=>⟨cur,h,rfl⟩
 |cons v r ih=>
  intro o w cur e h
  obtain⟨c',h1,h2⟩:=ih (o+1) (w.setCell ⟨g,o,none⟩ v) (cur.setIfInBounds o v) e (heap_setCell_same w g o cur e v h)
  exact⟨c',h1,by simpa using h2⟩
theorem ZJ(g:Nat)(vs:List qaa):∀(o:Nat)(w:qac)(k:Nat),k≠g->(w.setCells g o vs).heap[k]? =w.heap[k]? :=by
 induction vs with
 |nil=>exact fun o w k h=>rfl
 |cons v r ih=>exact fun o w k h=>(ih (o+1) _ k h).trans (Below.heap_setCell w _ v k h)
theorem setCells_size(g:Nat)(vs:List qaa):∀(o:Nat)(w:qac),(w.setCells g o vs).heap.size=w.heap.size:=by
 induction vs with
 |nil=>exact fun o w=>rfl
 |cons v r ih=>exact fun o w=>(ih (o+1) _).trans (by simp[qac.setCell])
theorem UK(g:Nat)(vs:List qaa):∀(o:Nat)(w:qac),(w.setCells g o vs).os=w.os/\(w.setCells g o vs).tape=w.tape/\(w.setCells g o vs).output=w.output:=by
 induction vs with
 |nil=>exact fun o w=>⟨rfl,rfl,rfl⟩
 |cons v r ih=>exact fun o w=>ih (o+1) (w.setCell ⟨g,o,none⟩ v)
theorem Vr(w:qac)(g o:Nat)(vs:List qaa):w.grownBy (w.setCells g o vs) (some g):=
 ⟨(UK g vs o w).1,(UK g vs o w).2.1,(UK g vs o w).2.2,by rw[setCells_size];exact qaj _,fun k _ hne=>ZJ g vs o w k fun h=>hne (by rw[h])⟩
theorem Row.set (h:Row w g e size cap L)(hi:i<L.length){c:List qaa}(hc:c.length=size)(h1:∀u∈c,u.oneCell'=true):Row (w.setCells g (i*size) c) g e size cap (L.set i c):=by
 have ht:=h.there hi
 obtain⟨⟨cur,hb,hs⟩,h3,h4,h5⟩:=h
 obtain⟨cur',hb',hs'⟩:=M4 g c (i*size) w cur e hb
 refine⟨⟨cur',hb',by omega⟩,by simpa using h3,h4,fun k d hd=>?_⟩
 rw[List.getElem?_set]at hd
 by_cases hik:i=k
 ·subst hik
  rw[if_pos rfl,if_pos hi]at hd
  obtain rfl:c=d:=by simpa using hd
  exact⟨hc,h1,qac.rangeAt_setCells_same _ _ _ _ (by rw[hc];exact ht)⟩
 ·rw[if_neg hik]at hd
  obtain⟨a1,a2,a3⟩:=h5 k d hd
  refine⟨a1,a2,qac.rangeAt_setCells_apart a3 _ _ _ (.inr ?_)⟩
  rw[a1,hc]
  rcases qak k i with hlt|hge
  ·left
   have:(k+1)*size<=i*size:=qae _ hlt
   rw[qaf]at this;omega
  ·right
   have:(i+1)*size<=k*size:=qae _ (by omega)
   rw[qaf]at this;omega
theorem Row.owns (h:Row w g e size cap L):w.ownsRow 0 e size (.slice g L.length cap) L.length L.flatten:=by
 have hl:=Td h.lens
 obtain⟨⟨cur,hb,hs⟩,h3,h4,h5⟩:=h
 refine⟨hl,.inr ⟨g,cap,cur,rfl,Nat.zero_le _,hb,h3,h4,hs,?_⟩⟩
 have hle:L.length*size<=cap*size:=qae _ h3
 apply List.ext_getElem?
 intro k
 rcases qak k (L.length*size)with hk|hk
 ·have hs0:0<size:=by
   rcases Nat.eq_zero_or_pos size with h0|h0
   ·rw[h0]at hk;simp at hk
   ·exact h0
  have hk':k<L.flatten.length:=by omega
  obtain⟨i,j,c,e1,hj,hi,hc⟩:=Jl hs0 (fun c hc=>by
   obtain⟨i,hi⟩:=qai.1 hc
   exact(h5 i c hi).1) (qad hk')
  rw[List.getElem?_take,if_pos hk,qad hk',<-(h5 i c hi).2.2 j _ hc,e1,cell_of_row w g _ cur e (0,0) hb]
  simp
 ·rw[qao (by simp;omega),qao (by omega)]
theorem Row.Bh {n:Nat}{base:Nat}(h:w.ownsRow base e size (.slice g n cap) n L.flatten)(hn:n=L.length)(hl:∀c∈L,c.length=size)(h1:∀c∈L,∀u∈c,u.oneCell'=true):Row w g e size cap L:=by
 subst hn
 have hat:=fun j hj=>qac.ownsRow.cellAt h j hj
 rcases h.2 with⟨hv,_⟩|⟨g',cap',cur,hv,_,hb,hc1,hc2,hc3,hc4⟩
 ·cases hv
 ·cases hv
  refine⟨⟨cur,hb,hc3⟩,hc1,hc2,fun i c hi=>?_⟩
  have hm:=qai.2 ⟨i,hi⟩
  refine⟨hl c hm,h1 c hm,fun j u hu=>?_⟩
  have hi':i<L.length:=(qab.1 hi).1
  have hj':j<c.length:=(qab.1 hu).1
  have hcl:=hl c hm
  have:(i+1)*size<=L.length*size:=qae _ hi'
  rw[hat _ (by rw[qaf]at this;omega),flat_get hl hi hu]
end
end
theorem Jk{L:List (List qaa)}(h:∀c∈L,∀u∈c,u.oneCell'=true):∀u∈L.flatten,u.oneCell'=true:=fun u hu=>by
 obtain⟨c,hc,hu⟩:=List.mem_flatten.1 hu
 exact h c hc u hu
structure Dk(α:Type) where
 safe:List α
 un:List (Nat × α)
 dead:Bool
 cut:Bool
 left:Int
 done:Int
def puts{α:Type}(L:List α)(l:List (Nat × α)):List α:=l.foldl (fun L p=>L.set p.1 p.2) L
section
variable {α:Type}
theorem Xa(L:List α):puts L []=L:=rfl
theorem XJ(L:List α)(p:Nat × α)(l:List (Nat × α)):puts L (p::l)=puts (L.set p.1 p.2) l:=rfl
theorem UX(L:List α)(l m:List (Nat × α)):puts L (l++m)=puts (puts L l) m:=List.foldl_append ..
theorem Yn(L:List α)(l:List (Nat × α)):(puts L l).length=L.length:=by
 induction l generalizing L with
 |nil=>rfl
 |cons p l ih=>rw[XJ,ih,List.length_set]
def Dk.now (k:Dk α):List α:=puts k.safe k.un
def Dk.has (k:Dk α)(s:Int):Bool:=decide (0<=s)&&decide (s<(k.safe.length:Int))
def Dk.off (k:Dk α):Bool:=k.dead||(k.cut&&decide (k.left=0))
def Dk.op (k:Dk α):Dk α:=if k.off then{k with dead:=true}else{k with left:=if k.cut then wrap64 (k.left-1)else k.left,done:=wrap64 (k.done+1)}
def kept(there:Nat):Nat->List (Nat × α)->List (Nat × α)
 |_,[]=>[]
 |i,p::l=>if there.testBit (i%64)then p::kept there (i+1) l else kept there (i+1) l
def Dk.settle (there:Nat)(k:Dk α):Dk α:={k with safe:=puts k.safe (kept there 0 k.un),un:=[]}
def Dk.wrote (k:Dk α)(s:Nat)(c:α):Dk α:={k.op with un:=k.un++[(s,c)]}
def Dk.flush (k:Dk α):Dk α:=if k.off then k.op else{k.op with safe:=k.now,un:=[]}
def Dk.Gi (k:Dk α)(there:Nat):Dk α:={k.settle there with dead:=false,cut:=false}
def Dk.fresh (n:Nat)(z:α):Dk α:=⟨qal n z,[],false,false,0,0⟩
theorem Dk.Uh (k:Dk α):k.op.safe=k.safe:=by unfold Dk.op;split<;>rfl
theorem Dk.O7 (k:Dk α):k.op.un=k.un:=by unfold Dk.op;split<;>rfl
end
section
variable {w:qac}{L:List (List qaa)}{α:Type}{vu:qaa}{e:TypeId}
structure Enc{α:Type}(f:α->List qaa):Prop where
 len:∀a,(f a).length=65
 one:∀a,∀u∈f a,u.oneCell'=true
def TR(f:α->List qaa)(p:Nat × α):List qaa:=.int .i64 p.1::f p.2
def Md(w:qac)(vu:qaa)(L:List (List qaa)):Prop:=
 (vu=.slice none 0 0/\L=[])\/∃bu cu,vu=.slice (some ⟨bu,0,none⟩) L.length cu/\Row w bu 231 66 cu L
structure Mem{α:Type}(f:α->List qaa)(w:qac)(b bn bs cn cs:Nat)(vu:qaa)(now safe:List α)(un:List (Nat × α))(dead cut:Bool)(left done:Int):Prop where
 blk:Bk w b 156 [.slice bn now.length cn,.slice bs safe.length cs,vu,dead,cut,left,done]
 Tw:Row w bn 178 65 cn (now.map f)
 U8:Row w bs 178 65 cs (safe.map f)
 zH:Md w vu (un.map (TR f))
 ne:bn≠bs
 len:now.length=safe.length
 idx:∀p∈un,p.1<safe.length
def foot(b bn bs:Nat)(vu:qaa)(i:Nat):Prop:=i=b\/i=bn\/i=bs\/vu.ownBlock=some i
def Zv(f:α->List qaa)(w:qac)(S:Nat->Prop)(b:Nat)(k:Dk α):Prop:=
 ∃bn bs cn cs vu,S=foot b bn bs vu/\Mem f w b bn bs cn cs vu k.now k.safe k.un k.dead k.cut k.left k.done
theorem Md.keep {w':qac}(h:Md w vu L)(hb:∀i,vu.ownBlock=some i->w'.heap[i]? =w.heap[i]?):Md w' vu L:=by
 rcases h with h|⟨bu,cu,rfl,h⟩
 ·exact .inl h
 ·exact .inr ⟨bu,cu,rfl,h.keep (hb bu rfl)⟩
theorem Md.lt (h:Md w vu L){i:Nat}(hi:vu.ownBlock=some i):i<w.heap.size:=by
 rcases h with⟨rfl,_⟩|⟨bu,cu,rfl,h⟩
 ·cases hi
 ·cases hi;exact h.lt
theorem Row.elemType {g cap size:Nat}(h:Row w g e size cap L):∃c,w.heap[g]? =some (.cells c e (0,0)):=by
 obtain⟨cur,h1,_⟩:=h.blk
 exact⟨cur,h1⟩
theorem WK{a b:Nat}{c d:Array qaa}{g:TypeId}(h1:w.heap[a]? =some (.cells c e (0,0)))(h2:w.heap[b]? =some (.cells d g (0,0)))(he:e≠g):a≠b:=by
 rintro rfl
 rw[h1]at h2
 cases h2
 exact he rfl
end
section
variable {α:Type}{f:α->List qaa}{w w':qac}{b bn bs cn cs:Nat}{vu:qaa}{now safe:List α}{un:List (Nat × α)}{dead cut:Bool}{left done:Int}
section
variable {i:Nat}
theorem Mem.xX (h:Mem f w b bn bs cn cs vu now safe un dead cut left done):b≠bn:=by
 obtain⟨c,hc⟩:=h.Tw.elemType
 exact WK h.blk hc (by decide)
theorem Mem.rq (h:Mem f w b bn bs cn cs vu now safe un dead cut left done):b≠bs:=by
 obtain⟨c,hc⟩:=h.U8.elemType
 exact WK h.blk hc (by decide)
theorem Mem.bu (h:Mem f w b bn bs cn cs vu now safe un dead cut left done)(hi:vu.ownBlock=some i):i≠b/\i≠bn/\i≠bs:=by
 rcases h.zH with⟨rfl,_⟩|⟨bu,cu,rfl,hr⟩
 ·cases hi
 ·cases hi
  obtain⟨c,hc⟩:=hr.elemType
  obtain⟨c1,hc1⟩:=h.Tw.elemType
  obtain⟨c2,hc2⟩:=h.U8.elemType
  exact⟨WK hc h.blk (by decide),WK hc hc1 (by decide),WK hc hc2 (by decide)⟩
theorem Mem.keep (h:Mem f w b bn bs cn cs vu now safe un dead cut left done)(hk:∀i,foot b bn bs vu i->w'.heap[i]? =w.heap[i]?):Mem f w' b bn bs cn cs vu now safe un dead cut left done:=
 ⟨(hk b (.inl rfl)).trans h.blk,h.Tw.keep (hk bn (.inr (.inl rfl))),h.U8.keep (hk bs (.inr (.inr (.inl rfl)))),h.zH.keep fun i hi=>hk i (.inr (.inr (.inr hi))),h.ne,h.len,h.idx⟩
theorem Mem.lt (h:Mem f w b bn bs cn cs vu now safe un dead cut left done)(hi:foot b bn bs vu i):i<w.heap.size:=by
 rcases hi with rfl|rfl|rfl|hi
 ·exact h.blk.lt
 ·exact h.Tw.lt
 ·exact h.U8.lt
 ·exact h.zH.lt hi
theorem Mem.own (h:Mem f w b bn bs cn cs vu now safe un dead cut left done)(hg:w.grownBy w' (some b)){FW cut':Bool}{left' done':Int}(hb:Bk w' b 156 [.slice bn now.length cn,.slice bs safe.length cs,vu,FW,cut',left',done']):Mem f w' b bn bs cn cs vu now safe un FW cut' left' done':=by
 have hk:∀i,foot b bn bs vu i->i≠b->w'.heap[i]? =w.heap[i]? :=fun i hi hne=>hg.block i (h.lt hi) (by rintro e;injection e with e;exact hne e)
 exact⟨hb,h.Tw.keep (hk bn (.inr (.inl rfl)) h.xX.symm),h.U8.keep (hk bs (.inr (.inr (.inl rfl))) h.rq.symm),h.zH.keep fun i hi=>hk i (.inr (.inr (.inr hi))) (h.bu hi).1,h.ne,h.len,h.idx⟩
theorem Mem.xW (h:Mem f w b bn bs cn cs vu now safe un dead cut left done):w.cell? ⟨b,0,none⟩=some (.slice bn now.length cn):=h.blk.cell 0
theorem Mem.jm (h:Mem f w b bn bs cn cs vu now safe un dead cut left done):w.cell? ⟨b,1,none⟩=some (.slice bs safe.length cs):=h.blk.cell 1
theorem Mem.aH (h:Mem f w b bn bs cn cs vu now safe un dead cut left done):w.cell? ⟨b,2,none⟩=some vu:=h.blk.cell 2
theorem Mem.jh (h:Mem f w b bn bs cn cs vu now safe un dead cut left done):w.cell? ⟨b,3,none⟩=some (.bool dead):=h.blk.cell 3
theorem Mem.acp (h:Mem f w b bn bs cn cs vu now safe un dead cut left done):w.cell? ⟨b,4,none⟩=some (.bool cut):=h.blk.cell 4
theorem Mem.aaZ (h:Mem f w b bn bs cn cs vu now safe un dead cut left done):w.cell? ⟨b,5,none⟩=some (.int .i64 left):=h.blk.cell 5
theorem Mem.aa0 (h:Mem f w b bn bs cn cs vu now safe un dead cut left done):w.cell? ⟨b,6,none⟩=some (.int .i64 done):=h.blk.cell 6
end
end
structure Kept(S:Nat->Prop)(w w':qac):Prop where
 os:w'.os=w.os
 tape:w'.tape=w.tape
 output:w'.output=w.output
 size:w.heap.size<=w'.heap.size
 block:∀k,k<w.heap.size->¬ S k->w'.heap[k]? =w.heap[k]?
section
variable {S T:Nat->Prop}{w w1 w2:qac}
theorem Kept.refl (S:Nat->Prop)(w:qac):Kept S w w:=⟨rfl,rfl,rfl,qaj _,fun _ _ _=>rfl⟩
theorem Kept.drew (h:Kept S w w1):Kept S w w1.drew:=⟨h.os,h.tape,h.output,h.size,h.block⟩
theorem Kept.Y4 {row:Option Nat}(h:w.grownBy w1 row)(hr:∀k,row=some k->S k):Kept S w w1:=⟨h.os,h.tape,h.output,h.size,fun k hk hs=>h.block k hk fun e=>hs (hr k e.symm)⟩
theorem Kept.of_below (h:Below w.heap.size w w1):Kept S w w1:=⟨h.os,h.tape,h.output,h.size,fun k hk _=>h.block k hk⟩
theorem Kept.trans (h:Kept S w w1)(k:Kept T w1 w2)(hT:∀i,T i->S i\/w.heap.size<=i):Kept S w w2:=
 ⟨k.os.trans h.os,k.tape.trans h.tape,k.output.trans h.output,Nat.le_trans h.size k.size,fun i hi hs=>(k.block i (Nat.lt_of_lt_of_le hi h.size) fun ht=>by
  rcases hT i ht with h1|h1
  ·exact hs h1
  ·omega).trans (h.block i hi hs)⟩
theorem Kept.below {B:Nat}(h:Kept S w w1)(hS:∀i,S i->B<=i)(hB:B<=w.heap.size):Below B w w1:=
 ⟨h.os,h.tape,h.output,h.size,fun k hk=>h.block k (by omega) fun hs=>by have:=hS k hs;omega⟩
end
section
variable {α:Type}{w w':qac}{S:Nat->Prop}{b:Nat}
def Turned(f:α->List qaa)(S:Nat->Prop)(w w':qac)(b:Nat)(k:Dk α):Prop:=
 Kept S w w'/\∃S',Zv f w' S' b k/\∀i,S' i->S i\/w.heap.size<=i
theorem Zv.lt {f:α->List qaa}{k:Dk α}(h:Zv f w S b k){i:Nat}(hi:S i):i<w.heap.size:=by
 obtain⟨bn,bs,cn,cs,vu,rfl,hm⟩:=h
 exact hm.lt hi
theorem Zv.keep {f:α->List qaa}{k:Dk α}(h:Zv f w S b k)(hk:∀i,S i->w'.heap[i]? =w.heap[i]?):Zv f w' S b k:=by
 obtain⟨bn,bs,cn,cs,vu,rfl,hm⟩:=h
 exact⟨bn,bs,cn,cs,vu,rfl,hm.keep hk⟩
theorem Zv.below {f:α->List qaa}{k:Dk α}(h:Zv f w S b k)(hb:Below w.heap.size w w'):Zv f w' S b k:=h.keep fun _ hi=>hb.block _ (h.lt hi)
end
end Go.Proofs.YtmehhgfbnfbnaaaGreat

namespace Go.Proofs.YtmehhgfbnfbnaaaGreat
open Go.RowKit
section
variable {α:Type}{f:α->List qaa}
theorem XF(w:qac)(S:Nat->Prop)(b:Nat)(k:Dk α)(s:Int)(h:Zv f w S b k):
  Calls Tryz.prog 189 #[.pointer b,s] w fun e w'=>e=.returned (.bool (k.has s))/\w=w':=by
 obtain⟨bn,bs,cn,cs,vu,rfl,hm⟩:=h
 have h0:=hm.xW
 rw[hm.len]at h0
 unfold Dk.has
 generalize k.safe.length=n at*
 exact zx0
theorem qX(w:qac)(b bn bs cn cs:Nat)(vu:qaa)(now safe:List α)(un:List (Nat × α))(dead cut:Bool)(left done:Int)(hm:Mem f w b bn bs cn cs vu now safe un dead cut left done):
  Calls Tryz.prog 190 #[.pointer b] w fun e w'=>e=.returned (.bool (!(dead||(cut&&decide (left=0)))))/\w.grownBy w' (some b)/\
   (if (dead||(cut&&decide (left=0)))=true then Mem f w' b bn bs cn cs vu now safe un true cut left done else Mem f w' b bn bs cn cs vu now safe un dead cut (if cut then wrap64 (left-1)else left) (wrap64 (done+1))):=by
 have hB:=hm.blk
 have H:=χ hm
 have h3:=hm.jh
 have h4:=hm.acp
 have h5:=hm.aaZ
 have h6:=hm.aa0
 have f3:=hB.frozen 3
 have f5:=hB.frozen 5
 have f6:=hB.frozen 6
 clear hm
 have HB:=χ hB
 clear hB
 have fin:∀(w':qac)(FW cut':Bool)(left' done':Int),w.grownBy w' (some b)->Bk w' b 156 [.slice bn now.length cn,.slice bs safe.length cs,vu,FW,cut',left',done']->
   w.grownBy w' (some b)/\Mem f w' b bn bs cn cs vu now safe un FW cut' left' done':=fun w' _ _ _ _ hg hb=>⟨hg,H.out.own hg hb⟩
 have g0:=qac.grownBy.refl w (some b)
 cases cut
 ·cases dead
  ·go_enter Tryz.func190,Tryz.ntmps190
   go_wp2
   go_ret
   exact⟨rfl,fin _ _ _ _ _ (ZT g0 6 _) (HB.out.set 6 _)⟩
  ·exact zx3
 ·by_cases hl:left=0
  ·subst hl
   cases dead
   ·exact zx2
   ·exact zx2
  ·cases dead
   ·go_enter Tryz.func190,Tryz.ntmps190
    go_wp2
    case inl h=>simp[hl]at h
    go_ret
    refine⟨by simp,?_⟩
    have:=fin _ _ _ _ _ (ZT (ZT g0 5 (.int .i64 (wrap64 (left-1)))) 6 (.int .i64 (wrap64 (done+1)))) ((HB.out.set 5 (.int .i64 (wrap64 (left-1)))).set 6 (.int .i64 (wrap64 (done+1))))
    simpa[hl]using this
   ·exact zx3
theorem Sz(w:qac)(b bn bs cn cs:Nat)(vu:qaa)(now safe:List α)(un:List (Nat × α))(dead cut:Bool)(left done:Int)(hm:Mem f w b bn bs cn cs vu now safe un dead cut left done)(s:Int):
  Calls Tryz.prog 189 #[.pointer b,s] w fun e w'=>e=.returned (.bool (decide (0<=s)&&decide (s<(safe.length:Int))))/\w=w':=by
 have h0:=hm.xW
 rw[hm.len]at h0
 generalize safe.length=n at*
 exact zx0
def Dk.err (k:Dk α)(s:Int):Int:=if k.has s then(if k.dead then 6 else 0)else 1
theorem xU(w:qac)(b bn bs cn cs:Nat)(vu:qaa)(k:Dk α)(hm:Mem f w b bn bs cn cs vu k.now k.safe k.un k.dead k.cut k.left k.done)(s:Int):
  Calls Tryz.prog 116 #[.pointer b,s] w fun e w'=>e=.returned (.int .i64 (k.err s))/\w=w':=by
 have h3:=hm.jh
 have H:=χ hm
 clear hm
 unfold Dk.err Dk.has
 cases hh:(decide (0<=s)&&decide (s<(k.safe.length:Int)))
 ·have Hh:=χ hh
  clear hh
  exact zx1
 ·have Hh:=χ hh
  clear hh
  generalize k.dead=dd at*
  cases dd
  ·exact zx1
  ·exact zx1
theorem Q5(w:qac)(S:Nat->Prop)(b:Nat)(k:Dk α)(h:Zv f w S b k):
  Calls Tryz.prog 49 #[.pointer b] w fun e w'=>e=.returned (.int .i64 k.safe.length)/\w=w':=by
 obtain⟨bn,bs,cn,cs,vu,rfl,hm⟩:=h
 have h3:=hm.xW
 rw[hm.len]at h3
 generalize k.safe.length=n at*
 clear hm
 go_enter Tryz.func49,Tryz.ntmps49
 go_wp2
 go_ret
 exact⟨rfl,rfl⟩
end
end Go.Proofs.YtmehhgfbnfbnaaaGreat

namespace Go.Proofs.YtmehhgfbnfbnaaaGreat
open Go.RowKit
attribute [local go_sem↓] Go.wp_at_zero Go.wp_at_succ
section
variable {α:Type}{f:α->List qaa}
theorem Dj:(Tryz.prog.info? 161).map (·.size)=some 64:=by kernel_rfl
theorem Te:(Tryz.prog.info? 178).map (·.size)=some 65:=by kernel_rfl
theorem M9:(Tryz.prog.info? 231).map (·.size)=some 66:=by kernel_rfl
theorem Ic(w:qac)(S:Nat->Prop)(b:Nat)(k:Dk α)(h:Zv f w S b k)(s:Nat)(c:α)(bs':List qaa)(t:qaa)(hc:k.now[s]? =some c)(hf:f c=bs'++[t])(hl:bs'.length=64)(h1:∀u∈bs',u.oneCell'=true)(hd:k.dead=false):
  Calls Tryz.prog 50 #[.pointer b,s] w fun e w'=>e=.returned (.tuple #[.slice w.heap.size 64 64,()])/\Bk w' w.heap.size 161 bs'/\Below w.heap.size w w':=by
 obtain⟨bn,bs,cn,cs,vu,rfl,hm⟩:=h
 have hs:s<k.now.length:=(qab.1 hc).1
 have he:k.err s=0:=by
  have:=hm.len
  simp[Dk.err,Dk.has,hd]
  omega
 have h0:=hm.xW
 have ht:w.rangeAt bn (s*65) bs':=fun j v hj=>by
  have:=(hm.Tw.elem s (f c) (by rw[List.getElem?_map,hc];rfl)).2.2 j v (by rw[hf,qag (qab.1 hj).1];exact hj)
  exact this
 have hst:∀(c0:Array qaa),c0.size=64->(storeCells ⟨w.heap.size,0,none⟩ bs' 0).run Tryz.prog (w.alloc (.cells c0 161))=.ok () (w.alloc (.cells bs'.toArray 161)):=fun c0 h0=>by
  simpa using run_storeCells_new (P:=Tryz.prog) w 161 c0 bs'.toArray (by rw[Dj];simp[hl]) (by simp[hl,h0]) (all_oneCell_toArray h1)
 have H:=χ hm
 have He:=χ he
 have hs':(s:Int)<(k.now.length:Int):=by omega
 generalize k.now.length=n at*
 clear hm he hc hf hd
 go_enter Tryz.func50,Tryz.ntmps50
 go_wp2_with (first|(refine wpList_load_mid rfl 161 (.tmp 20) rfl bn (s*65) rfl bs' _ ht Tryz.underlying161 rfl (by rw[Dj,hl]) ?_)|(go_at_call 116;refine(xU _ _ _ _ _ _ _ _ H.out s).mono ?_;rintro e w' ⟨rfl,rfl⟩;rw[He.out]))
 go_ret2
 exact⟨rfl,Bk.new w 161 bs',(Below.refl _ w).alloc (qaj _) _⟩
def z65:List qaa:=qal 64 (.int .u8 0)++[.int .u16 0]
theorem qW:Tryz.t178.zero=some (.agg z65.toArray):=by kernel_rfl
theorem row_zero(z:α)(hz:f z=z65)(n:Nat)(hn:n<=4096)(w:qac)(g:Nat)(Z:Array qaa)(hZ:Z=madeCells z65.toArray (n*65))(hg:w.heap[g]? =some (.cells Z 178 (0,0))):Row w g 178 65 n ((qal n z).map f):=by
 have hl:(f z).length=65:=by rw[hz];rfl
 refine⟨⟨Z,hg,by rw[hZ];simp[madeCells]⟩,by simp,by simp[maxLen];omega,fun i c hc=>?_⟩
 rw[List.map_replicate,List.getElem?_replicate]at hc
 split at hc
 ·cases hc
  refine⟨hl,fun u hu=>?_,fun j v hj=>?_⟩
  ·rw[hz]at hu
   simp only[z65,List.mem_append,List.mem_replicate,List.mem_singleton]at hu
   rcases hu with⟨_,rfl⟩|rfl<;>rfl
  ·have hj':j<65:=by have:=(qab.1 hj).1;omega
   rw[cell_of_row w g _ Z 178 (0,0) hg,hZ]
   have hlt:i*65+j<n*65:=by omega
   have hm:(i*65+j)%65=j:=by omega
   rw[hz]at hj
   have e1:(madeCells z65.toArray (n*65))[i*65+j]? =some (z65.toArray[j]!):=by
    unfold madeCells
    rw[Array.getElem?_map,Array.getElem?_range,if_pos hlt]
    simp only[Option.map_some]
    rw[show z65.toArray.size=65 from rfl,hm]
   rw[e1,<-hj]
   simp[hj]
 ·cases hc
theorem M6(z:α)(hz:f z=z65)(n:Nat)(hn:n<=4096)(w:qac)(b g1 g2:Nat)(Z:Array qaa)(hZ:Z=madeCells z65.toArray (n*65))(h1:w.heap[g1]? =some (.cells Z 178 (0,0)))(h2:w.heap[g2]? =some (.cells Z 178 (0,0)))(hne:g1≠g2)
  (hb:Bk w b 156 [.slice g1 n n,.slice g2 n n,.slice none 0 0,false,false,(),()]):Zv f w (foot b g1 g2 (.slice none 0 0)) b (Dk.fresh n z):=
 ⟨g1,g2,n,n,_,rfl,⟨by simpa[Dk.fresh,Dk.now,puts]using hb,row_zero z hz n hn w g1 Z hZ h1,row_zero z hz n hn w g2 Z hZ h2,.inl ⟨rfl,rfl⟩,hne,rfl,fun p hp=>by cases hp⟩⟩
theorem QE(w:qac)(A B C:Obj):(((w.alloc A).alloc B).alloc C).drew.heap[w.heap.size]? =some A/\(((w.alloc A).alloc B).alloc C).drew.heap[w.heap.size+1]? =some B/\(((w.alloc A).alloc B).alloc C).drew.heap[w.heap.size+1+1]? =some C:=by
 have e1:(w.alloc A).heap.size=w.heap.size+1:=by simp
 have e2:((w.alloc A).alloc B).heap.size=w.heap.size+1+1:=by simp
 have n1:=qan (w.alloc A) B
 have n2:=qan ((w.alloc A).alloc B) C
 rw[e1]at n1
 rw[e2]at n2
 have o1:=Below.heap_alloc ((w.alloc A).alloc B) C w.heap.size (by omega)
 have o2:=Below.heap_alloc (w.alloc A) B w.heap.size (by omega)
 have o3:=Below.heap_alloc ((w.alloc A).alloc B) C (w.heap.size+1) (by omega)
 exact⟨o1.trans (o2.trans (qan w A)),o3.trans n1,n2⟩
theorem nH(w:qac)(n:Nat)(hn:n<=4096)(z:α)(hz:f z=z65):
  Calls Tryz.prog 66 #[n] w fun e w'=>∃b S,e=.returned (.tuple #[.pointer (some ⟨b,0,none⟩),()])/\Below w.heap.size w w'/\Zv f w' S b (Dk.fresh n z)/\∀i,S i->w.heap.size<=i:=by
 obtain⟨Z,hZ⟩:∃Z,Z=madeCells z65.toArray (n*65):=⟨_,rfl⟩
 have hmk:∀W:qac,(Instr.makeSlice 153 (.int .i64 n) (.int .i64 n)).run Tryz.prog W=.ok (.slice W.heap.size n n) (W.alloc (.cells Z 178)):=fun W=>by
  rw[hZ]
  exact run_makeSlice W 153 178 Tryz.t178 _ Tryz.underlying153 (by kernel_rfl) qW .i64 .i64 (n:Int) (n:Int) (by omega) (by omega) (by show(n:Int).toNat*65<=_;omega) (by show((66:Nat):Int)*_<=_;omega) (by omega)
 have HZ:=χ hZ
 clear hZ
 have hn1:¬ ((n:Int)<0):=by omega
 have hn2:¬ ((4096:Int)<n):=by omega
 go_enter Tryz.func66,Tryz.ntmps66
 go_wp2
 go_region
 all_goals(go_wp2;go_ret2)
 ·obtain⟨t1,t2,t3⟩:=QE w (.cells Z 178) (.cells Z 178) (.cells #[.slice w.heap.size n n,.slice (some ⟨w.heap.size+1,0,none⟩) n n,.slice none 0 0,false,false,(),()] 156)
  exact⟨w.heap.size+1+1,_,rfl,((((Below.refl _ w).alloc (qaj _) _).alloc (by simp) _).alloc (by simp;omega) _).drew,M6 z hz n hn _ _ w.heap.size (w.heap.size+1) Z HZ.out t1 t2 (by omega) t3,by
   rintro i (rfl|rfl|rfl|h)
   ·omega
   ·omega
   ·omega
   ·cases h⟩
 ·obtain⟨t1,t2,t3⟩:=QE w (.cells Z 178) (.cells Z 178) (.cells #[.slice (some ⟨w.heap.size+1,0,none⟩) n n,.slice w.heap.size n n,.slice none 0 0,false,false,(),()] 156)
  exact⟨w.heap.size+1+1,_,rfl,((((Below.refl _ w).alloc (qaj _) _).alloc (by simp) _).alloc (by simp;omega) _).drew,M6 z hz n hn _ _ (w.heap.size+1) w.heap.size Z HZ.out t2 t1 (by omega) t3,by
   rintro i (rfl|rfl|rfl|h)
   ·omega
   ·omega
   ·omega
   ·cases h⟩
end
end Go.Proofs.YtmehhgfbnfbnaaaGreat
