import Derived.Test.YtmehhgfbnfbnaaaGreatQJrnA
import Derived.Test.YtmehhgfbnfbnaaaGreatQTk
import Derived.WalkMore
import Derived.RangeFuncNested
import Derived.RangeFuncBound
import Derived.RangeFuncCalls
import Derived.RangeFuncLeaves
import Derived.Shelf.Abstract
import Derived.OwnWalkIn
import Derived.TacticsInMore
import Derived.LoopNIn
import Derived.LoopIn
import Derived.BigRegionIn
import Derived.RangeFuncBox
import Derived.RangeFuncFrom
import Derived.Shelf.RegionOpen
import Derived.Deep.AppendLies
set_option maxRecDepth 100000
set_option maxHeartbeats 25600000
open List renaming getElem?_set->qaa,getElem?_eq_some_iff->qaf,getElem?_eq_getElem->qag,nil_append->qak,setIfInBounds_toArray->qal,getElem?_map->qaq,mem_of_mem_take->qar,length_map->qas,length_cons->qaw,range->qaz,length_append->qaA,length_take->qaD,length_set->qaE,mem_iff_getElem?->qaG,length_singleton->qaH,append_toArray->qaL,size_toArray->qaN,push_toArray->qaO,cons_append->qaP,length_nil->qaR,getElem?_append_right->qaT,getElem?_append_left->qaW
open Go.AllReadyIn renaming cons->qab,nil->qad
open Nat renaming le_refl->qac,lt_of_lt_of_le->qao,zero_add->qav,reduceSub->qaY,reduceAdd->qaZ
open Go renaming wpAnyIn_ready->qae,World->qaj,Value->qaC,wpAnyIn_done->qaI,callsIn_wide->qaQ,KeepsOthers->qaU,Calls->qa1
open Go.RowKit.Below renaming refl->qah,heap_setCell->qai
open Go.Value renaming ownBlock->qam,int->qaS
open Option renaming map_eq_some_iff->qan
open Go.RowKit renaming Below->qap
open Go.World renaming putObj_heap_other->qat,block_lt_of_cell?->qau,cell?_of_block->qax,cell?_alloc_lt->qaM
open Go.Builtin renaming append_->qay
open Array renaming getElem?_eq_some_iff->qaB,replicate_zero->qaJ,replicate_succ->qaK
open Go.IntKind renaming wrap_i64->qaF,i64->qaV
open Go.CallsIn renaming inRound->qaX
open Go.Fence renaming wide->qa0
open Go.Region renaming wanted->qa2
namespace Go.Proofs.YtmehhgfbnfbnaaaGreat
theorem zb0{P:Prop}(h:P:=by
 refine hK _ _ ?_
 clear hK K
 refine qae (rs := [2]) (by kernel_rfl) (by simp) ?_
 refine qab (o := _) rfl (fun K hK => ?_) ?_
 · go_simp
   refine ⟨trivial, ?_⟩
   refine (qaX l (qaQ.2 (Bf.out _ ((qah _ _).drew)))).mono ?_
   rintro e2 w4 ⟨v2, rfl, hM2⟩
   have hb4 := χ ((qah _ W).drew.trans hM2.2)
   obtain ⟨g1, cc, rfl, hcc, hg1, hg1', hr1⟩ := Vt hM2 (VP _) (by omega)
   have HR := χ hr1
   have hc4 := (hM2.2.cell (p := ⟨w.heap.size, 0, none⟩) aI.out).trans hc
   have Dg : (w4.alloc (.cells #[(), .slice g1 64 cc, .int .u16 0] 140)).cell? ⟨w.heap.size, 0, none⟩ = some v := (qaM _ _ _ (qau w4 _ hc4)).trans hc4
   clear hM2 hr1
   obtain ⟨U2, g2, cap2, w5, hrun, dR, dQ, hH5, qH, wI, jf⟩ := Held.list (HH.out.below (qah _ _)) jg.out (qac _) hb4.out hg1 hg1' hcc HR.out (by have := wJ.out; omega)
   have OQ := χ hrun
   have Ms := χ hH5
   have Mr := χ qH
   have V9 := χ wI
   have wH := χ jf
   clear hH5 qH wI jf hrun
   gi_wp2
   refine qae (rs := [3]) (by kernel_rfl) (by simp) ?_
   refine qab (o := _) rfl (fun K hK => ?_) ?_
   · go_simp
     refine hK _ _ ?_
     clear hK K
     refine qae (rs := [4]) (by kernel_rfl) (by simp) ?_
     refine qab (o := _) rfl (fun K hK => ?_) ?_
     · go_simp
       refine hK _ _ ?_
       clear hK K
       refine qae (rs := [5]) (by kernel_rfl) (by simp) ?_
       refine qab (o := _) rfl (fun K hK => ?_) ?_
       · refine Yk rfl (.tmp 11) (.tmp 15) 137 rfl rfl rfl OQ.out ?_
         simp only [Act.put, qal]
         refine hK _ _ ?_
         clear hK K
         refine qae (rs := [6]) (by kernel_rfl) (by simp) ?_
         refine qab (o := _) rfl (fun K hK => ?_) ?_
         · go_simp
           refine hK _ _ ?_
           clear hK K
           refine qaI (by kernel_rfl) ?_ _
           obtain ⟨W6, Be⟩ : ∃ W6, W6 = w5.setCell ⟨w.heap.size, 0, none⟩ (.slice g2 (L.length + 1) cap2) := ⟨_, rfl⟩
           rw [<- Be] at Ms Mr V9 wH ⊢
           clear Be hc4 Dg dR dQ OQ hb4 HR
           have Bc : XR W6 (fun i => T i /\ i < w.heap.size) (some ⟨b0, o0 + 15 * x * 3, none⟩) (ints (PT g x)) := HP.out.keep Mr.out.size fun i hi _ => V9.out.block i hi.2
           have c6 := Ms.out.box.cell
           have f6 := Ms.out.box.frozen
           have hL6 : (L ++ [[qaS .i64 0, .slice g1 64 cc, .int .u16 0]]).length = L.length + 1 := by simp
           obtain ⟨U7, M7, g7, lD, w7, lC, WJ, hc7, hf7, hH7, Sy, Qp, Ji⟩ := Ms.out.group (by have := Mr.out.size; have := jg.out; omega) (qac _) Bc e aD.out he0 e (by rw [hL6]; have := wJ.out; omega)
           rw [hL6] at WJ hH7 Sy Qp Ji
           have QD := χ WJ
           have lv := χ hH7
           have lu := χ (Mr.out.trans Sy)
           have PM := χ (wH.out.trans Ji)
           have TG := χ (V9.out.trans Qp)
           clear Bc hL6 hH7 Sy Qp Ji lC WJ
           gi_wp2_with (gi_at_builtin; refine Zm rfl (.tmp 17) (.tmp 18) 137 rfl rfl rfl QD.out ?_)
           refine ⟨lu.out, ⟨PM.out _ _ _ (by decide) (by omega) (HT.out.1.trans FV), PM.out _ _ _ (by decide) (by omega) (HT.out.2.trans FU)⟩, ?_, HB.out.trans TG.out, HT.out.trans ⟨PM.out _ _ _ (by decide) (by omega) (HT.out.1.trans FV), PM.out _ _ _ (by decide) (by omega) (HT.out.2.trans FU)⟩⟩
           rw [Vq]
           exact ⟨_, _, _, lv.out⟩
         exact qad
       exact qad
     exact qad
   exact qad
 exact qad):P:=h
theorem zb1{P:Prop}(h:P:=by
 refine hK _ _ ?_
 clear hK K
 refine qae (rs := [4]) (by kernel_rfl) (by simp) ?_
 refine qab (o := _) rfl (fun K hK => ?_) ?_
 · go_simp
   refine hK _ _ ?_
   clear hK K
   refine qae (rs := [5]) (by kernel_rfl) (by simp) ?_
   refine qab (o := _) rfl (fun K hK => ?_) ?_
   · refine Yk rfl (.tmp 11) (.tmp 15) 137 rfl rfl rfl OQ.out ?_
     simp only [Act.put, qal]
     refine hK _ _ ?_
     clear hK K
     refine qae (rs := [6]) (by kernel_rfl) (by simp) ?_
     refine qab (o := _) rfl (fun K hK => ?_) ?_
     · go_simp
       refine hK _ _ ?_
       clear hK K
       refine qaI (by kernel_rfl) ?_ _
       obtain ⟨W6, Be⟩ : ∃ W6, W6 = w5.setCell ⟨w.heap.size, 0, none⟩ (.slice g2 (L.length + 1) cap2) := ⟨_, rfl⟩
       rw [<- Be] at Ms Mr V9 wH ⊢
       clear Be hc4 Dg dR dQ OQ hb4 HR
       have Bc : XR W6 (fun i => T i /\ i < w.heap.size) (some ⟨b0, o0 + 15 * x * 3, none⟩) (ints (PT g x)) := HP.out.keep Mr.out.size fun i hi _ => V9.out.block i hi.2
       have c6 := Ms.out.box.cell
       have f6 := Ms.out.box.frozen
       have hL6 : (L ++ [[qaS .i64 0, .slice g1 64 cc, .int .u16 0]]).length = L.length + 1 := by simp
       obtain ⟨U7, M7, g7, lD, w7, lC, WJ, hc7, hf7, hH7, Sy, Qp, Ji⟩ := Ms.out.group (by have := Mr.out.size; have := jg.out; omega) (qac _) Bc e aD.out he0 e (by rw [hL6]; have := wJ.out; omega)
       rw [hL6] at WJ hH7 Sy Qp Ji
       have QD := χ WJ
       have lv := χ hH7
       have lu := χ (Mr.out.trans Sy)
       have PM := χ (wH.out.trans Ji)
       have TG := χ (V9.out.trans Qp)
       clear Bc hL6 hH7 Sy Qp Ji lC WJ
       gi_wp2_with (gi_at_builtin; refine Zm rfl (.tmp 17) (.tmp 18) 137 rfl rfl rfl QD.out ?_)
       refine ⟨lu.out, ⟨PM.out _ _ _ (by decide) (by omega) (HT.out.1.trans FV), PM.out _ _ _ (by decide) (by omega) (HT.out.2.trans FU)⟩, ?_, HB.out.trans TG.out, HT.out.trans ⟨PM.out _ _ _ (by decide) (by omega) (HT.out.1.trans FV), PM.out _ _ _ (by decide) (by omega) (HT.out.2.trans FU)⟩⟩
       rw [Vq]
       exact ⟨_, _, _, lv.out⟩
     exact qad
   exact qad
 exact qad):P:=h
end Go.Proofs.YtmehhgfbnfbnaaaGreat
namespace Go.Proofs.YtmehhgfbnfbnaaaGreat
open Go.RowKit
attribute [local go_sem↓] Go.wp_at_zero Go.wp_at_succ
section
variable {c:Sx}{q:Nat}
def UL(c:Sx)(q cnt:Nat):Prop:=(c.b=UA q cnt/\q<18446744073709551616/\cnt<65536)\/(c.b=List.replicate 64 0/\q=0/\cnt=0)
theorem UL.seq {cnt:Nat}(h:UL c q cnt):le ((c.b.drop 0).take 8)=q:=by
 rcases h with⟨h1,h2,_⟩|⟨h1,h2,_⟩
 ·rw[h1,yl q cnt h2]
 ·rw[h1,h2];rfl
theorem UL.cnt {cnt:Nat}(h:UL c q cnt):le ((c.b.drop 8).take 2)=cnt:=by
 rcases h with⟨h1,_,h2⟩|⟨h1,_,h2⟩
 ·rw[h1,yj q cnt h2]
 ·rw[h1,h2];rfl
theorem UL.lt {cnt:Nat}(h:UL c q cnt):q<18446744073709551616/\cnt<65536:=by
 rcases h with⟨_,h1,h2⟩|⟨_,h1,h2⟩
 ·exact⟨h1,h2⟩
 ·omega
end
section
variable {w:qaj}{S T:Nat->Prop}{bj b start n seq:Nat}{k:Dk Sx}
theorem PO(w:qaj)(S:Nat->Prop)(b:Nat)(k:Dk Sx)(h:Zv sx w S b k)(s:Nat)(c:Sx)(hc:k.now[s]? =some c)(hd:k.dead=false):
  qa1 Tryz.prog 50 #[.pointer b,s] w fun e w'=>e=.returned (.tuple #[.slice w.heap.size 64 64,()])/\w'.rangeAt w.heap.size 0 (Z6 c.b)/\w.heap.size<w'.heap.size/\qap w.heap.size w w':=by
 refine(Ic w S b k h s c (Z6 c.b) (.int .u16 c.t) hc rfl (by rw[Z4,c.hb]) (YC _) hd).mono ?_
 rintro e w' ⟨rfl,hB,hb⟩
 exact⟨rfl,fun j v hj=>by rw[qav,hB.cell];exact hj,hB.lt,hb⟩
theorem Ju(hJ:JB w bj b start n seq)(hD:Zv sx w S b k)(Ce:3<=n)(hn:n<=4096)(hd:k.dead=false)(c:Sx)(hc:k.now[start]? =some c)(q cnt:Nat)(hh:UL c q cnt)(hr:cnt<=room n):
  qa1 Tryz.prog 150 #[.pointer bj] w fun e w'=>e=.returned (.tuple #[.int .u64 q,cnt,()])/\qap w.heap.size w w':=by
 have c0:=hJ.cell 0
 have c1:=hJ.cell 1
 have IV:=χ hJ.lt
 have HJ:=χ hJ
 have HD:=χ hD
 have Hd:=χ hd
 have Hc:=χ hc
 have Hh:=χ hh
 have Hr:=χ hr
 clear hJ hD hd hc hh hr
 go_enter Tryz.func150,Tryz.ntmps150
 go_wp2
 go_region_held3 (fun w':qaj=>w'.cell? ⟨bj,0,none⟩=some (.pointer b)/\w'.cell? ⟨bj,1,none⟩=some (.int .i64 start))
  (first|exact⟨c0,c1⟩|assumption)
  (first|(go_at_call 50;(refine(PO w.drew S b k (HD.out.keep fun _ _=>rfl) start c Hc.out Hd.out).mono ?_);rintro e w1 ⟨rfl,hr1,hlt1,hb1⟩;have HR1:=χ hr1;have ab9:=χ hlt1;have HB1:=χ ((qah _ w).drew.trans hb1);have d0:=And.intro ((hb1.cell (p:=⟨bj,0,none⟩) IV.out).trans c0) ((hb1.cell (p:=⟨bj,1,none⟩) IV.out).trans c1);clear hr1 hlt1 hb1))
 clear c0 c1
 have hrd:Rd w1 w1.heap.size (some ⟨w.heap.size,0,none⟩) (Z6 c.b):=.inr ⟨w.heap.size,0,rfl,ab9.out,fun j u hu=>HR1.out j u hu⟩
 have hg1:=J5 c.b (some ⟨w.heap.size,0,none⟩) 64 64 w1.heap.size 0 8 w1 c.hb hrd (by omega) (by omega) (by omega) (by omega) (by omega)
 have hg2:=J5 c.b (some ⟨w.heap.size,0,none⟩) 64 64 w1.heap.size 8 2 w1 c.hb hrd (by omega) (by omega) (by omega) (by omega) (by omega)
 rw[Hh.out.seq]at hg1
 rw[Hh.out.cnt]at hg2
 have hq:=Hh.out.lt.1
 have hcn:=Hh.out.lt.2
 have Hrd:=χ hrd
 have G1:=χ hg1
 have G2:=χ hg2
 have hcv:qaV.wrap (cnt:Int)=(cnt:Int):=by rw[qaF];omega
 obtain⟨zl,hzl⟩:∃zl,zl=List.replicate 64 (0:UInt8):=⟨_,rfl⟩
 have rF:zl.length=64:=by rw[hzl];simp
 have hmk:∀u:qaj,(Instr.makeSlice 37 (.int .i64 64) (.int .i64 64)).run Tryz.prog u=.ok (.slice u.heap.size 64 64) (u.alloc (.cells (Z6 zl).toArray 5)):=fun u=>by
  rw[hzl];exact YD 64 (by omega) u
 have hBz:qap w.heap.size w (w1.alloc (.cells (Z6 zl).toArray 5)):=HB1.out.alloc HB1.out.size _
 have Hrm:=χ (fun W (hW:qap w.heap.size w W)=>Nf W bj b start n seq ((hW.block bj IV.out).trans HJ.out) Ce hn)
 have hz:Rd (w1.alloc (.cells (Z6 zl).toArray 5)) (w1.heap.size+1) (some ⟨w1.heap.size,0,none⟩) (Z6 zl):=by
  have h:=(Bk.new w1 5 (Z6 zl)).rd 64 0
  rw[List.drop_zero,List.take_of_length_le (by rw[Z4,rF];exact qac _),qaj.size_alloc]at h
  exact h
 have Hz:=χ hz
 have Dx:=χ hBz
 have eY:Hid (Rd (w1.alloc (.cells (Z6 zl).toArray 5)) (w1.heap.size+1) (some ⟨w.heap.size,0,none⟩) (Z6 c.b)):=(Hrd.out.below ((qah _ w1).alloc (qac _) _)).more (by omega)
 have hrr:¬ (room n:Int)<(cnt:Int):=by have:=Hr.out;omega
 have Hzl:=χ hzl
 have jq:=χ rF
 clear hrd hg1 hg2 hBz hz hzl rF
 generalize hZ:(Z6 zl).toArray=Z at*
 clear hZ
 cases hzb:(c.b==zl)
 ·have hcb:c.b=UA q cnt:=by
   rcases Hh.out with h|h
   ·exact h.1
   ·rw[h.1,Hzl.out]at hzb;simp at hzb
  have Hcb:=χ hcb
  have Hzb:=χ hzb
  clear hzb hcb
  go_wp2_with fail
  refine G1.out.mono ?_
  rintro e w' ⟨rfl,rfl⟩
  go_wp2_with fail
  refine G2.out.mono ?_
  rintro e w' ⟨rfl,rfl⟩
  go_wp2_with fail
  refine(XO c.b zl _ _ 64 64 64 64 _ _ _ c.hb jq.out eY.out Hz.out).mono ?_
  rintro e w' ⟨rfl,rfl⟩
  rw[Hzb.out]
  go_wp2_with fail
  refine(Nc q cnt hq hcn _).mono ?_
  rintro e w2 ⟨v2,rfl,hM2⟩
  obtain⟨g2,c2,rfl,hc2,hg2,rE,hr2⟩:=Vt hM2 (VQ q cnt) (by omega)
  have ab':Hid (Rd w2 w2.heap.size (some ⟨g2,0,none⟩) (Z6 (UA q cnt))):=.inr ⟨g2,0,rfl,rE,fun j u hu=>hr2 j u hu⟩
  have HB2:=χ (Dx.out.trans (hM2.2.mono Dx.out.size))
  have aca:=χ ((eY.out.more (by simp)).below hM2.2)
  clear hM2 hr2 hc2 hg2 rE
  go_wp2_with fail
  refine(XO c.b (UA q cnt) _ _ 64 64 64 c2 _ _ _ c.hb (VQ q cnt) aca.out ab'.out).mono ?_
  rintro e w' ⟨rfl,rfl⟩
  rw[Hcb.out,beq_self_eq_true]
  go_wp2_with (go_at_call 71;refine(Hrm.out _ HB2.out).mono ?_;rintro e w' ⟨rfl,rfl⟩)
  go_ret3
  exact⟨rfl,HB2.out⟩
 ·have Hzb:=χ hzb
  clear hzb
  go_wp2_with fail
  refine G1.out.mono ?_
  rintro e w' ⟨rfl,rfl⟩
  go_wp2_with fail
  refine G2.out.mono ?_
  rintro e w' ⟨rfl,rfl⟩
  go_wp2_with fail
  refine(XO c.b zl _ _ 64 64 64 64 _ _ _ c.hb jq.out eY.out Hz.out).mono ?_
  rintro e w' ⟨rfl,rfl⟩
  rw[Hzb.out]
  go_wp2_with (go_at_call 71;refine(Hrm.out _ Dx.out).mono ?_;rintro e w' ⟨rfl,rfl⟩)
  go_ret3
  exact⟨rfl,Dx.out⟩
end
end Go.Proofs.YtmehhgfbnfbnaaaGreat

namespace Go.Proofs.YtmehhgfbnfbnaaaGreat
open Go.RowKit
attribute [local go_sem↓] Go.wp_at_zero Go.wp_at_succ
def Gb(N:List Sx)(start i:Nat)(p:Nat × Sx):Prop:=
 ∃cl cb,N[start+1+i/15*16]? =some cl/\N[start+1+i/15*16+1+i%15]? =some cb/\le ((cl.b.drop (2*(i%15)*2)).take 2)=p.1/\le ((cl.b.drop ((2*(i%15)+1)*2)).take 2)=p.2.t/\cb.b=p.2.b
def Nj(N:List Sx)(start:Nat)(l:List (Nat × Sx)):Prop:=∀i p,l[i]? =some p->Gb N start i p
section
variable {w:qaj}{S T:Nat->Prop}{bj b start n seq:Nat}{k:Dk Sx}
section
variable {w:qaj}{n₀ gl j:Nat}{l:List (Nat × Sx)}
theorem Me(hD:Zv sx w S b k)(Ce:3<=n)(hn:n<=4096)(hl:k.safe.length<=4096)(hs:start+n<=k.safe.length):
  qa1 Tryz.prog 149 #[.pointer b,start,n] w fun e w'=>e=.returned (.int .i64 0)/\w=w':=by
 have HD:=χ hD
 obtain⟨m,hm⟩:∃m,m=k.safe.length:=⟨_,rfl⟩
 rw[<-hm]at hl hs
 have Hm:=χ hm
 have h1:¬ (m:Int)-(n:Int)<(start:Int):=by omega
 clear hD hm
 go_enter Tryz.func149,Tryz.ntmps149
 go_wp2_with (go_at_call 49;refine(Q5 _ S b k HD.out).mono ?_;rintro e w' ⟨rfl,rfl⟩;rw[<-Hm.out])
 go_ret
 exact⟨rfl,rfl⟩
theorem Ga(hJ:JB w bj b start n seq)(hD:Zv sx w S b k)(hd:k.dead=false)(hs:start<=4096)(i:Nat)(hi:i<=100000)(p:Nat × Sx)(hL:Gb k.now start i p)(hp:p.1<65536):
  qa1 Tryz.prog 222 #[.pointer bj,i] w fun e w'=>∃g,e=.returned (.tuple #[.agg #[p.1,.slice (some ⟨g,0,none⟩) 64 64,.int .u16 p.2.t],()])/\
   w.heap.size<=g/\g<w'.heap.size/\w'.rangeAt g 0 (Z6 p.2.b)/\qap w.heap.size w w':=by
 have hJa:=(Bk.below hJ ((qah w.heap.size w).alloc (qac _) (.cells #[(),.slice none 0 0,.int .u16 0] 140)) hJ.lt)
 obtain⟨cl,cb,h1,h2,h3,h4,h5⟩:=hL
 obtain⟨s,x⟩:=p
 simp only at h3 h4 h5 hp⊢
 obtain⟨kk,hkk⟩:∃kk,kk=i%15:=⟨_,rfl⟩
 obtain⟨gg,hgg⟩:∃gg,gg=i/15:=⟨_,rfl⟩
 rw[<-hkk]at h2 h3 h4
 rw[<-hgg]at h1 h2
 obtain⟨at_,hat⟩:∃at_,at_=start+1+gg*16:=⟨_,rfl⟩
 have q1:(i:Int)/15=(gg:Int):=by omega
 have q2:(i:Int)%15=(kk:Int):=by omega
 have q3:(start:Int)+1+(gg:Int)*16=(at_:Int):=by omega
 have q4:kk<15:=by omega
 rw[<-hat]at h1 h2
 have q5:at_<=200000:=by omega
 obtain⟨at2,Xi⟩:∃at2,at2=at_+1+kk:=⟨_,rfl⟩
 have q6:(at_:Int)+1+(kk:Int)=(at2:Int):=by omega
 rw[<-Xi]at h2
 have hxt:=x.ht
 obtain⟨t,ht⟩:∃t,t=x.t:=⟨_,rfl⟩
 rw[<-ht]at h4 hxt
 have Hat:=χ Xi
 clear hkk hgg hat Xi
 have c0:=hJa.cell 0
 have c1:=hJa.cell 1
 have IV:=χ hJ.lt
 have hb0:qap w.heap.size w (w.alloc (.cells #[(),.slice none 0 0,.int .u16 0] 140)):=(qah _ _).alloc (qac _) _
 have HDa:=χ (hD.below hb0)
 have HJa:=χ hJa
 have Hb0:=χ hb0
 have hB:=Bk.new w 140 [(),.slice none 0 0,.int .u16 0]
 have HB:=χ hB
 have H1:=χ h1
 have H2:=χ h2
 have H3:=χ h3
 have H4:=χ h4
 have H5:=χ h5
 have Hd:=χ hd
 clear hJ hD hd hJa hb0 hB h1 h2 h3 h4 h5
 have q2':(i:Int).tmod 15=(kk:Int):=by rw[Int.tmod_eq_emod_of_nonneg (by omega)];exact q2
 go_enter Tryz.func222,Tryz.ntmps222
 go_wp2_with fail
 refine(PO _ S b k HDa.out at_ cl H1.out Hd.out).mono ?_
 rintro e w1 ⟨rfl,hr1,hlt1,hb1⟩
 have hsz:(w.alloc (.cells #[(),.slice none 0 0,.int .u16 0] 140)).heap.size=w.heap.size+1:=by simp
 have ltj:bj<(w.alloc (.cells #[(),.slice none 0 0,.int .u16 0] 140)).heap.size:=by have:=IV.out;omega
 have d0:=(hb1.cell (p:=⟨bj,0,none⟩) ltj).trans c0
 have HD1:=χ (HDa.out.below hb1)
 have HB1:Hid (Bk w1 w.heap.size 140 [(),.slice none 0 0,.int .u16 0]):=(hb1.block w.heap.size (by rw[hsz];omega)).trans HB.out
 have HR1:Hid (Rd w1 w1.heap.size (some ⟨w.heap.size+1,0,none⟩) (Z6 cl.b)):=.inr ⟨w.heap.size+1,0,rfl,by rw[<-hsz];exact hlt1,fun j u hu=>by rw[<-hsz];exact hr1 j u hu⟩
 have Hb1:=χ (Hb0.out.trans (hb1.mono Hb0.out.size))
 have hw1:w.heap.size+1<w1.heap.size:=by rw[<-hsz];exact hlt1
 have Hw1:=χ hw1
 clear hr1 hlt1 hb1 c0 c1 ltj hw1
 go_wp2_with fail
 refine(PO w1 S b k HD1.out at2 cb H2.out Hd.out).mono ?_
 rintro e w2 ⟨rfl,hr2,hlt2,hb2⟩
 have HB2:Hid (Bk w2 w.heap.size 140 [(),.slice none 0 0,.int .u16 0]):=(hb2.block w.heap.size (by have:=Hw1.out;omega)).trans HB1.out
 have HR2:=χ ((HR1.out.below hb2).more hb2.size)
 have oF:=χ hr2
 have Hb2:=χ (Hb1.out.trans (hb2.mono Hb1.out.size))
 have ab5:=χ hlt2
 have g1:=J5 cl.b (some ⟨w.heap.size+1,0,none⟩) 64 64 w2.heap.size (2*kk*2) 2 w2 cl.hb HR2.out (by omega) (by omega) (by omega) (by omega) (by omega)
 have g2:=J5 cl.b (some ⟨w.heap.size+1,0,none⟩) 64 64 w2.heap.size ((2*kk+1)*2) 2 w2 cl.hb HR2.out (by omega) (by omega) (by omega) (by omega) (by omega)
 rw[H3.out,show((2*kk*2:Nat):Int)=2*(kk:Int)*2 by omega]at g1
 rw[H4.out,show(((2*kk+1)*2:Nat):Int)=(2*(kk:Int)+1)*2 by omega]at g2
 have G1:=χ g1
 have G2:=χ g2
 have b0:=HB2.out.cell 0
 have b1:=HB2.out.cell 1
 have b2:=HB2.out.cell 2
 have f0:=HB2.out.frozen 0
 have f1:=HB2.out.frozen 1
 have f2:=HB2.out.frozen 2
 have e1:qaV.wrap (s:Int)=(s:Int):=by rw[qaF];omega
 have e2:IntKind.u16.wrap (t:Int)=(t:Int):=by rw[IntKind.wrap_u16];omega
 clear hr2 hlt2 hb2 g1 g2 d0
 go_wp2_with fail
 refine G1.out.mono ?_
 rintro e w' ⟨rfl,rfl⟩
 go_wp2_with fail
 refine G2.out.mono ?_
 rintro e w' ⟨rfl,rfl⟩
 go_wp2_with fail
 refine bodyPost_ret (v:=.tuple #[.agg #[s,.slice w1.heap.size 64 64,.int .u16 x.t],()]) (by simp[results,Tryz.results222,go_sem,b0,b1,b2]) rfl ⟨w1.heap.size,rfl,by have:=Hw1.out;omega,by simp;exact ab5.out,?_,?_⟩
 ·rw[<-H5.out]
  have hg:w1.heap.size≠w.heap.size:=by have:=Hw1.out;omega
  refine ZO oF.out ?_
  exact((qai _ _ _ _ hg).trans (qai _ _ _ _ hg)).trans (qai _ _ _ _ hg)
 ·exact((Hb2.out.setCell (p:=⟨w.heap.size,0,none⟩) (qac _) _).setCell (p:=⟨w.heap.size,1,none⟩) (qac _) _).setCell (p:=⟨w.heap.size,2,none⟩) (qac _) _
def rG(w:qaj)(n₀ gl j:Nat)(l:List (Nat × Sx)):Prop:=
 ∃cs:List qaC,Bk w gl 140 cs/\cs.length=l.length*3/\∀(i:Nat)(p:Nat × Sx),i<j->l[i]? =some p->∃ba,n₀<=ba/\ba≠gl/\ba<w.heap.size/\cs[i*3]? =some (.int .i64 p.1)/\cs[i*3+1]? =some (.slice (some ⟨ba,0,none⟩) 64 64)/\cs[i*3+2]? =some (.int .u16 p.2.t)/\w.rangeAt ba 0 (Z6 p.2.b)
theorem rG.below {w':qaj}(h:rG w n₀ gl j l)(hb:qap w.heap.size w w'):rG w' n₀ gl j l:=by
 obtain⟨cs,h1,h2,h3⟩:=h
 exact⟨cs,(hb.block gl h1.lt).trans h1,h2,fun i p hi hp=>by
  obtain⟨ba,e1,e2,e3,e4,e5,e6,e7⟩:=h3 i p hi hp
  exact⟨ba,e1,e2,qao e3 hb.size,e4,e5,e6,ZO e7 (hb.block ba e3)⟩⟩
theorem rG.set (h:rG w n₀ gl j l)(p:Nat × Sx)(hp:l[j]? =some p)(ba:Nat)(h1:n₀<=ba)(h2:ba≠gl)(h3:ba<w.heap.size)(h4:w.rangeAt ba 0 (Z6 p.2.b)):
  rG (((w.setCell ⟨gl,j*3,none⟩ (.int .i64 p.1)).setCell ⟨gl,j*3+1,none⟩ (.slice ba 64 64)).setCell ⟨gl,j*3+2,none⟩ (.int .u16 p.2.t)) n₀ gl (j+1) l:=by
 obtain⟨cs,e1,e2,e3⟩:=h
 have hj:=(qaf.1 hp).1
 have hkeep:∀b,b≠gl->(((w.setCell ⟨gl,j*3,none⟩ (.int .i64 p.1)).setCell ⟨gl,j*3+1,none⟩ (.slice ba 64 64)).setCell ⟨gl,j*3+2,none⟩ (.int .u16 p.2.t)).heap[b]? =w.heap[b]? :=fun b hb=>
  ((qai _ _ _ _ hb).trans (qai _ _ _ _ hb)).trans (qai _ _ _ _ hb)
 refine⟨_,((e1.set (j*3) _).set (j*3+1) _).set (j*3+2) _,by simpa using e2,fun i q hi hq=>?_⟩
 by_cases hij:i=j
 ·subst hij
  rw[hp]at hq
  cases hq
  refine⟨ba,h1,h2,by simpa using h3,?_,?_,?_,ZO h4 (hkeep ba h2)⟩
  ·rw[qaa,if_neg (by omega),qaa,if_neg (by omega),qaa,if_pos rfl,if_pos (by omega)]
  ·rw[qaa,if_neg (by omega),qaa,if_pos rfl,if_pos (by simp;omega)]
  ·rw[qaa,if_pos rfl,if_pos (by simp;omega)]
 ·obtain⟨b2,f1,f2,f3,f4,f5,f6,f7⟩:=e3 i q (by omega) hq
  refine⟨b2,f1,f2,by simpa using f3,?_,?_,?_,ZO f7 (hkeep b2 f2)⟩
  ·rw[qaa,if_neg (by omega),qaa,if_neg (by omega),qaa,if_neg (by omega)];exact f4
  ·rw[qaa,if_neg (by omega),qaa,if_neg (by omega),qaa,if_neg (by omega)];exact f5
  ·rw[qaa,if_neg (by omega),qaa,if_neg (by omega),qaa,if_neg (by omega)];exact f6
theorem rG.IE (h:rG w n₀ gl l.length l)(hg:n₀<=gl):XR w (fun i=>n₀<=i) (some ⟨gl,0,none⟩) (ints l):=fun i p hp=>by
 rw[ints,qaq,qan]at hp
 obtain⟨q,hq,rfl⟩:=hp
 obtain⟨cs,e1,e2,e3⟩:=h
 obtain⟨ba,f1,f2,f3,f4,f5,f6,f7⟩:=e3 i q (qaf.1 hq).1 hq
 exact⟨gl,0,ba,0,64,rfl,hg,f1,e1.lt,f3,qac _,by rw[qav,e1.cell];exact f4,by rw[qav,e1.cell];exact f5,by rw[qav,e1.cell];exact f6,f7⟩
theorem lU:(Tryz.prog.info? 140).map (fun i=>(i.zero,i.size,i.bytes))=some (some (.agg #[(),.slice none 0 0,.int .u16 0]),3,40):=by kernel_rfl
theorem ym(n:Nat)(h:n<=65536)(u:qaj):∃cs:List qaC,cs.length=n*3/\(Instr.makeSlice 137 (.int .i64 n) (.int .i64 n)).run Tryz.prog u=
  .ok (.slice u.heap.size n n) (u.alloc (.cells cs.toArray 140)):=by
 obtain⟨i0,hi,hz0,hz1,hz2⟩:=info_parts lU
 have hr:=run_make (P:=Tryz.prog) u 137 140 i0 _ Tryz.underlying137 hi hz0 .i64 .i64 (n:Int) (n:Int) (by omega) (Int.le_refl _) (by rw[hz2];omega) (by omega)
 refine⟨(madeCells (qaC.agg #[(),.slice none 0 0,.int .u16 0]).cells (n*i0.size)).toList,by simp[madeCells,hz1],?_⟩
 simp only[Int.toNat_natCast]at hr
 rw[hr]
theorem yo(hJ:JB w bj b start n seq)(hD:Zv sx w S b k)(hd:k.dead=false)(hs:start<=4096)(hn:n<=4096)(l:List (Nat × Sx))(m:Nat)(hm:l.length=m)(hmm:m<=4096)(hL:Nj k.now start l)(hp:∀p∈l,p.1<65536/\Xy k.safe.length start n (p.1:Int)=true):
  qa1 Tryz.prog 151 #[.pointer bj,m] w fun e w'=>∃g,e=.returned (.tuple #[.slice (some ⟨g,0,none⟩) m m,()])/\XR w' (fun i=>w.heap.size<=i) (some ⟨g,0,none⟩) (ints l)/\qap w.heap.size w w':=by
 have IV:=χ hJ.lt
 have H1:=χ (fun W (hW:qap w.heap.size w W) (i:Nat) (hi:i<=100000) p hp' hq=>Ga (i:=i) (p:=p) (hJ.below hW hJ.lt) (hD.below hW) hd hs hi hp' hq)
 have H2:=χ (fun W (hW:qap w.heap.size w W) (s:Int)=>K5 W S bj b start n seq k (hJ.below hW hJ.lt) (hD.below hW) hs hn s)
 have HL:=χ hL
 have Hp:=χ hp
 have Hm:=χ hm
 clear hJ hD hd hL hp hm
 obtain⟨cs,hcl,hmk⟩:=ym m (by omega) w
 go_enter Tryz.func151,Tryz.ntmps151
 have hb0:qap w.heap.size w (w.alloc (.cells cs.toArray 140)):=(qah _ _).alloc (qac _) _
 have Hb0:=χ hb0
 have HG0:Hid (rG (w.alloc (.cells cs.toArray 140)) w.heap.size w.heap.size 0 l):=⟨cs,Bk.new w 140 cs,by rw[hcl,Hm.out],fun i p hi _=>absurd hi (Nat.not_lt_zero _)⟩
 clear hb0 hcl
 go_wp2
 go_step3
 go_wp2
 go_loopw [6,8,13] (fun _ _ i wr=>∃j:Nat,j<=m/\i=.int .i64 j/\rG wr w.heap.size w.heap.size j l/\qap w.heap.size w wr/\w.heap.size<wr.heap.size) (fun _ _ i _=>m-(intOf i).toNat)
 case atStart=>exact⟨0,Nat.zero_le _,rfl,HG0.out,Hb0.out,by simp⟩
 case round=>
  obtain⟨j,hj,rfl,hG,hB,aaI⟩:=hrel
  have HG:=χ hG
  have HB:=χ hB
  clear hG hB
  by_cases hlt:j<m
  ·obtain⟨p,hp⟩:∃p,l[j]? =some p:=⟨_,qag (by rw[Hm.out];exact hlt)⟩
   have Hpj:=χ hp
   have hpv:=Hp.out p (List.mem_of_getElem? hp)
   have h1:=H1.out wr HB.out j (by omega) p (HL.out j p hp) hpv.1
   have htk:=χ hpv.2
   have aaJ:=χ aaI
   have hnext:=χ (fun W ba (hW:rG W w.heap.size w.heap.size j l)=>hW.set p hp ba)
   obtain⟨s,x⟩:=p
   simp only at h1 htk hnext
   obtain⟨t,ht⟩:∃t:Int,t=x.t:=⟨_,rfl⟩
   rw[<-ht]at h1 hnext
   have H1':=χ h1
   clear hp hpv h1 aaI ht
   go_wp2_with fail
   refine H1'.out.mono ?_
   rintro e w1 ⟨ba,rfl,ab6,aaK,hr,hb1⟩
   have hne:ba≠w.heap.size:=by have:=aaJ.out;omega
   obtain⟨cs1,f1,f2,f3⟩:=HG.out.below hb1
   have aK:=χ (HG.out.below hb1)
   have hjl:j*3+2<cs1.length:=by rw[f2,Hm.out];omega
   have z0:∃u,w1.cell? ⟨w.heap.size,j*3,none⟩=some u:=⟨_,(f1.cell (j*3)).trans (qag (by omega))⟩
   have z1:∃u,w1.cell? ⟨w.heap.size,j*3+1,none⟩=some u:=⟨_,(f1.cell (j*3+1)).trans (qag (by omega))⟩
   have z2:∃u,w1.cell? ⟨w.heap.size,j*3+2,none⟩=some u:=⟨_,(f1.cell (j*3+2)).trans (qag (by omega))⟩
   obtain⟨u0,z0⟩:=z0
   obtain⟨u1,z1⟩:=z1
   obtain⟨u2,z2⟩:=z2
   have fz0:=f1.frozen (j*3)
   have fz1:=f1.frozen (j*3+1)
   have fz2:=f1.frozen (j*3+2)
   have aaL:=hnext.out w1 ba aK.out (by have:=HB.out.size;omega) hne aaK hr
   have HB1:=χ ((((HB.out.trans (hb1.mono HB.out.size)).setCell (p:=⟨w.heap.size,j*3,none⟩) (qac _) (.int .i64 s)).setCell (p:=⟨w.heap.size,j*3+1,none⟩) (qac _) (.slice ba 64 64)).setCell (p:=⟨w.heap.size,j*3+2,none⟩) (qac _) (.int .u16 t))
   have HG2:=χ aaL
   have hc3:(((w1.setCell ⟨w.heap.size,j*3,none⟩ (.int .i64 s)).setCell ⟨w.heap.size,j*3+1,none⟩ (.slice ba 64 64)).setCell ⟨w.heap.size,j*3+2,none⟩ (.int .u16 t)).cell? ⟨w.heap.size,j*3,none⟩=some (.int .i64 s):=by
    rw[(((f1.set (j*3) _).set (j*3+1) _).set (j*3+2) _).cell,qaa,if_neg (by omega),qaa,if_neg (by omega),qaa,if_pos rfl,if_pos (by omega)]
   have ab7:w.heap.size<w1.heap.size:=qao aaJ.out hb1.size
   clear f1 f2 f3 hjl hr hb1 aaL ab6 aaK hne
   go_wp2_with fail
   refine(H2.out _ HB1.out (s:Int)).mono ?_
   rintro e w2 ⟨rfl,hb2⟩
   rw[htk.out]
   have HG3:=χ (HG2.out.below hb2)
   have HB3:=χ (HB1.out.trans (hb2.mono HB1.out.size))
   have ab8:w.heap.size<w2.heap.size:=qao (by simpa using ab7) hb2.size
   clear hb2
   go_wp2
   go_roundw
   case rel=>exact⟨j+1,by omega,by go_num,HG3.out,HB3.out,ab8⟩
   case measure=>simp[intOf];omega
  ·obtain rfl:j=m:=by omega
   go_wp2
   rw[Exit.noGoto_ret]
   go_ret2
   refine⟨w.heap.size,rfl,?_,HB.out⟩
   have h:=HG.out
   rw[<-Hm.out]at h
   exact h.IE (qac _)
end
end
end Go.Proofs.YtmehhgfbnfbnaaaGreat

namespace Go.Proofs.YtmehhgfbnfbnaaaGreat
open Go.RowKit Go.Shelf
attribute [local go_sem] Oper.semAt_some
section
variable {B1 B2:Nat}{A B:qaj}
def Two(B1 B2:Nat)(W W':qaj):Prop:=W'.heap[B1]? =W.heap[B1]?/\W'.heap[B2]? =W.heap[B2]?
theorem Two.refl (B1 B2:Nat)(W:qaj):Two B1 B2 W W:=⟨rfl,rfl⟩
theorem Two.trans {C:qaj}(h:Two B1 B2 A B)(k:Two B1 B2 B C):Two B1 B2 A C:=⟨k.1.trans h.1,k.2.trans h.2⟩
theorem Two.drew (h:Two B1 B2 A B):Two B1 B2 A B.drew:=h
theorem Two.one (h:Two B1 B2 A B):B.cell? ⟨B1,0,none⟩=A.cell? ⟨B1,0,none⟩:=qax (a:=⟨B1,0,none⟩) h.1
theorem Two.two (h:Two B1 B2 A B):B.cell? ⟨B2,0,none⟩=A.cell? ⟨B2,0,none⟩:=qax (a:=⟨B2,0,none⟩) h.2
theorem Two.below {B:Nat}{W W':qaj}(h:qap B W W')(h1:B1<B)(h2:B2<B):Two B1 B2 W W':=⟨h.block B1 h1,h.block B2 h2⟩
def Rx(b o m c:Nat):qaC:=.slice (some ⟨b,o+15*c*3,none⟩) (min 15 (m-15*c)) (min 15 (m-15*c))
theorem xS(n:Nat)(hn:1<=n)(l B1 B2 b o m cp:Nat)(hm:m<=1000000)(hcp:m<=cp)(J Jx:List Nat->qaj->Prop)(hJd:∀pre W,J pre W->J pre W.drew)(hY:∀pre x W,J pre W->15*pre.length<m->15*x<m->YieldAt qa0 (n-1) Tryz.prog l #[Rx b o m x] W fun e W'=>
   (e=.returned (.bool true)/\J (pre++[x]) W'/\Two B1 B2 W W')\/(e=.returned (.bool false)/\Jx (pre++[x]) W'))(W:qaj)(h1:W.cell? ⟨B1,0,none⟩=some (.slice (some ⟨b,o,none⟩) m cp))(h2:W.cell? ⟨B2,0,none⟩=some (.int .i64 15))(h0:J [] W):
  CallsIn qa0 n Tryz.prog 252 #[.func (.yield l) #[] #[],.pointer B1,.pointer B2] W fun e W'=>(∃v,e=.returned v)/\
   ((∃ys,ys=qaz ((m+14)/15)/\J ys W')\/(∃pre,True/\Jx pre W')):=by
 refine callsIn_of_wp Tryz.func252 rfl trivial ?_ rfl
 simp only[Tryz.ntmps252,qaN,qaw,qaR,qaZ,qaY,qaK,qaJ,qaO,qaL,qak,qaP]
 gi_wp2
 gi_loopw [4,5] (fun i _ wr=>∃k:Nat,(k=0\/15*(k-1)<m)/\i=.int .i64 ((15*k:Nat):Int)/\J (qaz k) wr/\Two B1 B2 W wr)
  (fun i _ _=>m-(intOf i).toNat)
 case atStart=>exact⟨0,.inl rfl,rfl,h0,Two.refl _ _ _⟩
 case round=>
  obtain⟨k,hk,rfl,hJs,hnx⟩:=hrel
  have c1:=hnx.one.trans h1
  have c2:=hnx.two.trans h2
  obtain⟨i,hi⟩:∃i,i=15*k:=⟨_,rfl⟩
  rw[<-hi]
  have Hi:=χ hi
  have HJ:=χ hJs
  have Hnx:=χ hnx
  have Hk:=χ hk
  clear hi hJs hnx hk
  by_cases hlt:i<m
  ·obtain⟨fn,tmps,assign,body,hy,hR⟩:=hY (qaz k) k wr.drew (hJd _ _ HJ.out) (by rw[List.length_range];have:=Hi.out;omega) (by have:=Hi.out;omega)
   obtain⟨e,he⟩:∃e:Nat,e=min 15 (m-i):=⟨_,rfl⟩
   have hif:(if ((m-i:Nat):Int)<15 then((m-i:Nat):Int)else 15)=(e:Int):=by
    split<;>omega
   have Ta:Rx b o m k=.slice (some ⟨b,o+i*3,none⟩) e e:=by
    unfold Rx
    rw[<-Hi.out,<-he]
   rw[Ta]at hy
   have hei:(i:Int)+(e:Int)<=(m:Int):=by omega
   have he1:0<e:=by omega
   have He:=χ he
   have Hif:=χ hif
   clear Ta he hif
   gi_wp2
   gi_region
   all_goals rw[Hif.out]
   all_goals gi_wp2
   refine hR.mono ?_
   rintro e W3 (⟨rfl,hJ3,hk3⟩|⟨rfl,hJx3⟩)
   ·have c3:=hk3.two.trans c2
    have A1:Hid (J (qaz (k+1)) W3):=by
     show J _ _
     rw[List.range_succ];exact hJ3
    have A2:Hid (Two B1 B2 W W3):=Hnx.out.drew.trans hk3
    clear hJ3 hk3 c1 c2
    have h15:(i:Int)+15=((15*(k+1):Nat):Int):=by have:=Hi.out;omega
    have H15:=χ h15
    clear h15
    gi_wp2
    go_roundw
    case rel=>exact⟨k+1,.inr (by have:=Hi.out;omega),by rw[H15.out],A1.out,A2.out⟩
    case measure=>simp[intOf];omega
   ·gi_wp2
    refine bodyPost_ret (results_none rfl _ _ _) rfl ?_
    exact⟨⟨_,rfl⟩,.inr ⟨_,trivial,hJx3⟩⟩
  ·have hkk:k=(m+14)/15:=by have:=Hi.out;have:=Hk.out;omega
   gi_wp2
   go_end0
   exact⟨⟨_,rfl⟩,.inl ⟨_,by rw[hkk],HJ.out⟩⟩
theorem qI(n:Nat)(A:Option Addr)(m c:Nat)(w:qaj):
  CallsIn qa0 n Tryz.prog 214 #[.slice A m c,.int .i64 15] w fun e w'=>e=.returned (.func (.func 252) #[] #[.pointer w.heap.size,.pointer (some ⟨w.heap.size+1,0,none⟩)])/\
   w'=(w.alloc (.cells #[.slice A m c] 137)).alloc (.cells #[.int .i64 15] 3):=by
 refine callsIn_of_wp Tryz.func214 rfl trivial ?_ rfl
 simp only[Tryz.ntmps214,qaN,qaw,qaR,qaZ,qaY,qaK,qaJ,qaO,qaL,qak,qaP]
 gi_wp2
 go_ret
 exact⟨rfl,rfl⟩
theorem FT(n:Nat)(hn:1<=n)(B1 B2 b o m cp:Nat)(hm:m<=1000000)(hcp:m<=cp)(w:qaj)(hB1:B1<w.heap.size)(hB2:B2<w.heap.size)(h1:w.cell? ⟨B1,0,none⟩=some (.slice (some ⟨b,o,none⟩) m cp))(h2:w.cell? ⟨B2,0,none⟩=some (.int .i64 15)):
  SeqStopsK qa0 n Tryz.prog 252 #[.pointer B1,.pointer B2] (fun x:{c:Nat//15*c<m}=>#[Rx b o m x.1]) (Two B1 B2)
   (fun ys=>ys.map (·.1)=qaz ((m+14)/15)) (fun _=>True) ((m+14)/15) w:=fun l J Jx W hW hJ hJx hY h0=>by
 refine(xS n hn l B1 B2 b o m cp hm hcp (fun ys W=>∃xs:List {c:Nat//15*c<m},xs.map (·.1)=ys/\J xs W) (fun ys W=>∃xs,Jx xs W)
  (fun ys W ⟨xs,h,hj⟩=>⟨xs,h,hJ _ _ W.drew none hj ⟨rfl,rfl,rfl,qac _,fun _ _ _=>rfl⟩ (fun r e=>by cases e)⟩) ?_ W ((hW.cell (p:=⟨B1,0,none⟩) hB1).trans h1) ((hW.cell (p:=⟨B2,0,none⟩) hB2).trans h2) ⟨[],rfl,h0⟩).mono ?_
 ·rintro pre x W1 ⟨xs,hxs,hj⟩ hlen hx
  have hl:xs.length=pre.length:=by rw[<-hxs,qas]
  obtain⟨fn,tmps,assign,body,hy,hR⟩:=hY xs ⟨x,hx⟩ W1 hj (by omega)
  refine⟨fn,tmps,assign,body,hy,hR.mono ?_⟩
  rintro e W' (⟨rfl,h3,h4⟩|⟨rfl,h3⟩)
  ·exact .inl ⟨rfl,⟨xs++[⟨x,hx⟩],by rw[List.map_append,hxs];rfl,h3⟩,h4⟩
  ·exact .inr ⟨rfl,_,h3⟩
 ·rintro e W' ⟨he,⟨ys,rfl,xs,hx,hj⟩|⟨_,_,xs,hj⟩⟩
  ·exact⟨he,.inl ⟨xs,hx,hj⟩⟩
  ·exact⟨he,.inr ⟨xs,trivial,hj⟩⟩
end
end Go.Proofs.YtmehhgfbnfbnaaaGreat

namespace Go.Proofs.YtmehhgfbnfbnaaaGreat
open Go.RowKit Go.Shelf
attribute [local go_sem] Oper.semAt_some
section
variable {W W' w w':qaj}{T U:Nat->Prop}{xs ys:List Sx}{L M:List (List qaC)}{Bs n₀ k b o n c gs:Nat}{v u r:qaC}{cs:List qaC}{x:Sx}{q g:List (Nat × Sx)}{F:Fence}{P:Program}{ops:Array Oper}{a:Act}{Q:Exit->Act->qaj->Prop}{p:Nat × Sx}
theorem dS:(Tryz.prog.info? 140).map (fun i=>(i.zero,i.size,i.bytes))=some (some (.agg #[(),.slice none 0 0,.int .u16 0]),3,40):=by kernel_rfl
def MZ(W:qaj)(T:Nat->Prop)(cs:List qaC)(x:Sx):Prop:=
 ∃s ba oa cp,cs=[.int .i64 s,.slice (some ⟨ba,oa,none⟩) 64 cp,.int .u16 x.t]/\T ba/\ba<W.heap.size/\64<=cp/\W.rangeAt ba oa (Z6 x.b)
def W9(W:qaj)(T:Nat->Prop)(L:List (List qaC))(xs:List Sx):Prop:=L.length=xs.length/\∀(k:Nat)(cs:List qaC)(x:Sx),L[k]? =some cs->xs[k]? =some x->MZ W T cs x
theorem MZ.len (h:MZ W T cs x):cs.length=3:=by
 obtain⟨s,ba,oa,cp,rfl,_⟩:=h;rfl
theorem MZ.one (h:MZ W T cs x):∀u∈cs,u.oneCell'=true:=by
 obtain⟨s,ba,oa,cp,rfl,_⟩:=h
 intro u hu
 simp only[List.mem_cons,List.not_mem_nil,or_false]at hu
 rcases hu with rfl|rfl|rfl<;>rfl
theorem MZ.keep (h:MZ W T cs x)(hs:W.heap.size<=W'.heap.size)(hk:∀a v,W.cell? a=some v->T a.block->W'.cell? a=some v):MZ W' T cs x:=by
 obtain⟨s,ba,oa,cp,h1,h2,h3,h4,h5⟩:=h
 exact⟨s,ba,oa,cp,h1,h2,by omega,h4,fun j v hv=>hk _ _ (h5 j v hv) h2⟩
theorem W9.keep (h:W9 W T L xs)(hs:W.heap.size<=W'.heap.size)(hk:∀a v,W.cell? a=some v->T a.block->W'.cell? a=some v):W9 W' T L xs:=
 ⟨h.1,fun k cs x h1 h2=>(h.2 k cs x h1 h2).keep hs hk⟩
theorem W9.get (h:W9 W T L xs)(hk:L[k]? =some cs):∃x,xs[k]? =some x/\MZ W T cs x:=by
 have hlt:=(qaf.1 hk).1
 obtain⟨x,hx⟩:∃x,xs[k]? =some x:=⟨_,qag (by rw[<-h.1];exact hlt)⟩
 exact⟨x,hx,h.2 k cs x hk hx⟩
theorem W9.lens (h:W9 W T L xs):∀c∈L,c.length=3:=fun c hc=>by
 obtain⟨k,hk⟩:=qaG.1 hc
 obtain⟨x,_,hx⟩:=h.get hk
 exact hx.len
theorem W9.append (h:W9 W T L xs)(h':W9 W T M ys):W9 W T (L++M) (xs++ys):=by
 refine⟨by rw[qaA,qaA,h.1,h'.1],fun k cs x h1 h2=>?_⟩
 rcases Nat.lt_or_ge k L.length with hk|hk
 ·rw[qaW hk]at h1
  rw[qaW (by rw[<-h.1];exact hk)]at h2
  exact h.2 k cs x h1 h2
 ·rw[qaT hk]at h1
  rw[qaT (by rw[<-h.1];exact hk),<-h.1]at h2
  exact h'.2 _ cs x h1 h2
theorem W9.nil (W:qaj)(T:Nat->Prop):W9 W T [] []:=⟨rfl,fun k cs x h=>by simp at h⟩
theorem W9.one (h:MZ W T cs x):W9 W T [cs] [x]:=⟨rfl,fun k cs' x' h1 h2=>by
 cases k with
 |zero=>simp at h1 h2;subst h1;subst h2;exact h
 |succ k=>simp at h1⟩
structure Held(n₀ Bs:Nat)(T U:Nat->Prop)(v:qaC)(L:List (List qaC))(xs:List Sx)(W:qaj):Prop where
 box:Boxed W Bs 137 v
 own:W.ownsRow n₀ 140 3 v L.length L.flatten
 els:W9 W U L xs
 ins:∀i,U i->(T i/\i<n₀)\/n₀<=i
 low:∀i,U i->i<W.heap.size
 lH:¬ U Bs
 qM:∀g,v.ownBlock=some g->¬ U g
def aa1(n₀ Bs:Nat)(T:Nat->Prop)(xs:List Sx)(W:qaj):Prop:=∃U v L,Held n₀ Bs T U v L xs W
theorem qL{β:Type}(n₀ Bs:Nat)(T:Nat->Prop)(f:β->List Sx):Own (fun s W=>aa1 n₀ Bs T (f s) W):=by
 rintro s X Y row ⟨U,v,L,hv,hr,hE,h4,h5,h6,h7⟩ hg hrow
 refine⟨U,v,L,hv.kept hg (fun e'=>?_),hr.kept hg ?_,hE.keep hg.size fun a u hc _=>cell_kept hc hg hrow,h4,fun i hi=>qao (h5 i hi) hg.size,h6,h7⟩
 ·obtain⟨o,ho,hc⟩:=hrow Bs e'.symm
  rw[show X.heap[Bs]? =_ from hv]at ho;cases ho;cases hc
 ·rcases hr.2 with⟨rfl,_⟩|⟨g,cap,cur,rfl,_,hgb,_⟩
  ·exact .inl rfl
  ·refine .inr fun e'=>?_
   obtain⟨o,ho,hc⟩:=hrow g (by simpa[qam]using e'.symm)
   rw[hgb]at ho;cases ho;cases hc
def RY(Bs:Nat)(W W':qaj):Prop:=∀k t u,t≠140->k≠Bs->Boxed W k t u->W'.heap[k]? =W.heap[k]?
theorem RY.trans {A B C:qaj}(h:RY Bs A B)(k:RY Bs B C):RY Bs A C:=fun i t u h1 h2 h3=>by
 have h4:=h i t u h1 h2 h3
 exact(k i t u h1 h2 (h4.trans h3)).trans h4
theorem RY.of_below {B:Nat}(h:qap B W W')(hB:W.heap.size<=B):RY Bs W W':=fun k _ _ _ _ h3=>h.block k (by have:=h3.lt;omega)
theorem Held.push (h:Held n₀ Bs T U v L xs W)(hn₀:n₀<=W.heap.size)(aG:n₀<=Bs)(hM:W9 W U M ys)(ad:Addr)(m c:Nat)(hm:M.length=m)(h0:0<m)(hlen:L.length+m<=1000000)(hc:∀j u,M.flatten[j]? =some u->W.cell? (ad.add j)=some u):
  ∃g cap w',(qay #[137,137] 137 #[v,.slice (some ad) m c]).run Tryz.prog W=.ok (.slice (some ⟨g,0,none⟩) (L.length+m) cap) w'/\w'.cell? ⟨Bs,0,none⟩=some v/\w'.frozen? ⟨Bs,0,none⟩=false/\W.heap.size<=w'.heap.size/\
   Held n₀ Bs T U (.slice (some ⟨g,0,none⟩) (L.length+m) cap) (L++M) (xs++ys) (w'.setCell ⟨Bs,0,none⟩ (.slice (some ⟨g,0,none⟩) (L.length+m) cap))/\
   qaU W (w'.setCell ⟨Bs,0,none⟩ (.slice (some ⟨g,0,none⟩) (L.length+m) cap))/\qap n₀ W (w'.setCell ⟨Bs,0,none⟩ (.slice (some ⟨g,0,none⟩) (L.length+m) cap))/\RY Bs W (w'.setCell ⟨Bs,0,none⟩ (.slice (some ⟨g,0,none⟩) (L.length+m) cap)):=by
 obtain⟨i0,hi,hz0,hz1,hz2⟩:=info_parts dS
 obtain⟨g,cap,w',hrun,hown,hg,hat,hlt⟩:=run_append_lies (P:=Tryz.prog) W 137 137 n₀ 140 i0 _ 3 40 Tryz.underlying137 hi hz0 hz1 hz2 rfl (by decide) v L.length L.flatten h.own ad m c M.flatten (by rw[Td hM.lens,hm]) hc (Jk fun cs hcs=>by
  obtain⟨k,hk⟩:=qaG.1 hcs
  obtain⟨x,_,hx⟩:=hM.get hk
  exact hx.one) h0 (by simp only[maxLen];omega) (by omega) hn₀ W.heap.size rfl
 have hbr:some Bs≠v.ownBlock:=h.box.not_row (by decide) h.own
 have hb1:Boxed w' Bs 137 v:=h.box.kept hg hbr
 have hbs:some Bs≠(qaC.slice (some ⟨g,0,none⟩) (L.length+m) cap).ownBlock:=hb1.not_row (by decide) hown
 have hsz:=hg.size
 have hkeep:∀a u,W.cell? a=some u->U a.block->(w'.setCell ⟨Bs,0,none⟩ (.slice (some ⟨g,0,none⟩) (L.length+m) cap)).cell? a=some u:=fun a u ha hu=>by
  have h1:w'.cell? a=some u:=hg.cell ha fun e=>h.qM _ e.symm hu
  exact(qax (qai w' ⟨Bs,0,none⟩ _ a.block (fun e=>h.lH (by have e':a.block=Bs:=e;rw[<-e'];exact hu)))).trans h1
 refine⟨g,cap,w',hrun,hb1.cell,hb1.frozen,hsz,⟨hb1.set _,?_,?_,h.ins,fun i hi=>?_,h.lH,?_⟩,?_,?_,fun k t u hk1 hk2 hk3=>?_⟩
 ·rw[qaA,List.flatten_append,hm]
  exact hown.kept (grownBy_setCell' w' Bs _) (.inr hbs.symm)
 ·exact(h.els.keep (by simpa using hsz) hkeep).append (hM.keep (by simpa using hsz) hkeep)
 ·have:=h.low i hi;simpa using qao this hsz
 ·intro g' hg' hu
  obtain rfl:g=g':=by simpa[qam]using hg'
  rcases hat with hat|hat
  ·exact h.qM g hat hu
  ·have:=h.low g hu;omega
 ·refine(qaU.of_grownBy hg fun j o ej hj=>?_).trans (qaU.setCell _ _ _)
  rcases h.own.2 with⟨rfl,_⟩|⟨g',cap',cur,rfl,_,hgb,_⟩
  ·simp[qam]at ej
  ·obtain rfl:g'=j:=by simpa[qam]using ej
   rw[hgb]at hj;cases hj;rfl
 ·refine((qah n₀ W).grown hg hn₀ fun j ej=>?_).setCell (p:=⟨Bs,0,none⟩) aG _
  rcases h.own.2 with⟨rfl,_⟩|⟨g',cap',cur,rfl,hb,_,_⟩
  ·simp[qam]at ej
  ·obtain rfl:g'=j:=by simpa[qam]using ej
   exact hb
 ·exact(qai w' ⟨Bs,0,none⟩ _ k hk2).trans (hg.block k hk3.lt (hk3.not_row hk1 h.own))
theorem Held.below (h:Held n₀ Bs T U v L xs W)(hb:qap W.heap.size W W'):Held n₀ Bs T U v L xs W':=
 ⟨(hb.block Bs h.box.lt).trans h.box,own_below h.own hb,h.els.keep hb.size fun _ _ ha hu=>(hb.cell (h.low _ hu)).trans ha,h.ins,fun i hi=>qao (h.low i hi) hb.size,h.lH,h.qM⟩
theorem Held.wider {V:Nat->Prop}(h:Held n₀ Bs T U v L xs W)(h1:∀i,V i->(T i/\i<n₀)\/n₀<=i)(h2:∀i,V i->i<W.heap.size)(h3:¬ V Bs)(h4:∀g,v.ownBlock=some g->¬ V g):
  Held n₀ Bs T (fun i=>U i\/V i) v L xs W:=
 ⟨h.box,h.own,⟨h.els.1,fun k cs x hk hx=>by obtain⟨s,ba,oa,cp,e1,e2,e3⟩:=h.els.2 k cs x hk hx;exact⟨s,ba,oa,cp,e1,.inl e2,e3⟩⟩,fun i hi=>hi.elim (h.ins i) (h1 i),fun i hi=>hi.elim (h.low i) (h2 i),fun hi=>hi.elim h.lH h3,fun g hg hi=>hi.elim (h.qM g hg) (h4 g hg)⟩
theorem Held.qK (h:Held n₀ Bs T U v L xs W){g:Nat}(hg:v.ownBlock=some g):n₀<=g/\g<W.heap.size:=by
 rcases h.own.2 with⟨rfl,_⟩|⟨g',cap',cur,rfl,hb,hgb,_⟩
 ·simp[qam]at hg
 ·obtain rfl:g'=g:=by simpa[qam]using hg
  exact⟨hb,(qaB.1 hgb).1⟩
theorem Held.list {w4:qaj}(h:Held n₀ Bs T U v L xs W)(hn₀:n₀<=W.heap.size)(aG:n₀<=Bs)(hb:qap W.heap.size W w4){g1 cc:Nat}(hg1:W.heap.size<=g1)(hg2:g1<w4.heap.size)(hcc:64<=cc)(hr:w4.rangeAt g1 0 (Z6 (QG q)))(hlen:L.length<=900000):
  ∃U' g cap w',(qay #[137,137] 137 #[v,.slice w4.heap.size 1 1]).run Tryz.prog (w4.alloc (.cells #[(),.slice g1 64 cc,.int .u16 0] 140))=.ok (.slice (some ⟨g,0,none⟩) (L.length+1) cap) w'/\w'.cell? ⟨Bs,0,none⟩=some v/\w'.frozen? ⟨Bs,0,none⟩=false/\
   Held n₀ Bs T U' (.slice (some ⟨g,0,none⟩) (L.length+1) cap) (L++[[.int .i64 0,.slice g1 64 cc,.int .u16 0]]) (xs++[KZ q]) (w'.setCell ⟨Bs,0,none⟩ (.slice (some ⟨g,0,none⟩) (L.length+1) cap))/\
   qaU W (w'.setCell ⟨Bs,0,none⟩ (.slice (some ⟨g,0,none⟩) (L.length+1) cap))/\qap n₀ W (w'.setCell ⟨Bs,0,none⟩ (.slice (some ⟨g,0,none⟩) (L.length+1) cap))/\RY Bs W (w'.setCell ⟨Bs,0,none⟩ (.slice (some ⟨g,0,none⟩) (L.length+1) cap)):=by
 have hb5:qap W.heap.size W (w4.alloc (.cells #[(),.slice g1 64 cc,.int .u16 0] 140)):=hb.alloc hb.size _
 have h5:=(h.below hb5).wider (V:=fun i=>i=g1) (fun i hi=>by have hi':i=g1:=hi;right;omega) (fun i hi=>by have hi':i=g1:=hi;simp;omega) (fun e=>by have e':Bs=g1:=e;have:=h.box.lt;omega) (fun g hg e=>by have e':g=g1:=e;have:=(h.qK hg).2;omega)
 obtain⟨g,cap,w',h1,h2,h3,h4,h6,h7,h8,h9⟩:=h5.push (by have:=hb5.size;omega) aG (M:=[[.int .i64 0,.slice g1 64 cc,.int .u16 0]]) (ys:=[KZ q])
  (W9.one ⟨0,g1,0,cc,rfl,.inr rfl,by simp;omega,hcc,qaj.rangeAt_alloc hr _⟩) ⟨w4.heap.size,0,none⟩ 1 1 rfl (by omega) (by omega)
  (qaj.news_of_block (cs:=#[(),.slice g1 64 cc,.int .u16 0]) (heap_alloc_new w4 _))
 have ko:qaU W (w4.alloc (.cells #[(),.slice g1 64 cc,.int .u16 0] 140)):=⟨hb5.size,fun k o hk _=>(hb5.block k (qaB.1 hk).1).trans hk⟩
 exact⟨_,g,cap,w',h1,h2,h3,h6,ko.trans h7,(hb5.mono hn₀).trans h8,(RY.of_below hb5 (qac _)).trans h9⟩
theorem Dh(h:XR W T (some ⟨b,o,none⟩) (ints q)):∃M,W9 W T M (q.map (·.2))/\∀j u,M.flatten[j]? =some u->W.cell? ((⟨b,o,none⟩:Addr).add j)=some u:=by
 have hk:∀(k:Nat)(p:Nat × Sx),q[k]? =some p->MZ W T [(W.cell? ⟨b,o+k*3,none⟩).getD undef,(W.cell? ⟨b,o+k*3+1,none⟩).getD undef,(W.cell? ⟨b,o+k*3+2,none⟩).getD undef] p.2/\
   ∀j u,[(W.cell? ⟨b,o+k*3,none⟩).getD undef,(W.cell? ⟨b,o+k*3+1,none⟩).getD undef,(W.cell? ⟨b,o+k*3+2,none⟩).getD undef][j]? =some u->W.cell? ⟨b,o+(k*3+j),none⟩=some u:=fun k p hp=>by
  obtain⟨b',o',ba,oa,cp,e1,e2,e3,e4,e5,e6,e7,e8,e9,e10⟩:=h k _ (TC hp)
  cases e1
  rw[e7,e8,e9]
  refine⟨⟨p.1,ba,oa,cp,rfl,e3,e5,e6,e10⟩,fun j u hu=>?_⟩
  match j,hu with
  |0,hu=>rw[Nat.add_zero,e7];simpa using hu
  |1,hu=>rw[<-Nat.add_assoc,e8];simpa using hu
  |2,hu=>rw[<-Nat.add_assoc,e9];simpa using hu
  |j+3,hu=>simp at hu
 refine⟨(qaz q.length).map fun k=>[(W.cell? ⟨b,o+k*3,none⟩).getD undef,(W.cell? ⟨b,o+k*3+1,none⟩).getD undef,(W.cell? ⟨b,o+k*3+2,none⟩).getD undef],⟨by simp,fun k cs x h1 h2=>?_⟩,fun j u hu=>?_⟩
 ·rw[qaq,qan]at h1 h2
  obtain⟨k',hk',rfl⟩:=h1
  obtain⟨p,hp,rfl⟩:=h2
  rw[List.getElem?_range (qaf.1 hp).1]at hk'
  cases hk'
  exact(hk k p hp).1
 ·obtain⟨i,k,c,rfl,hk3,hi,hc⟩:=Jl (size:=3) (by omega) (fun c hc=>by
   obtain⟨k,_,rfl⟩:=List.mem_map.1 hc
   rfl) hu
  rw[qaq,qan]at hi
  obtain⟨k',hk',rfl⟩:=hi
  have hlt:=(qaf.1 hk').1
  rw[List.length_range]at hlt
  rw[List.getElem?_range hlt]at hk'
  cases hk'
  have:=(hk i _ (qag hlt)).2 k u hc
  rw[Addr.add_mid]
  exact this
theorem Held.group (h:Held n₀ Bs T U v L xs W)(hn₀:n₀<=W.heap.size)(aG:n₀<=Bs)(hP:XR W (fun i=>T i/\i<n₀) (some ⟨b,o,none⟩) (ints q))(e:Nat)(he:q.length=e)(h0:0<e)(c:Nat)(hlen:L.length+e<=1000000):
  ∃U' M g cap w',M.length=e/\(qay #[137,137] 137 #[v,.slice (some ⟨b,o,none⟩) e c]).run Tryz.prog W=.ok (.slice (some ⟨g,0,none⟩) (L.length+e) cap) w'/\w'.cell? ⟨Bs,0,none⟩=some v/\w'.frozen? ⟨Bs,0,none⟩=false/\
   Held n₀ Bs T U' (.slice (some ⟨g,0,none⟩) (L.length+e) cap) (L++M) (xs++q.map (·.2)) (w'.setCell ⟨Bs,0,none⟩ (.slice (some ⟨g,0,none⟩) (L.length+e) cap))/\
   qaU W (w'.setCell ⟨Bs,0,none⟩ (.slice (some ⟨g,0,none⟩) (L.length+e) cap))/\qap n₀ W (w'.setCell ⟨Bs,0,none⟩ (.slice (some ⟨g,0,none⟩) (L.length+e) cap))/\RY Bs W (w'.setCell ⟨Bs,0,none⟩ (.slice (some ⟨g,0,none⟩) (L.length+e) cap)):=by
 obtain⟨M,hM,hc⟩:=Dh hP
 have h5:=h.wider (V:=fun i=>T i/\i<n₀) (fun i hi=>.inl hi) (fun i hi=>by have:=hi.2;omega) (fun hi=>by have:=hi.2;omega) (fun g hg hi=>by have:=(h.qK hg).1;have:=hi.2;omega)
 have hM':W9 W (fun i=>U i\/(T i/\i<n₀)) M (q.map (·.2)):=⟨hM.1,fun k cs x hk hx=>by obtain⟨s,ba,oa,cp,e1,e2,e3⟩:=hM.2 k cs x hk hx;exact⟨s,ba,oa,cp,e1,.inr e2,e3⟩⟩
 have aF:M.length=e:=by rw[hM.1,qas,he]
 obtain⟨g,cap,w',h1,h2,h3,h4,h6,h7,h8,h9⟩:=h5.push hn₀ aG hM' ⟨b,o,none⟩ e c aF h0 hlen hc
 exact⟨_,M,g,cap,w',aF,h1,h2,h3,h6,h7,h8,h9⟩
theorem Uz{W3:qaj}{t:TypeId}(h:W.heap[k]? =W3.heap[k]?)(hb:Boxed W3 k t u):k<W.heap.size:=(qaB.1 (h.trans hb)).1
theorem Yk{o:Oper}{K:Act->qaj->Prop}{E:Prop}(hgd:o.guard=none)(s x:Operand)(t:TypeId)(hop:o.op=Op.call {callee:=Callee.builtin Builtin.append,args:=#[s,x],argTypes:=#[t,t]})(hs:a.eval s=v)(hx:a.eval x=u)(hrun:(qay #[t,t] o.type #[v,u]).run P w=.ok r w')(h:K (a.put o.dst r) w'):
  if qa2 o (yielded ops a.tmps)=true then Oper.wpIn F n P o a w K Q else E:=by
 have hw:qa2 o (yielded ops a.tmps)=true:=by simp[qa2,hgd]
 rw[if_pos hw]
 unfold Oper.wpIn
 refine⟨?_,?_⟩
 ·simp[Oper.about,hop,resolve,Target.leads,Sem.run_pure]
 ·rw[Oper.semAt_plain F _ _ (by rw[hop];intro c hc';cases hc')]
  simp[execOp,hop,resolve,invoke,builtin,hs,hx,hrun,Result.andThen]
  exact h
theorem Zm{rest:List Oper}{o:Oper}(hg:o.guard=none)(s x:Operand)(t:TypeId)(hop:o.op=Op.call {callee:=Callee.builtin Builtin.append,args:=#[s,x],argTypes:=#[t,t]})(hs:a.eval s=v)(hx:a.eval x=u)(hrun:(qay #[t,t] o.type #[v,u]).run P w=.ok r w')(h:wpListIn F n P ops Q rest (a.put o.dst r) w'):
  wpListIn F n P ops Q (o::rest) a w:=by
 refine wpListIn_plain hg fun K hK'=>?_
 unfold Oper.wpIn
 refine⟨?_,?_⟩
 ·simp[Oper.about,hop,resolve,Target.leads,Sem.run_pure]
 ·rw[Oper.semAt_plain F _ _ (by rw[hop];intro c hc';cases hc')]
  simp[execOp,hop,resolve,invoke,builtin,hs,hx,hrun,Result.andThen]
  exact hK' _ _ h
def unit(g:List (Nat × Sx))(c:Nat):List Sx:=KZ (PT g c)::(PT g c).map (·.2)
theorem Vq{α:Type}(g:List (Nat × Sx))(f:α->Nat)(pre:List α)(x:α):((pre++[x]).map f).flatMap (unit g)=((pre.map f).flatMap (unit g)++[KZ (PT g (f x))])++(PT g (f x)).map (·.2):=by
 rw[List.map_append,List.flatMap_append,List.append_assoc]
 simp[unit]
theorem Jj(g:List (Nat × Sx))(cs:List Nat):(cs.flatMap (unit g)).length<=16*cs.length:=by
 induction cs with
 |nil=>simp
 |cons c cs ih=>
  rw[List.flatMap_cons,qaA,qaw]
  have:(unit g c).length<=16:=by simp only[unit,qaw,qas,Vu];omega
  omega
theorem lG(h:p∈PT g c):p∈g:=List.mem_of_mem_drop (qar h)
theorem lF(h:(PT g c)[k]? =some p):k<15/\g[15*c+k]? =some p:=by
 rw[PT,List.getElem?_take]at h
 split at h
 ·rw[List.getElem?_drop]at h;exact⟨by assumption,h⟩
 ·cases h
theorem XR.sub {b0 o0:Nat}(h:XR w T (some ⟨b0,o0,none⟩) (ints g))(c:Nat):XR w T (some ⟨b0,o0+15*c*3,none⟩) (ints (PT g c)):=fun k p hk=>by
 rw[ints,qaq,qan]at hk
 obtain⟨q,hq,rfl⟩:=hk
 obtain⟨h1,h2⟩:=lF hq
 obtain⟨b,o,ba,oa,cp,h3,h4,h5,h6,h7,h8,h9,h10,h11,h12⟩:=h (15*c+k) _ (TC h2)
 cases h3
 exact⟨b0,o0+15*c*3,ba,oa,cp,rfl,h4,h5,h6,h7,h8,by rw[show o0+15*c*3+k*3=o0+(15*c+k)*3 by omega];exact h9,by rw[show o0+15*c*3+k*3=o0+(15*c+k)*3 by omega];exact h10,by rw[show o0+15*c*3+k*3=o0+(15*c+k)*3 by omega];exact h11,h12⟩
theorem Tc(g:List (Nat × Sx)):∀C,X8 g C=(qaz C).flatMap (unit g)
 |0=>rfl
 |C+1=>by rw[X8,Tc g C,List.range_succ,List.flatMap_append];simp[unit]
def qJ(U:Nat->Prop)(gs start j:Nat)(xs:List Sx)(W:qaj):Prop:=
 ∀k x,xs[k]? =some x->∃s ba oa cp,U ba/\ba<W.heap.size/\64<=cp/\W.cell? ⟨gs,k*3,none⟩=some (.int .i64 s)/\(k<j->s=((start+1+k:Nat):Int))/\W.cell? ⟨gs,k*3+1,none⟩=some (.slice (some ⟨ba,oa,none⟩) 64 cp)/\
  W.cell? ⟨gs,k*3+2,none⟩=some (.int .u16 x.t)/\W.rangeAt ba oa (Z6 x.b)
theorem Held.acr {m cap:Nat}(h:Held n₀ Bs T U (.slice gs m cap) L xs W)(hm:m=L.length)(start:Nat):qJ U gs start 0 xs W:=fun k x hx=>by
 subst hm
 have hk:k<L.length:=by rw[h.els.1];exact(qaf.1 hx).1
 have hlk:L[k]? =some L[k]:=qag hk
 have hrow:=Row.Bh h.own rfl h.els.lens (fun c hc=>by
  obtain⟨k,hk⟩:=qaG.1 hc
  obtain⟨x,_,hx⟩:=h.els.get hk
  exact hx.one)
 obtain⟨s,ba,oa,cp,hcs,e2,e3,e4,e5⟩:=h.els.2 k _ x hlk hx
 have hr:=(hrow.elem k _ hlk).2.2
 rw[hcs]at hr
 exact⟨s,ba,oa,cp,e2,e3,e4,hr 0 _ rfl,fun h=>absurd h (Nat.not_lt_zero _),hr 1 _ rfl,hr 2 _ rfl,e5⟩
theorem qJ.set {start j:Nat}(h:qJ U gs start j xs W)(hg:¬ U gs)(v:qaC)(hv:v=.int .i64 ((start+1+j:Nat):Int)):qJ U gs start (j+1) xs (W.setCell ⟨gs,j*3,none⟩ v):=fun k x hx=>by
 obtain⟨s,ba,oa,cp,h1,h2,h3,h4,h5,h6,h7,h8⟩:=h k x hx
 have ho:∀i,i≠j*3->(W.setCell ⟨gs,j*3,none⟩ v).cell? ⟨gs,i,none⟩=W.cell? ⟨gs,i,none⟩:=fun i hi=>qaj.cell?_setCell_other _ _ _ _ (fun e=>hi (congrArg Addr.off e).symm)
 have hb:ba≠gs:=fun e=>hg (e▸h1)
 have hrr:(W.setCell ⟨gs,j*3,none⟩ v).rangeAt ba oa (Z6 x.b):=ZO h8 (qai W ⟨gs,j*3,none⟩ v ba hb)
 by_cases hk:k=j
 ·subst hk
  refine⟨((start+1+k:Nat):Int),ba,oa,cp,h1,by simpa using h2,h3,?_,fun _=>rfl,(ho _ (by omega)).trans h6,(ho _ (by omega)).trans h7,hrr⟩
  rw[hv]
  exact qaj.cell?_setCell_same' _ _ _ (by rw[h4];rfl)
 ·exact⟨s,ba,oa,cp,h1,by simpa using h2,h3,(ho _ (by omega)).trans h4,fun hlt=>h5 (by omega),(ho _ (by omega)).trans h6,(ho _ (by omega)).trans h7,hrr⟩
end
section
variable {w:qaj}{T:Nat->Prop}{bj b start n seq:Nat}{b0 o0:Nat}{g:List (Nat × Sx)}
theorem Dy (hJ : JB w bj b start n seq) (hL : XR w T (some ⟨b0, o0, none⟩) (ints g)) (m c : Nat) (hm : g.length = m) (h0 : 0 < m) (hmm : m <= 100000) (hmc : m <= c) (hs : start <= 4096) (hf : ∀ p ∈ g, p.1 < 65536) :
    qa1 Tryz.prog 141 #[.pointer bj, .slice (some ⟨b0, o0, none⟩) m c] w fun e w' => ∃ gs cap, e = .returned (.slice (some ⟨gs, 0, none⟩) (stored g).length cap) /\ (stored g).length <= cap /\
      XR w' (fun i => T i \/ w.heap.size <= i) (some ⟨gs, 0, none⟩) (ints (placed (start + 1) (stored g))) /\ qap w.heap.size w w' := by
  have HJ := χ hJ
  have HL := χ hL
  have Hm := χ hm
  have Hf := χ hf
  have hmx : Tryz.prog.follows .mixedOrders = true := by kernel_rfl
  clear hJ hL hm hf
  refine (qaQ (n := 5)).1 ?_
  refine callsIn_of_wp_marks Tryz.func141 rfl trivial ?_ rfl
  simp only [Tryz.ntmps141, qaN, qaw, qaR, qaZ, qaY, qaK, qaJ, qaO, qaL, qak, qaP]
  gi_wp2_with (refine ⟨trivial, ?_⟩; gi_at_call 214; refine (qI _ _ _ _ _).mono ?_; rintro e w' ⟨rfl, rfl⟩)
  have bS := Boxed.new w 137 (.slice none 0 0)
  have e1 : (w.alloc (.cells #[.slice none 0 0] 137)).heap.size = w.heap.size + 1 := by simp
  obtain ⟨w1, hw1⟩ : ∃ w1, w1 = w.alloc (.cells #[.slice none 0 0] 137) := ⟨_, rfl⟩
  have b1 : qap w.heap.size w w1 := by rw [hw1]; exact (qah _ w).alloc (qac _) _
  rw [<- hw1] at bS e1 ⊢
  have bL := Boxed.new w1 137 (.slice (some ⟨b0, o0, none⟩) m c)
  have bN := Boxed.new (w1.alloc (.cells #[.slice (some ⟨b0, o0, none⟩) m c] 137)) 3 (.int .i64 15)
  have e2 : (w1.alloc (.cells #[.slice (some ⟨b0, o0, none⟩) m c] 137)).heap.size = w1.heap.size + 1 := by simp
  obtain ⟨w2, hw2⟩ : ∃ w2, w2 = w1.alloc (.cells #[.slice (some ⟨b0, o0, none⟩) m c] 137) := ⟨_, rfl⟩
  rw [<- hw2] at bL e2 bN ⊢
  have e3 : (w2.alloc (.cells #[.int .i64 15] 3)).heap.size = w2.heap.size + 1 := by simp
  obtain ⟨w3, hw3⟩ : ∃ w3, w3 = w2.alloc (.cells #[.int .i64 15] 3) := ⟨_, rfl⟩
  have b2 : qap w.heap.size w1 w2 := by rw [hw2]; exact (qah _ w1).alloc (by omega) _
  have b3 : qap w.heap.size w2 w3 := by rw [hw3]; exact (qah _ w2).alloc (by omega) _
  have bS3 : Boxed w3 w.heap.size 137 (.slice none 0 0) := by rw [hw3, hw2]; exact (bS.alloc _).alloc _
  have FV : Boxed w3 (w.heap.size + 1) 137 (.slice (some ⟨b0, o0, none⟩) m c) := by rw [hw3, <- e1]; exact bL.alloc _
  have FU : Boxed w3 (w.heap.size + 1 + 1) 3 (.int .i64 15) := by rw [hw3, show w.heap.size + 1 + 1 = w2.heap.size by omega]; exact bN
  rw [<- hw3] at e3 ⊢
  have hsz : w3.heap.size = w.heap.size + 3 := by omega
  have B3 : qap w.heap.size w w3 := (b1.trans b2).trans b3
  clear bS bL bN b1 b2 b3
  clear hw1 hw2 hw3 e1 e2 e3
  refine wpIn_rangeFunc_ownF rfl (by omega) (gf := 252) (lb := #[.pointer (some ⟨w.heap.size + 1, 0, none⟩), .pointer (some ⟨w.heap.size + 1 + 1, 0, none⟩)]) rfl trivial (enters_of Tryz.func252 (by kernel_rfl) rfl)
    (FT 4 (by omega) (w.heap.size + 1) (w.heap.size + 1 + 1) b0 o0 m c (by omega) hmc w3 (by omega) (by omega) FV.cell FU.cell) Two.trans (fun W k o o' hk _ _ _ => ⟨qat (by omega), qat (by omega)⟩) (qah _ _) (fun _ => rfl)
    (fun pre W => aa1 w.heap.size w.heap.size T ((pre.map (·.1)).flatMap (unit g)) W /\ qap w.heap.size w W /\ Two (w.heap.size + 1) (w.heap.size + 1 + 1) w3 W)
    (fun _ _ _ => False)
    (OwnFrom.and (Own.from (qL _ _ _ _) _) (OwnFrom.and (ownFrom_below (qac _) (by omega)) (fun _ W W' row hs hg hr => hs.trans ⟨hg.block _ (Uz hs.1 FV) (fun e => by have := (hr _ e.symm).1; omega), hg.block _ (Uz hs.2 FU) (fun e => by have := (hr _ e.symm).1; omega)⟩)))
    (fun _ _ _ _ _ hs _ _ => hs)
    ⟨⟨fun _ => False, _, [], bS3, qaj.ownsRow_nil _ _ _ _, W9.nil _ _, fun _ h => h.elim, fun _ h => h.elim, fun h => h, fun _ _ h => h⟩, B3, Two.refl _ _ _⟩
    (fun x => { tmps := #[.pointer bj, .slice (some ⟨b0, o0, none⟩) m c, undef, undef, .slice none 0 0, .pointer w.heap.size, Rx b0 o0 m x.1, undef, .slice (some ⟨b0, o0, none⟩) m c, .func (.func 252) #[] #[.pointer (some ⟨w.heap.size + 1, 0, none⟩), .pointer (some ⟨w.heap.size + 1 + 1, 0, none⟩)], Rx b0 o0 m x.1, undef, undef, undef, undef, undef, undef,
                undef, undef, undef, undef, undef, undef, undef, undef, undef, undef, undef, undef, undef, undef,
                undef, undef, undef, undef, undef, undef, undef], defers := [] }) ?assign ?body ?done ?stop
  case assign =>
    intro l x W K hK
    gi_wp2
    exact hK
  case body =>
    rintro l pre x W ⟨⟨U, v, L, hH⟩, hB, rM⟩ hlen
    obtain ⟨x, hx⟩ := x
    have hP : XR W (fun i => T i /\ i < w.heap.size) (some ⟨b0, o0 + 15 * x * 3, none⟩) (ints (PT g x)) := ((HL.out.more fun i hi ht => ⟨ht, hi⟩).below hB).sub x
    have hgl : (PT g x).length = min 15 (m - 15 * x) := by rw [Vu, Hm.out]
    have Bf := χ (fun W' (hW' : qap W.heap.size W W') => Du (PT g x) (fun i => T i /\ i < w.heap.size) (some ⟨b0, o0 + 15 * x * 3, none⟩) (min 15 (m - 15 * x)) (min 15 (m - 15 * x)) W' (hP.below hW') hgl (by omega) (fun p hp => Hf.out p (lG hp)))
    have hc := hH.box.cell
    have hf := hH.box.frozen
    have HH := χ hH
    have HP := χ hP
    have aD := χ hgl
    have HB := χ hB
    have wJ : Hid (L.length <= 200000) := by
      show _ <= _
      rw [hH.els.1]
      have h1 := Jj g (pre.map (·.1))
      rw [qas] at h1
      omega
    have HT := χ rM
    clear hP hgl hH hB rM
    obtain ⟨e, he⟩ : ∃ e, e = min 15 (m - 15 * x) := ⟨_, rfl⟩
    have hch : Rx b0 o0 m x = .slice (some ⟨b0, o0 + 15 * x * 3, none⟩) e e := by rw [he]; rfl
    rw [<- he] at Bf aD
    have he0 : 0 < e := by omega
    have aed : e <= 15 := by omega
    clear he
    dsimp only
    rw [hch]
    have hd1 : 1 <= 5 - 1 - 1 := by omega
    have aI := χ HH.out.box.lt
    have jg := χ HB.out.size
    gi_wp2
    refine wpIn_region_any hmx ?_
    change wpAnyIn _ _ _ _ _ _ _ _ _ (qaj.drew _)
    refine qae (rs := [0, 1]) (by kernel_rfl) (by simp) ?_
    refine qab (o := _) rfl (fun K hK => ?_) ?_
    · go_simp
      refine hK _ _ ?_
      clear hK K
      refine qae (rs := [1]) (by kernel_rfl) (by simp) ?_
      refine qab (o := _) rfl (fun K hK => ?_) ?_
      · go_simp
        exact zb0
      exact qad
    refine qab (o := _) rfl (fun K hK => ?_) ?_
    · go_simp
      refine hK _ _ ?_
      clear hK K
      refine qae (rs := [0, 2]) (by kernel_rfl) (by simp) ?_
      refine qab (o := _) rfl (fun K hK => ?_) ?_
      · go_simp
        exact zb0
      refine qab (o := _) rfl (fun K hK => ?_) ?_
      · go_simp
        refine ⟨trivial, ?_⟩
        refine (qaX l (qaQ.2 (Bf.out _ ((qah _ _).drew)))).mono ?_
        rintro e2 w4 ⟨v2, rfl, hM2⟩
        have hb4 := χ ((qah _ W).drew.trans hM2.2)
        obtain ⟨g1, cc, rfl, hcc, hg1, hg1', hr1⟩ := Vt hM2 (VP _) (by omega)
        have HR := χ hr1
        have hc4 := (hM2.2.cell (p := ⟨w.heap.size, 0, none⟩) aI.out).trans hc
        have Dg : (w4.alloc (.cells #[(), .slice g1 64 cc, .int .u16 0] 140)).cell? ⟨w.heap.size, 0, none⟩ = some v := (qaM _ _ _ (qau w4 _ hc4)).trans hc4
        clear hM2 hr1
        obtain ⟨U2, g2, cap2, w5, hrun, dR, dQ, hH5, qH, wI, jf⟩ := Held.list (HH.out.below (qah _ _)) jg.out (qac _) hb4.out hg1 hg1' hcc HR.out (by have := wJ.out; omega)
        have OQ := χ hrun
        have Ms := χ hH5
        have Mr := χ qH
        have V9 := χ wI
        have wH := χ jf
        clear hH5 qH wI jf hrun
        gi_wp2
        refine qae (rs := [0, 3]) (by kernel_rfl) (by simp) ?_
        refine qab (o := _) rfl (fun K hK => ?_) ?_
        · go_simp
          refine hK _ _ ?_
          clear hK K
          refine qae (rs := [3]) (by kernel_rfl) (by simp) ?_
          refine qab (o := _) rfl (fun K hK => ?_) ?_
          · go_simp
            exact zb1
          exact qad
        refine qab (o := _) rfl (fun K hK => ?_) ?_
        · go_simp
          refine hK _ _ ?_
          clear hK K
          refine qae (rs := [0, 4]) (by kernel_rfl) (by simp) ?_
          refine qab (o := _) rfl (fun K hK => ?_) ?_
          · go_simp
            exact zb1
          refine qab (o := _) rfl (fun K hK => ?_) ?_
          · go_simp
            refine hK _ _ ?_
            clear hK K
            refine qae (rs := [0]) (by kernel_rfl) (by simp) ?_
            refine qab (o := _) rfl (fun K hK => ?_) ?_
            · go_simp
              refine hK _ _ ?_
              clear hK K
              refine qae (rs := [5]) (by kernel_rfl) (by simp) ?_
              refine qab (o := _) rfl (fun K hK => ?_) ?_
              · refine Yk rfl (.tmp 11) (.tmp 15) 137 rfl rfl rfl OQ.out ?_
                simp only [Act.put, qal]
                refine hK _ _ ?_
                clear hK K
                refine qae (rs := [6]) (by kernel_rfl) (by simp) ?_
                refine qab (o := _) rfl (fun K hK => ?_) ?_
                · go_simp
                  refine hK _ _ ?_
                  clear hK K
                  refine qaI (by kernel_rfl) ?_ _
                  obtain ⟨W6, Be⟩ : ∃ W6, W6 = w5.setCell ⟨w.heap.size, 0, none⟩ (.slice g2 (L.length + 1) cap2) := ⟨_, rfl⟩
                  rw [<- Be] at Ms Mr V9 wH ⊢
                  clear Be hc4 Dg dR dQ OQ hb4 HR
                  have Bc : XR W6 (fun i => T i /\ i < w.heap.size) (some ⟨b0, o0 + 15 * x * 3, none⟩) (ints (PT g x)) := HP.out.keep Mr.out.size fun i hi _ => V9.out.block i hi.2
                  have c6 := Ms.out.box.cell
                  have f6 := Ms.out.box.frozen
                  have hL6 : (L ++ [[qaS .i64 0, .slice g1 64 cc, .int .u16 0]]).length = L.length + 1 := by simp
                  obtain ⟨U7, M7, g7, lD, w7, lC, WJ, hc7, hf7, hH7, Sy, Qp, Ji⟩ := Ms.out.group (by have := Mr.out.size; have := jg.out; omega) (qac _) Bc e aD.out he0 e (by rw [hL6]; have := wJ.out; omega)
                  rw [hL6] at WJ hH7 Sy Qp Ji
                  have QD := χ WJ
                  have lv := χ hH7
                  have lu := χ (Mr.out.trans Sy)
                  have PM := χ (wH.out.trans Ji)
                  have TG := χ (V9.out.trans Qp)
                  clear Bc hL6 hH7 Sy Qp Ji lC WJ
                  gi_wp2_with (gi_at_builtin; refine Zm rfl (.tmp 17) (.tmp 18) 137 rfl rfl rfl QD.out ?_)
                  refine ⟨lu.out, ⟨PM.out _ _ _ (by decide) (by omega) (HT.out.1.trans FV), PM.out _ _ _ (by decide) (by omega) (HT.out.2.trans FU)⟩, ?_, HB.out.trans TG.out, HT.out.trans ⟨PM.out _ _ _ (by decide) (by omega) (HT.out.1.trans FV), PM.out _ _ _ (by decide) (by omega) (HT.out.2.trans FU)⟩⟩
                  rw [Vq]
                  exact ⟨_, _, _, lv.out⟩
                exact qad
              exact qad
            exact qad
          exact qad
        exact qad
      exact qad
    exact qad
  case done =>
    rintro D ys W hD hys ⟨⟨U, v, L, hH⟩, hB, _⟩ hK
    have hCm : 0 < (m + 14) / 15 := by omega
    rw [hys, <- Tc] at hH
    have hst : X8 g ((m + 14) / 15) = stored g := by rw [stored, Hm.out]
    rw [hst] at hH
    have aF : (stored g).length = m + (m + 14) / 15 := by rw [Yv, Hm.out]
    have hlen := hH.els.1
    obtain ⟨M, hM⟩ : ∃ M, M = (stored g).length := ⟨_, rfl⟩
    rw [<- hM] at aF hlen
    obtain ⟨gs, cap, rfl, aa2, aee⟩ := hH.own.form (by omega)
    have hcap : M <= cap := by
      rcases hH.own.2 with ⟨h1, _⟩ | ⟨g', cap', cur, h1, h2, h3, h4, _⟩
      · cases h1
      · cases h1; omega
    rw [hlen] at hH
    have hN := hH.acr hlen.symm start
    have FX := hH.box
    have hc := FX.cell
    have c1 := (hB.cell (p := ⟨bj, 1, none⟩) HJ.out.lt).trans (HJ.out.cell 1)
    have hbg : w.heap.size ≠ gs := fun e => hH.box.not_row (by decide) hH.own (by rw [e]; rfl)
    have hnU : ¬ U gs := hH.qM gs rfl
    have hfg : ∀ i, W.frozen? ⟨gs, i, none⟩ = false := fun i => by
      rcases hH.own.2 with ⟨h1, _⟩ | ⟨g', cap', cur, h1, _, h2, _⟩
      · cases h1
      · cases h1
        exact frozen_of_row W gs i cur 140 h2
    have hU := hH.ins
    have HU := χ (And.intro hH.ins hH.low)
    have Hlen := χ hlen
    have HM := χ hM
    clear hU
    have HMl := χ aF
    have hM2 : M <= 200000 := by omega
    clear FX aF hCm
    have HB := χ hB
    have HN := χ hN
    have lL := χ hH.box
    have Hfg := χ hfg
    have HK := χ hK
    have HhU := χ hnU
    clear hB hN hH hfg hK hnU
    gi_wp2
    gi_loopw [7, 22] (fun _ i wr => ∃ j : Nat, j <= M /\ i = .int .i64 j /\ qJ U gs start j (stored g) wr /\ qap w.heap.size w wr /\ Boxed wr w.heap.size 137 (.slice (some ⟨gs, 0, none⟩) M cap) /\ (∀ i, wr.frozen? ⟨gs, i, none⟩ = false) /\ wr.heap[D]? = some (.deferred (some [])))
      (fun _ i _ => M - (intOf i).toNat)
    case atStart => exact ⟨0, Nat.zero_le _, rfl, HN.out, HB.out, lL.out, Hfg.out, HK.out⟩
    case round =>
      obtain ⟨j, hj, rfl, hN, hB, hbx, hfz, hDD⟩ := hrel
      have A1 := χ hN
      have A2 := χ hB
      have A3 := χ hbx
      have A4 := χ hfz
      have A5 := χ hDD
      have cs := hbx.cell
      have cj := (hB.cell (p := ⟨bj, 1, none⟩) HJ.out.lt).trans (HJ.out.cell 1)
      by_cases hlt : j < M
      · obtain ⟨x, hx⟩ : ∃ x, (stored g)[j]? = some x := ⟨_, qag (by rw [<- HM.out]; exact hlt)⟩
        obtain ⟨s0, ba, oa, cp, _, _, _, c0, _, _, _, _⟩ := hN j x hx
        have fz := hfz (j * 3)
        have hw1 : qaV.wrap ((start : Int) + 1) = ((start + 1 : Nat) : Int) := by rw [qaF]; omega
        have hw2 : qaV.wrap (((start + 1 : Nat) : Int) + (j : Int)) = ((start + 1 + j : Nat) : Int) := by rw [qaF]; omega
        clear hN hB hbx hfz hDD hx
        gi_wp2
        gi_region
        all_goals gi_wp2
        all_goals go_roundw
        case rel =>
          refine ⟨j + 1, by omega, by go_num, A1.out.set (W := wr.drew) HhU.out _ rfl, ?_, ?_, ?_, ?_⟩
          · exact (A2.out.drew).setCell (p := ⟨gs, j * 3, none⟩) aa2 _
          · exact (qai wr.drew ⟨gs, j * 3, none⟩ _ w.heap.size hbg).trans A3.out
          · exact fun i => (qaj.frozen?_setCell wr _ _ _).trans (A4.out i)
          · exact (qaU.setCell wr.drew _ _).same D _ A5.out rfl
        case measure => simp [intOf]; omega
      · obtain rfl : j = M := by omega
        clear hN hB hbx hfz hDD
        gi_wp2
        refine ⟨by simp, .inl ⟨_, _, rfl, run_takeDeferred A5.out, ?_⟩⟩
        refine ⟨_, results_tmp rfl _ _ _, gs, cap, by rw [<- HM.out]; rfl, by rw [<- HM.out]; exact hcap, ?_, A2.out.trans (belowK_b (w := w) (qac _) wr D _ _ (by omega) A5.out rfl rfl)⟩
        intro k p hp
        rw [ints, qaq, RN, Option.map_map, qan] at hp
        obtain ⟨x, hx, rfl⟩ := hp
        obtain ⟨s0, ba, oa, cp, u1, u2, u3, u4, u5, u6, u7, u8⟩ := A1.out k x hx
        have hk : k < j := by rw [HM.out]; exact (qaf.1 hx).1
        have hgo : ∃ o : Obj, wr.heap[gs]? = some o /\ o.isCells = true := cells_of_cell u4
        have hbo : ∃ o : Obj, wr.heap[ba]? = some o /\ o.isCells = true := by
          have hb0 : (Z6 x.b)[0]? = some (XG (x.b[0]'(by rw [x.hb]; omega))) := by
            rw [Z6, qaq, qag (by rw [x.hb]; omega)]; rfl
          exact cells_of_cell (u8 0 _ hb0)
        have hgD : gs ≠ D := fun e => by obtain ⟨o, h1, h2⟩ := hgo; rw [e, A5.out] at h1; cases h1; cases h2
        have hbD : ba ≠ D := fun e => by obtain ⟨o, h1, h2⟩ := hbo; rw [e, A5.out] at h1; cases h1; cases h2
        have hcell : ∀ i, (wr.putObj D (.deferred none)).cell? ⟨gs, i, none⟩ = wr.cell? ⟨gs, i, none⟩ := fun i => qax (a := ⟨gs, i, none⟩) (qat hgD)
        refine ⟨gs, 0, ba, oa, cp, rfl, .inr aa2, ?_, by simp; exact (qau wr _ u4), by simpa using u2, u3, ?_, ?_, ?_, ZO u8 (qat hbD)⟩
        · rcases HU.out.1 ba u1 with h | h
          · exact .inl h.1
          · exact .inr h
        · rw [qav, hcell, u4, u5 hk]; rfl
        · rw [qav, hcell, u6]
        · rw [qav, hcell, u7]; rfl
  case stop =>
    rintro D c pre W _ _ h _
    exact h.elim
end
end Go.Proofs.YtmehhgfbnfbnaaaGreat

namespace Go.Proofs.YtmehhgfbnfbnaaaGreat
open Go.RowKit
attribute [local go_sem↓] Go.wp_at_zero Go.wp_at_succ
def aaG(v0 v1:qaC)(R:Int->qaj->Prop)(a:Act)(w:qaj):Prop:=
 ∃(e:Int)(u2 u3 u4 u5 u7 u8 u9 Pn Qe zq Mv ng mZ u16 mY mX mW u20 u21 u22 u23 u24 u25 u26 u27 u28 u29 u30 u31 u32 u33 u34 u35 u36 u37 u38 u39 u40 u41 u42 u43 u44 u45 u46 u47 u48:qaC),a={tmps:=#[v0,v1,u2,u3,u4,u5,.int .i64 e,u7,u8,u9,Pn,Qe,zq,Mv,ng,mZ,u16,mY,mX,mW,u20,u21,u22,u23,u24,u25,u26,u27,u28,u29,u30,u31,u32,u33,u34,u35,u36,u37,u38,u39,u40,u41,u42,u43,u44,u45,u46,u47,u48],defers:=[]}/\R e w
def SA(S:Nat->Prop)(w w':qaj)(bj b start n seq:Nat)(k:Dk Sx):Prop:=
 Kept (fun i=>S i\/i=bj) w w'/\∃S',Zv sx w' S' b k/\(∀i,S' i->S i\/w.heap.size<=i)/\JB w' bj b start n seq/\¬ S' bj
section
variable {w:qaj}{S T:Nat->Prop}{bj b start n seq:Nat}{k:Dk Sx}{A:Option Addr}
theorem IG(w:qaj)(bj:Nat)(A:Option Addr)(c:Nat):qa1 Tryz.prog 75 #[.pointer bj,.slice A 0 c] w fun e w'=>e=.returned (.int .i64 0)/\w=w':=by
 go_enter Tryz.func75,Tryz.ntmps75
 go_wp2
 go_step3
 go_wp2
 rw[Exit.noGoto_ret]
 go_ret
 exact⟨rfl,rfl⟩
structure Mid(w0:qaj)(S0 T:Nat->Prop)(bj b start n seq:Nat)(A:Option Addr)(l:List (Nat × Sx))(w:qaj)(S:Nat->Prop)(k:Dk Sx):Prop where
 kept:Kept S0 w0 w
 disk:Zv sx w S b k
 sub:∀i,S i->S0 i\/w0.heap.size<=i
 jb:JB w bj b start n seq
 IE:XR w T A (ints l)
 nbj:¬ S0 bj
 lbj:bj<w0.heap.size
 apart:∀t,T t->¬ S0 t/\t<w0.heap.size
section
variable {w0 w w':qaj}{S0 S T:Nat->Prop}{bj b start n seq:Nat}{k k':Dk Sx}{A:Option Addr}{l:List (Nat × Sx)}
section
variable {k1 k2:Dk Sx}{m start n:Nat}{c:Int × Dk Sx}
theorem Mid.off (h:Mid w0 S0 T bj b start n seq A l w S k):¬ S bj:=fun hs=>by
 rcases h.sub bj hs with h1|h1
 ·exact h.nbj h1
 ·have:=h.lbj;omega
theorem Mid.clear (h:Mid w0 S0 T bj b start n seq A l w S k):∀t,T t->¬ S t:=fun t ht hs=>by
 rcases h.sub t hs with h1|h1
 ·exact(h.apart t ht).1 h1
 ·have:=(h.apart t ht).2;omega
theorem Mid.below (h:Mid w0 S0 T bj b start n seq A l w S k)(hb:qap w.heap.size w w'):Mid w0 S0 T bj b start n seq A l w' S k:=
 ⟨h.kept.trans (Kept.of_below (S:=S0) hb) fun _i hi=>.inl hi,h.disk.below hb,h.sub,(hb.block bj h.jb.lt).trans h.jb,h.IE.below hb,h.nbj,h.lbj,h.apart⟩
theorem Mid.turn (h:Mid w0 S0 T bj b start n seq A l w S k)(ht:Turned sx S w w' b k'):∃S',Mid w0 S0 T bj b start n seq A l w' S' k':=by
 obtain⟨hK,S',hD,hS⟩:=ht
 refine⟨S',h.kept.trans hK h.sub,hD,fun i hi=>?_,(hK.block bj h.jb.lt h.off).trans h.jb,h.IE.keep hK.size fun i hi hlt=>hK.block i hlt (h.clear i hi),h.nbj,h.lbj,h.apart⟩
 rcases hS i hi with h1|h1
 ·exact h.sub i h1
 ·exact .inr (Nat.le_trans h.kept.size h1)
theorem Mid.done (h:Mid w0 S0 T bj b start n seq A l w S k):SA S0 w0 w bj b start n seq k:=
 ⟨⟨h.kept.os,h.kept.tape,h.kept.output,h.kept.size,fun i hi hs=>h.kept.block i hi fun h1=>hs (.inl h1)⟩,S,h.disk,h.sub,h.jb,h.off⟩
theorem Mid.ab3 (h:Mid w0 S0 T bj b start n seq A l w S k)(q:Nat):SA S0 w0 (w.setCell ⟨bj,3,none⟩ (.int .u64 q)) bj b start n q k:=by
 have hk:∀i,i≠bj->(w.setCell ⟨bj,3,none⟩ (.int .u64 q)).heap[i]? =w.heap[i]? :=fun i hi=>qai w ⟨bj,3,none⟩ _ i hi
 refine⟨⟨h.kept.os,h.kept.tape,h.kept.output,by simpa using h.kept.size,fun i hi hs=>(hk i fun e=>hs (.inr e)).trans (h.kept.block i hi fun h1=>hs (.inl h1))⟩,S,h.disk.keep fun i hi=>hk i fun e=>h.off (e▸hi),h.sub,h.jb.set 3 _,h.off⟩
theorem yn{l:List (Nat × Sx)}(h:Uq m start n (ints l)=0):l.length<=room n/\∀p∈l,Xy m start n (p.1:Int)=true:=by
 unfold Uq at h
 split at h
 ·cases h
 ·rename_i h1
  split at h
  ·cases h
  ·rename_i h2
   refine⟨by rw[ints,qas]at h1;omega,fun p hp=>?_⟩
   have h3:XQ m start n (ints l)=false:=by simpa using h2
   rw[XQ,List.any_eq_false]at h3
   have:=h3 ((p.1:Int),p.2) (by rw[ints,List.mem_map];exact⟨p,hp,rfl⟩)
   simpa using this
theorem Nh{s:Nat}(h:Xy m start n (s:Int)=true):s<m/\(s<start\/start+n<=s):=by
 simp only[Xy,Bool.and_eq_true,Bool.or_eq_true,decide_eq_true_eq]at h
 omega
theorem rJ{x1:Int}(h1:k.writes (placed (start+1) (stored l))=(x1,k1))(hx:x1≠0):k.XY start seq l=(x1,k1):=by
 unfold Dk.XY;rw[h1];simp[hx]
theorem rH{x2:Int}(h1:k.writes (placed (start+1) (stored l))=(0,k1))(h2:k1.writes [(start,Yl (seq+1) l.length)]=(x2,k2))(hx:x2≠0):k.XY start seq l=(x2,k2):=by
 unfold Dk.XY Dk.tell;rw[h1];simp only;rw[h2];simp[hx]
theorem Gd{x3:Int}{k3:Dk Sx}(h1:k.writes (placed (start+1) (stored l))=(0,k1))(h2:k1.writes [(start,Yl (seq+1) l.length)]=(0,k2))(h3:k2.finish start (seq+1) l=(x3,k3)):k.XY start seq l=(x3,k3):=by
 unfold Dk.XY Dk.tell;rw[h1];simp only;rw[h2];simp[h3]
def Jt(S:Nat->Prop)(w:qaj)(bj b start n seq:Nat)(c:Int × Dk Sx)(v:Int)(w':qaj):Prop:=v=c.1/\SA S w w' bj b start n (if c.1=0 then seq+1 else seq) c.2
theorem Jt.bad {v:Int}(hc:c=(v,k))(hv:v≠0)(h:SA S w w' bj b start n seq k):Jt S w bj b start n seq c v w':=by
 subst hc;exact⟨rfl,by simpa[hv]using h⟩
theorem Jt.good (hc:c=(0,k))(h:SA S w w' bj b start n (seq+1) k):Jt S w bj b start n seq c 0 w':=by
 subst hc;exact⟨rfl,by simpa using h⟩
theorem IB(hJ:JB w bj b start n seq)(hD:Zv sx w S b k)(hb:¬ S bj)(hs:start<=4096)(Ce:3<=n)(hn:n<=4096)(hq:seq<18446744073709551615)(b0 o0:Nat)(hL:XR w T (some ⟨b0,o0,none⟩) (ints l))(hT:∀t,T t->¬ S t/\t<w.heap.size)(m c:Nat)(hm:l.length=m)(h0:0<m)(hmc:m<=c)(hok:Uq k.safe.length start n (ints l)=0)(hsn:start+n<=k.safe.length)(hlen:k.safe.length<=4096)(hun:k.un.length<=100000):
  qa1 Tryz.prog 75 #[.pointer bj,.slice (some ⟨b0,o0,none⟩) m c] w fun e w'=>e=.returned (.int .i64 (k.XY start seq l).1)/\SA S w w' bj b start n (if (k.XY start seq l).1=0 then seq+1 else seq) (k.XY start seq l).2:=by
 obtain⟨hroom,hval⟩:=yn hok
 have jA:m<=4096:=by unfold room at hroom;omega
 have hR:=Dz (w:=w.drew) (c:=c) (hJ:JB w.drew bj b start n seq) (hD.keep fun _ _=>rfl) hs Ce hn hq (ints l) (hL.keep (qac _) fun _ _ _=>rfl) m (by rw[ints,qas];exact hm) (by omega)
 rw[hok]at hR
 have HR:=χ hR
 have hM:Mid w S T bj b start n seq (some ⟨b0,o0,none⟩) l w S k:=⟨Kept.refl _ _,hD,fun i hi=>.inl hi,hJ,hL,hb,hJ.lt,hT⟩
 have HM:=χ hM
 have c3:=hJ.cell 3
 have IV:=χ hJ.lt
 have hwr:IntKind.u64.wrap ((seq:Int)+1)=((seq+1:Nat):Int):=by rw[IntKind.wrap_u64];omega
 have hm0:((m:Int)==0)=false:=beq_eq_false_iff_ne.2 (by omega)
 have hst:(stored l).length+1<=n:=by rw[Yv,hm];unfold room at hroom;omega
 have Hst:=χ hst
 have aaH:Hid (∀p∈l,p.1<k.safe.length):=fun p hp=>(Nh (hval p hp)).1
 have Hpl:Hid (∀p∈placed (start+1) (stored l),p.1<k.safe.length):=fun p hp=>by have:=(RA hp).2.1;omega
 have Hm:=χ hm
 have Hsn:=χ hsn
 have yt:=χ hun
 have Hlen:=χ hlen
 clear hJ hD hL hm hR hok hroom hval hst hT hb hsn hun hM hlen
 have e1:(k.writes (placed (start+1) (stored l))).2.safe.length=k.safe.length:=Dk.Rz _ _
 have e2:(k.writes (placed (start+1) (stored l))).2.un.length<=110000:=by have:=Dk.PQ (placed (start+1) (stored l)) k;rw[Wm]at this;have:=Hst.out;have:=yt.out;omega
 generalize hr1:k.writes (placed (start+1) (stored l))=r1 at*
 obtain⟨x1,k1⟩:=r1
 have f1:=Dk.Rz [(start,Yl (seq+1) l.length)] k1
 have f2:=Dk.PQ [(start,Yl (seq+1) l.length)] k1
 generalize hr2:k1.writes [(start,Yl (seq+1) l.length)]=r2 at f1 f2
 obtain⟨x2,k2⟩:=r2
 generalize hr3:k2.finish start (seq+1) l=r3
 obtain⟨x3,k3⟩:=r3
 simp only[qaH]at e1 e2 f1 f2⊢
 have lW:=χ hr1
 have oF:=χ hr2
 have Hr3:=χ hr3
 have E1:=χ e1
 have E2:=χ e2
 have F1:=χ (f1.trans e1)
 have F2:Hid (k2.un.length<=110001):=by show _<=_;omega
 generalize hcc:k.XY start seq l=cc
 have oG:=χ hcc
 clear hcc
 clear e1 e2 f1 f2 hr1 hr2 hr3
 go_enter Tryz.func75,Tryz.ntmps75
 go_wp2
 refine VZ 0 0 (fun _ _=>False) (aaG (.pointer bj) (.slice (some ⟨b0,o0,none⟩) m c) (Jt S w bj b start n seq cc)) (fun _ _=>0) rfl rfl ?_ (fun _ _ h=>h.elim) ?_
 ·go_wp2
  go_region_held3 (fun w':qaj=>w'.cell? ⟨bj,3,none⟩=some (.int .u64 seq))
   (first|exact c3|assumption)
   (first|(go_at_call 139;(refine HR.out.mono ?_);rintro e w1 ⟨rfl,hb1⟩;have HB1:=χ ((qah _ w).drew.trans hb1);have d3:=(hb1.cell (p:=⟨bj,3,none⟩) IV.out).trans c3;clear hb1))
  have lV:=χ (HM.out.below HB1.out)
  clear c3 d3
  go_wp2_with fail
  refine(Dy lV.out.jb lV.out.IE m c Hm.out h0 (by omega) hmc hs (fun p hp=>by have:=aaH.out p hp;have:=Hlen.out;omega)).mono ?_
  rintro e w2 ⟨gs,cap,rfl,hcap,hP,hb2⟩
  have O5:=χ (lV.out.below hb2)
  have HP:=χ (hP.more (T':=fun i=>¬ S i) fun i _ hi hs=>by
   rcases hi with h|h
   ·exact(HM.out.apart i h).1 hs
   ·have:=HM.out.disk.lt hs;have:=lV.out.kept.size;omega)
  obtain⟨ms,hms⟩:∃ms,ms=(stored l).length:=⟨_,rfl⟩
  rw[<-hms]at hcap⊢
  have Hms:Hid ((placed (start+1) (stored l)).length=ms):=by show _=_;rw[Wm,hms]
  have adX:ms<=4096:=by have:=Hst.out;omega
  clear hP hb2 hms
  go_wp2_with fail
  refine(Uf O5.out.jb O5.out.disk O5.out.off HP.out (fun t ht=>ht) ms cap Hms.out Hpl.out (by have:=yt.out;omega)).mono ?_
  rintro e w3 ⟨rfl,aL⟩
  rw[lW.out]at aL⊢
  obtain⟨S3,oO⟩:=O5.out.turn aL
  have jr:=χ oO
  clear oO aL
  by_cases h1:x1=0
  ·subst h1
   go_wp2_with fail
   refine(Gc w3 bj b start n seq (seq+1) m jr.out.jb (by omega) (by omega)).mono ?_
   rintro e w4 ⟨gh,rfl,yN,hb4⟩
   have HM4:=χ (jr.out.below hb4)
   have HP4:=χ (yN.more (T':=fun i=>¬ S3 i) fun i _ hi hs=>by have hi':w3.heap.size<=i:=hi;have:=jr.out.disk.lt hs;omega)
   have ab4:Hid (∀p∈[(start,Yl (seq+1) m)],p.1<k1.safe.length):=fun p hp=>by
    simp only[List.mem_singleton]at hp
    subst hp
    rw[E1.out];have:=Hsn.out;show start<_;omega
   clear yN hb4
   go_wp2_with fail
   refine(Uf (g:=[(start,Yl (seq+1) m)]) HM4.out.jb HM4.out.disk HM4.out.off HP4.out (fun t ht=>ht) 1 1 rfl ab4.out (by have:=E2.out;omega)).mono ?_
   rintro e w5 ⟨rfl,hT5⟩
   have hr2':=oF.out
   rw[Hm.out]at hr2'
   rw[hr2']at hT5⊢
   obtain⟨S5,hM5⟩:=HM4.out.turn hT5
   have wK:=χ hM5
   clear hM5 hT5 hr2'
   by_cases h2:x2=0
   ·subst h2
    go_wp2_with fail
    refine(Ng (start:=start) wK.out.jb wK.out.disk wK.out.off wK.out.IE wK.out.clear m c Hm.out (fun p hp=>by rw[F1.out];exact aaH.out p hp) (by rw[F1.out];have:=Hsn.out;omega) (by have:=F2.out;omega) (seq+1) (by omega)).mono ?_
    rintro e w6 ⟨rfl,hT6⟩
    rw[Hr3.out]at hT6⊢
    obtain⟨S6,hM6⟩:=wK.out.turn hT6
    have HM6:=χ hM6
    have c6:=hM6.jb.cell 3
    have f6:=hM6.jb.frozen 3
    clear hM6 hT6
    by_cases h3:x3=0
    ·subst h3
     go_wp2
     rw[VH]
     go_ret
     have hfin:=Jt.good (oG.out.symm.trans (Gd lW.out oF.out Hr3.out)) (HM6.out.ab3 (seq+1))
     exact⟨by rw[<-hfin.1];rfl,hfin.2⟩
    ·have hbb:(x3 != 0)=true:=by simp[h3]
     go_wp2
     go_step3
     exact .inr ⟨rfl,_,_,_,_,_,_,_,_,_,_,_,_,_,_,_,_,_,_,_,_,_,_,_,_,_,_,_,_,_,_,_,_,_,_,_,_,_,_,_,_,_,_,_,_,_,_,_,rfl,Jt.bad (oG.out.symm.trans (Gd lW.out oF.out Hr3.out)) h3 HM6.out.done⟩
   ·have hbb:(x2 != 0)=true:=by simp[h2]
    go_wp2
    go_step3
    exact .inr ⟨rfl,_,_,_,_,_,_,_,_,_,_,_,_,_,_,_,_,_,_,_,_,_,_,_,_,_,_,_,_,_,_,_,_,_,_,_,_,_,_,_,_,_,_,_,_,_,_,_,rfl,Jt.bad (oG.out.symm.trans (rH lW.out oF.out h2)) h2 wK.out.done⟩
  ·have hbb:(x1 != 0)=true:=by simp[h1]
   go_wp2
   go_step3
   exact .inr ⟨rfl,_,_,_,_,_,_,_,_,_,_,_,_,_,_,_,_,_,_,_,_,_,_,_,_,_,_,_,_,_,_,_,_,_,_,_,_,_,_,_,_,_,_,_,_,_,_,_,rfl,Jt.bad (oG.out.symm.trans (rJ lW.out h1)) h1 jr.out.done⟩
 ·rintro a w1 ⟨e,u2,u3,u4,u5,u7,u8,u9,Pn,Qe,zq,Mv,ng,mZ,u16,mY,mX,mW,u20,u21,u22,u23,u24,u25,u26,u27,u28,u29,u30,u31,u32,u33,u34,u35,u36,u37,u38,u39,u40,u41,u42,u43,u44,u45,u46,u47,u48,rfl,hR⟩
  go_wp2
  rw[VH]
  go_ret
  exact⟨by rw[hR.1];rfl,hR.2⟩
end
end
end
end Go.Proofs.YtmehhgfbnfbnaaaGreat

namespace Go.Proofs.YtmehhgfbnfbnaaaGreat
open Go.RowKit
attribute [local go_sem↓] Go.wp_at_zero Go.wp_at_succ
def aaD(v0 v1 v2:qaC)(R:Int->qaj->Prop)(a:Act)(w:qaj):Prop:=
 ∃(e:Int)(u3 u4 u5 u6 u7 u8 u9 Pn Qe Mv ng mZ u16 mY mX mW u20 u21 u22 u23 u24 u25 u26 u27 u28 u29 u30 u31 u32 u33 u34 u35 u36 u37 u38 u39 u40 u41 u42 u43 u44 u45 u46 u47 u48 u49 u50 u51 u52 u53 u54 u55 u56 u57:qaC),a={tmps:=#[v0,v1,v2,u3,u4,u5,u6,u7,u8,u9,Pn,Qe,.int .i64 e,Mv,ng,mZ,u16,mY,mX,mW,u20,u21,u22,u23,u24,u25,u26,u27,u28,u29,u30,u31,u32,u33,u34,u35,u36,u37,u38,u39,u40,u41,u42,u43,u44,u45,u46,u47,u48,u49,u50,u51,u52,u53,u54,u55,u56,u57],defers:=[]}/\R e w
def Dk.opened (k:Dk Sx)(start q:Nat)(l:List (Nat × Sx)):Int × Dk Sx:=if l=[]then(0,k)else k.finish start q l
section
variable {w:qaj}{S:Nat->Prop}{b start n:Nat}{k:Dk Sx}
def aaE(S:Nat->Prop)(w:qaj)(b start n q m:Nat)(c:Int × Dk Sx)(v:qaC)(w':qaj):Prop:=
 (c.1=0/\∃bj,v=.tuple #[.pointer (some ⟨bj,0,none⟩),m,()]/\w.heap.size<=bj/\Kept S w w'/\∃S',Zv sx w' S' b c.2/\(∀i,S' i->S i\/w.heap.size<=i)/\JB w' bj b start n q/\¬ S' bj)\/
 (c.1≠0/\v=.tuple #[.pointer none,(),c.1]/\Turned sx S w w' b c.2)
theorem zI(hD:Zv sx w S b k)(hd:k.dead=false)(hs:start<=4096)(Ce:3<=n)(hn:n<=4096)(hsn:start+n<=k.safe.length)(hlen:k.safe.length<=4096)(hun:k.un.length<=100000)(c:Sx)(hc:k.now[start]? =some c)(q:Nat)(l:List (Nat × Sx))(m:Nat)(hm:l.length=m)(hh:UL c q m)(hr:m<=room n)
  (hL:Nj k.now start l)(hp:∀p∈l,Xy k.safe.length start n (p.1:Int)=true):
  qa1 Tryz.prog 80 #[.pointer b,start,n] w fun e w'=>∃v,e=.returned v/\aaE S w b start n q m (k.opened start q l) v w':=by
 have jA:m<=4096:=by unfold room at hr;omega
 have Gf:=hh.lt.1
 have HD:=χ hD
 have Hd:=χ hd
 have Hc:=χ hc
 have Hh:=χ hh
 have HL:=χ hL
 have Hp:=χ hp
 have Hm:=χ hm
 have Hsn:=χ hsn
 have Hlen:=χ hlen
 have yt:=χ hun
 have ab2:=χ (Me hD Ce hn hlen hsn)
 generalize hcc:k.opened start q l=cc
 have oG:=χ hcc
 clear hD hd hc hh hL hp hm hsn hlen hun hcc
 have e1:(w.alloc (.cells #[.pointer b,start,n,.int .u64 0] 194)).heap.size=w.heap.size+1:=by simp
 have hB0:=Bk.new w 194 [.pointer b,start,n,.int .u64 0]
 have hJ0:JB (w.alloc (.cells #[.pointer b,start,n,.int .u64 0] 194)) w.heap.size b start n 0:=hB0
 have hb0:qap w.heap.size w (w.alloc (.cells #[.pointer b,start,n,.int .u64 0] 194)):=(qah _ _).alloc (qac _) _
 have HB0:=χ hB0
 have HJ0:=χ hJ0
 have Hb0:=χ hb0
 have E1:=χ e1
 clear hB0 hJ0 hb0 e1
 go_enter Tryz.func80,Tryz.ntmps80
 go_wp2
 refine VZ 0 0 (fun _ _=>False) (aaD (.pointer b) (.int .i64 start) (.int .i64 n) (fun e w'=>aaE S w b start n q m cc (.tuple #[.pointer none,(),e]) w')) (fun _ _=>0) rfl rfl ?_ (fun _ _ h=>h.elim) ?_
 ·go_wp2_with (go_at_call 149;refine ab2.out.mono ?_;rintro e w' ⟨rfl,rfl⟩)
  refine(Ju HJ0.out (HD.out.below Hb0.out) Ce hn Hd.out c Hc.out q m Hh.out hr).mono ?_
  rintro e w1 ⟨rfl,hb1⟩
  have jv:JB w1 w.heap.size b start n 0:=(hb1.block w.heap.size (by rw[E1.out];exact Nat.lt_succ_self _)).trans HJ0.out
  have cz:=jv.cell 3
  have fz:=jv.frozen 3
  have hBel:qap w.heap.size w (w1.setCell ⟨w.heap.size,3,none⟩ (.int .u64 q)):=(Hb0.out.trans (hb1.mono Hb0.out.size)).setCell (p:=⟨w.heap.size,3,none⟩) (qac _) _
  have hJ2:JB (w1.setCell ⟨w.heap.size,3,none⟩ (.int .u64 q)) w.heap.size b start n q:=jv.set 3 _
  obtain⟨w2,hw2⟩:∃w2,w2=w1.setCell ⟨w.heap.size,3,none⟩ (.int .u64 q):=⟨_,rfl⟩
  rw[<-hw2]at hBel hJ2
  have c2:=hJ2.cell 3
  have HB2:=χ hBel
  have HJ2:=χ hJ2
  have HW2:=χ hw2
  have hnS:¬ S w.heap.size:=fun h=>by have:=HD.out.lt h;omega
  have HnS:=χ hnS
  clear hb1 jv hBel hJ2 hw2 hnS
  by_cases hm0:m=0
  ·subst hm0
   clear c2
   go_wp2
   rw[VH]
   go_ret3
   refine⟨_,rfl,.inl ?_⟩
   have hl:l=[]:=List.eq_nil_of_length_eq_zero Hm.out
   have hcc:cc=(0,k):=by rw[<-oG.out,Dk.opened,if_pos hl]
   rw[hcc,<-HW2.out]
   exact⟨rfl,w.heap.size,rfl,qac _,Kept.of_below HB2.out,S,HD.out.below HB2.out,fun i hi=>.inl hi,HJ2.out,HnS.out⟩
  ·have hmb:((m:Int)==0)=false:=beq_eq_false_iff_ne.2 (by omega)
   have Hl:=χ (yo (S:=S) (k:=k) HJ2.out (HD.out.below HB2.out) Hd.out hs hn l m Hm.out jA HL.out (fun p hp=>⟨by have:=(Nh (Hp.out p hp)).1;have:=Hlen.out;omega,Hp.out p hp⟩))
   go_wp2_with fail
   rw[<-HW2.out]
   refine Hl.out.mono ?_
   rintro e w3 ⟨gl,rfl,hP3,hb3⟩
   have hJ3:JB w3 w.heap.size b start n q:=(hb3.block _ HJ2.out.lt).trans HJ2.out
   have hD3:Zv sx w3 S b k:=(HD.out.below HB2.out).below hb3
   have aaF:XR w3 (fun i=>¬ S i) (some ⟨gl,0,none⟩) (ints l):=hP3.more fun i _ hi hs=>by have hi':w2.heap.size<=i:=hi;have:=HD.out.lt hs;have:=HB2.out.size;omega
   have Hb3:=χ (HB2.out.trans (hb3.mono HB2.out.size))
   have HJ3:=χ hJ3
   have HD3:=χ hD3
   have aa:=χ aaF
   have c3:=hJ3.cell 3
   clear hP3 hb3 hJ3 hD3 aaF c2
   go_wp2_with fail
   refine(Ng (start:=start) HJ3.out HD3.out HnS.out aa.out (fun t ht=>ht) m m Hm.out (fun p hp=>(Nh (Hp.out p hp)).1) (by have:=Hsn.out;omega) (by have:=yt.out;omega) q Gf).mono ?_
   rintro e w4 ⟨rfl,jH⟩
   have hcc:cc=k.finish start q l:=by rw[<-oG.out,Dk.opened,if_neg (fun h=>hm0 (by rw[<-Hm.out,h];rfl))]
   rw[<-hcc]at jH⊢
   have rM:Turned sx S w w4 b cc.2:=Turned.trans (Kept.of_below Hb3.out) (fun t ht=>.inl ht) jH
   have hJ4:JB w4 w.heap.size b start n q:=(jH.1.block _ HJ3.out.lt HnS.out).trans HJ3.out
   have QI:Hid (∃S',Zv sx w4 S' b cc.2/\(∀i,S' i->S i\/w.heap.size<=i)/\¬ S' w.heap.size):=by
    obtain⟨_,S',hD',hS'⟩:=jH
    refine⟨S',hD',fun i hi=>(hS' i hi).elim .inl fun h=>.inr (Nat.le_trans Hb3.out.size h),fun h=>?_⟩
    rcases hS' _ h with h1|h1
    ·exact HnS.out h1
    ·have:=HJ3.out.lt;omega
   have HTw:=χ rM
   have HJ4:=χ hJ4
   clear jH rM hJ4 hcc c3
   obtain⟨x,k4⟩:=cc
   simp only at HTw QI⊢
   by_cases hx:x=0
   ·subst hx
    go_wp2
    rw[VH]
    go_ret3
    refine⟨_,rfl,.inl ⟨rfl,w.heap.size,rfl,qac _,HTw.out.1,?_⟩⟩
    obtain⟨S',hD',hS',hn'⟩:=QI.out
    exact⟨S',hD',hS',HJ4.out,hn'⟩
   ·have hbb:(x != 0)=true:=by simp[hx]
    go_wp2
    go_step3
    exact .inr ⟨rfl,_,_,_,_,_,_,_,_,_,_,_,_,_,_,_,_,_,_,_,_,_,_,_,_,_,_,_,_,_,_,_,_,_,_,_,_,_,_,_,_,_,_,_,_,_,_,_,_,_,_,_,_,_,_,_,rfl,.inr ⟨hx,rfl,HTw.out⟩⟩
 ·rintro a w1 ⟨e,u3,u4,u5,u6,u7,u8,u9,Pn,Qe,Mv,ng,mZ,u16,mY,mX,mW,u20,u21,u22,u23,u24,u25,u26,u27,u28,u29,u30,u31,u32,u33,u34,u35,u36,u37,u38,u39,u40,u41,u42,u43,u44,u45,u46,u47,u48,u49,u50,u51,u52,u53,u54,u55,u56,u57,rfl,hR⟩
  go_wp2
  rw[VH]
  go_ret3
  exact⟨_,rfl,hR⟩
end
end Go.Proofs.YtmehhgfbnfbnaaaGreat

namespace Go.Proofs.YtmehhgfbnfbnaaaGreat.UH
open Go.Proofs.YtmehhgfbnfbnaaaGreat
open Go.RowKit
section
variable {α:Type}
section
variable {l:List (Nat × α)}
theorem RD:∀{L L':List α}{s:Nat},L.length=L'.length->(∃p∈l,p.1=s)->(puts L l)[s]? =(puts L' l)[s]? :=by
 induction l with
 |nil=>rintro L L' s _ ⟨p,hp,_⟩;cases hp
 |cons p l ih=>
  intro L L' s hl h
  rw[XJ,XJ]
  by_cases hs:∃q∈l,q.1=s
  ·exact ih (by simp[hl]) hs
  ·have hn:∀q∈l,q.1≠s:=fun q hq e=>hs ⟨q,hq,e⟩
   rw[YF hn,YF hn]
   obtain⟨q,hq,e⟩:=h
   rcases List.mem_cons.1 hq with rfl|hq
   ·subst e
    rw[qaa,qaa,if_pos rfl,if_pos rfl,hl]
   ·exact absurd e (hn q hq)
theorem Nk{L:List α}{sub:List (Nat × α)}(h:∀p∈sub,p∈l):puts (puts L sub) l=puts L l:=by
 apply List.ext_getElem?
 intro s
 by_cases hs:∃q∈l,q.1=s
 ·exact RD (Yn _ _) hs
 ·have hn:∀q∈l,q.1≠s:=fun q hq e=>hs ⟨q,hq,e⟩
  rw[YF hn,YF hn,YF fun q hq=>hn q (h q hq)]
theorem Gj(L:List α)(s:Nat)(x:α):puts L [(s,x)]=L.set s x:=rfl
theorem RB{s:Nat}{x:α}:∀{sub:List (Nat × α)}{L:List α},(∀p∈sub,p=(s,x))->sub=[]/\puts L sub=L\/puts L sub=L.set s x
 |[],L,_=>.inl ⟨rfl,rfl⟩
 |p::r,L,h=>by
  right
  rw[XJ,h p (List.mem_cons_self ..)]
  rcases RB (sub:=r) (L:=L.set s x) fun q hq=>h q (List.mem_cons_of_mem _ hq)with⟨_,h1⟩|h1
  ·exact h1
  ·rw[h1,List.set_set]
theorem WQ(l:List (Nat × α)):∀k:Dk α,k.dead=false->
  ((k.writes l).1=0/\(k.writes l).2.safe=puts k.now l/\(k.writes l).2.un=[]/\(k.writes l).2.dead=false/\(k.writes l).2.cut=k.cut)\/
  (k.cut=true/\(k.writes l).1=6/\(k.writes l).2.dead=true/\(k.writes l).2.safe=k.safe/\∃m,(k.writes l).2.un=k.un++l.take m):=by
 induction l with
 |nil=>
  intro k hd
  unfold Dk.writes
  cases ho:k.off
  ·left
   simp[Dk.flush,ho,Dk.op,Xa,hd]
  ·right
   have hc:k.cut=true:=by
    simp[Dk.off,hd]at ho;exact ho.1
   simp[Dk.flush,ho,Dk.op,hc]
 |cons p l ih=>
  intro k hd
  unfold Dk.writes
  cases ho:k.off
  ·have hw:(k.wrote p.1 p.2).dead=false:=by simp[Dk.wrote,Dk.op,ho,hd]
   have hcut:(k.wrote p.1 p.2).cut=k.cut:=by simp[Dk.wrote,Dk.op,ho]
   have Kc:(k.wrote p.1 p.2).now=puts k.now [p]:=by
    rw[Dk.now,Dk.VE,Dk.Tx,UX];rfl
   rcases ih (k.wrote p.1 p.2) hw with⟨h1,h2,h3,h4,h5⟩|⟨h1,h2,h3,h4,m,h5⟩
   ·left
    simp only[Bool.false_eq_true,if_false]
    refine⟨h1,?_,h3,h4,h5.trans hcut⟩
    rw[h2,Kc,XJ,Xa,XJ]
   ·right
    simp only[Bool.false_eq_true,if_false]
    refine⟨hcut▸h1,h2,h3,h4.trans (Dk.VE _ _ _),m+1,?_⟩
    rw[h5,Dk.Tx,List.take_succ_cons,List.append_assoc];rfl
  ·right
   have hc:k.cut=true:=by
    simp[Dk.off,hd]at ho;exact ho.1
   simp only[if_true]
   refine⟨hc,trivial,?_,Dk.Uh k,0,?_⟩
   ·simp[Dk.op,ho]
   ·simp[Dk.O7]
theorem Ug(k:Dk α)(t:Nat):∃sub,(∀p∈sub,p∈k.un)/\(k.Gi t).safe=puts k.safe sub/\(k.Gi t).un=[]/\(k.Gi t).dead=false/\(k.Gi t).cut=false:=
 ⟨kept t 0 k.un,Gh,rfl,rfl,rfl,rfl⟩
theorem UE{k:Dk α}(h:k.un=[]):k.now=k.safe:=by rw[Dk.now,h,Xa]
end
end
section
variable {n F T q i N M:Nat}{l sub:List (Nat × Sx)}{S S':List Sx}{k:Dk Sx}
structure vO(F n T:Nat):Prop where
 lo:1<=n
 hi:F+n<=T
 small:T<=65535
def Out(F n i:Nat):Prop:=i<F\/F+n<=i
def IJ(F n T:Nat)(l:List (Nat × Sx)):Prop:=∀p∈l,Out F n p.1/\p.1<T
def vw(F n:Nat)(S:List Sx)(i:Nat):Option Sx:=if i<F\/F+n<=i then S[i]? else none
theorem Jw(h:∀i,Out F n i->S'[i]? =S[i]?):vw F n S'=vw F n S:=by
 funext i
 unfold vw
 split
 ·exact h i (by assumption)
 ·rfl
theorem uZ(h:Out F n i):vw F n S i=S[i]? :=if_pos h
theorem DC(hn:1<=n)(S:List Sx)(x:Sx):vw F n (S.set F x)=vw F n S:=Jw fun i hi=>by
 rw[qaa,if_neg (by rintro rfl;rcases hi with hi|hi<;>omega)]
structure E8(F n T:Nat)(S:List Sx)(q:Nat)(l:List (Nat × Sx)):Prop where
 len:S.length=T
 head:∃c,S[F]? =some c/\UL c q l.length
 loads:Nj S F l
 val:IJ F n T l
 room:(stored l).length+1<=n
theorem QJ(q m:Nat)(hq:q<18446744073709551616)(hm:m<65536):UL (Yl q m) q m:=.inl ⟨rfl,hq,hm⟩
theorem K7(h:Nj S F l)(hr:(stored l).length+1<=n)(hs:∀i,F+1<=i->i<F+n->S'[i]? =S[i]?):Nj S' F l:=fun i p hp=>by
 obtain⟨cl,cb,h1,h2,h3⟩:=h i p hp
 obtain⟨g1,g2⟩:=K6 l i p hp
 have l1:=(qaf.1 g1).1
 have l2:=(qaf.1 g2).1
 exact⟨cl,cb,(hs _ (by omega) (by omega)).trans h1,(hs _ (by omega) (by omega)).trans h2,h3⟩
theorem Qg(F:Nat)(S:List Sx):Nj S F []:=fun i p h=>by simp at h
theorem Bn(h:IJ F n T sub)(hi:F<=i)(h2:i<F+n):(puts S sub)[i]? =S[i]? :=YF fun p hp=>by
 have:=(h p hp).1
 intro e
 rcases this with h|h<;>omega
theorem E8.subs (hP:vO F n T)(h:E8 F n T S q l)(hs:∀p∈sub,p∈l):E8 F n T (puts S sub) q l/\puts (puts S sub) l=puts S l:=by
 have hv:IJ F n T sub:=fun p hp=>h.val p (hs p hp)
 have hlo:=hP.lo
 refine⟨⟨by rw[Yn,h.len],?_,K7 h.loads h.room fun i hi h2=>Bn hv (by omega) h2,h.val,h.room⟩,Nk hs⟩
 obtain⟨c,h1,h2⟩:=h.head
 exact⟨c,(Bn hv (qac _) (by omega)).trans h1,h2⟩
theorem E8.rest (hP:vO F n T)(hl:S.length=T)(hq:q<18446744073709551616):E8 F n T (S.set F (Yl q 0)) q []:=
 ⟨by rw[qaE,hl],⟨Yl q 0,by rw[qaa,if_pos rfl,if_pos (by have:=hP.lo;have:=hP.hi;omega)],QJ q 0 hq (by omega)⟩,Qg _ _,fun p hp=>(by cases hp),by rw[Yv];have:=hP.lo;simpa using this⟩
def Safe(F n T N:Nat)(S:List Sx)(V:Nat->Option Sx):Prop:=∃q l,E8 F n T S q l/\q<=N/\vw F n (puts S l)=V
structure Rest(F n T:Nat)(k:Dk Sx)(q:Nat):Prop where
 img:E8 F n T k.safe q []
 un:k.un=[]
 dead:k.dead=false
structure EE(F n T N:Nat)(k:Dk Sx)(P:(Nat->Option Sx)->Prop):Prop where
 dead:k.dead=true
 un:k.un.length<=n
 len:k.safe.length=T
 safe:∀t,∃V,P V/\Safe F n T N (k.Gi t).safe V
theorem Gg(h:(stored l).length+1<=n):l.length+1<=n:=by
 rw[Yv]at h
 omega
theorem O6(hP:vO F n T)(h:E8 F n T k.safe q l)(hu:k.un=[])(hd:k.dead=false)(hq:q<18446744073709551616):
  ((k.finish F q l).1=0/\Rest F n T (k.finish F q l).2 q/\(k.finish F q l).2.safe=(puts k.safe l).set F (Yl q 0)/\(k.finish F q l).2.cut=k.cut)\/
  (k.cut=true/\(k.finish F q l).1=6/\EE F n T q (k.finish F q l).2 (fun V=>V=vw F n (puts k.safe l))):=by
 have hlo:=hP.lo
 have hrl:=Gg h.room
 unfold Dk.finish
 rcases WQ l k hd with⟨h1,h2,h3,h4,h5⟩|⟨h1,h2,h3,h4,m,h5⟩
 ·rw[if_pos h1]
  rw[UE hu]at h2
  have hI:=(h.subs hP fun p hp=>hp).1
  rw[<-h2]at hI
  rcases WQ [(F,Yl q 0)] (k.writes l).2 h4 with⟨g1,g2,g3,g4,g5⟩|⟨g1,g2,g3,g4,m,g5⟩
  ·left
   rw[UE h3,h2,Gj]at g2
   refine⟨g1,⟨?_,g3,g4⟩,g2,g5.trans h5⟩
   rw[g2]
   exact E8.rest hP (by rw[Yn,h.len]) hq
  ·right
   refine⟨by rw[<-h5];exact g1,g2,g3,?_,by rw[g4,h2,Yn,h.len],fun t=>?_⟩
   ·rw[g5,h3,qak,qaD];simp only[qaH];omega
   ·obtain⟨sub,c1,c2,_,_,_⟩:=Ug ((k.writes l).2.writes [(F,Yl q 0)]).2 t
    rw[g5,h3,qak]at c1
    rw[g4]at c2
    refine⟨_,rfl,?_⟩
    rw[c2]
    have hall:∀p∈sub,p=(F,Yl q 0):=fun p hp=>by
     have:=qar (c1 p hp)
     simpa using this
    rcases RB (L:=(k.writes l).2.safe) hall with⟨_,hc⟩|hc
    ·rw[hc]
     exact⟨q,l,hI,qac _,by rw[h2,Nk fun p hp=>hp]⟩
    ·rw[hc]
     exact⟨q,[],E8.rest hP hI.len hq,qac _,by rw[Xa,DC hlo,h2]⟩
 ·right
  rw[if_neg (by rw[h2];decide)]
  refine⟨h1,h2,h3,?_,by rw[h4,h.len],fun t=>?_⟩
  ·rw[h5,hu,qak,qaD];omega
  ·obtain⟨sub,c1,c2,_,_,_⟩:=Ug (k.writes l).2 t
   rw[h5,hu,qak]at c1
   rw[h4]at c2
   obtain⟨i1,i2⟩:=h.subs hP fun p hp=>qar (c1 p hp)
   exact⟨_,rfl,q,l,by rw[c2];exact i1,qac _,by rw[c2,i2]⟩
theorem Safe.up {V:Nat->Option Sx}(h:Safe F n T N S V)(hM:N<=M):Safe F n T M S V:=by
 obtain⟨q,l,h1,h2,h3⟩:=h
 exact⟨q,l,h1,by omega,h3⟩
theorem EE.up {P Q:(Nat->Option Sx)->Prop}(h:EE F n T N k P)(hM:N<=M)(hPQ:∀V,P V->Q V):EE F n T M k Q:=
 ⟨h.dead,h.un,h.len,fun t=>by
  obtain⟨V,h1,h2⟩:=h.safe t
  exact⟨V,hPQ V h1,h2.up hM⟩⟩
theorem Jv(hP:vO F n T)(hl:S.length=T)(hr:(stored l).length+1<=n)(hv:IJ F n T l):Nj (puts S (placed (F+1) (stored l))) F l:=fun i p hp=>by
 obtain⟨h1,h2⟩:=K6 l i p hp
 have hhi:=hP.hi
 have a1:=TA (stored l) (F+1) S (by omega) _ _ h1
 have a2:=TA (stored l) (F+1) S (by omega) _ _ h2
 have hg:(PT l (i/15))[i%15]? =some p:=by
  rw[PT,List.getElem?_take,if_pos (by omega),List.getElem?_drop,show 15*(i/15)+i%15=i by omega];exact hp
 have aaC:(PT l (i/15)).length<=15:=by rw[Vu];omega
 obtain⟨w1,w2⟩:=yu _ _ _ hg
 have hpT:=(hv p (List.mem_of_getElem? hp)).2
 have hsm:=hP.small
 exact⟨_,_,a1,by rw[show F+1+i/15*16+1+i%15=F+1+(i/15*16+1+i%15)by omega];exact a2,Ni _ aaC _ _ w1 (by omega),Ni _ aaC _ _ w2 p.2.ht,rfl⟩
theorem PR(hr:(stored l).length+1<=n):∀p∈placed (F+1) (stored l),F+1<=p.1/\p.1<F+n:=fun _p hp=>by
 obtain⟨h1,h2,_⟩:=RA hp
 omega
def after(F:Nat)(S:List Sx)(q:Nat)(l:List (Nat × Sx)):List Sx:=(puts ((puts S (placed (F+1) (stored l))).set F (Yl (q+1) l.length)) l).set F (Yl (q+1) 0)
theorem Iz(hP:vO F n T)(h:Rest F n T k q)(_hl:l≠[])(hv:IJ F n T l)(hr:(stored l).length+1<=n)(hq:q+1<18446744073709551616):
  ((k.XY F q l).1=0/\Rest F n T (k.XY F q l).2 (q+1)/\(k.XY F q l).2.safe=after F k.safe q l/\(k.XY F q l).2.cut=k.cut)\/
  (k.cut=true/\(k.XY F q l).1=6/\EE F n T (q+1) (k.XY F q l).2 (fun V=>V=vw F n k.safe\/V=vw F n (puts k.safe l))):=by
 have hlo:=hP.lo
 have hhi:=hP.hi
 have hsm:=hP.small
 have hrl:=Gg hr
 obtain⟨⟨hlen,⟨ch,hc1,hc2⟩,_,_,_⟩,hu,hd⟩:=h
 have hsub:∀sub,(∀p∈sub,p∈placed (F+1) (stored l))->E8 F n T (puts k.safe sub) q []/\vw F n (puts k.safe sub)=vw F n k.safe:=fun sub hs=>by
  have wM:∀p∈sub,F+1<=p.1/\p.1<F+n:=fun p hp=>PR hr p (hs p hp)
  exact⟨⟨by rw[Yn,hlen],⟨ch,(YF fun p hp=>by have:=wM p hp;omega).trans hc1,hc2⟩,Qg _ _,fun p hp=>(by cases hp),by rw[Yv];simpa using hlo⟩,Jw fun i hi=>YF fun p hp=>by have:=wM p hp;rcases hi with hi|hi<;>omega⟩
 unfold Dk.XY
 rcases WQ (placed (F+1) (stored l)) k hd with⟨h1,h2,h3,h4,h5⟩|⟨h1,h2,h3,h4,m,h5⟩
 ·rw[if_pos h1]
  rw[UE hu]at h2
  obtain⟨i1,i2⟩:=hsub _ fun p hp=>hp
  have hld:=Jv hP hlen hr hv
  rw[<-h2]at i1 i2 hld
  obtain⟨k1,hk1⟩:∃k1,k1=(k.writes (placed (F+1) (stored l))).2:=⟨_,rfl⟩
  rw[<-hk1]at h2 h3 h4 h5 i1 i2 hld⊢
  have hI2:E8 F n T (k1.safe.set F (Yl (q+1) l.length)) (q+1) l:=⟨by rw[qaE,i1.len],⟨_,by rw[qaa,if_pos rfl,if_pos (by rw[i1.len];omega)],QJ _ _ hq (by omega)⟩,K7 hld hr fun i hi _=>by rw[qaa,if_neg (by omega)],hv,hr⟩
  have hV:vw F n (puts (k1.safe.set F (Yl (q+1) l.length)) l)=vw F n (puts k.safe l):=by
   refine Jw fun i hi=>?_
   have hii:(k1.safe.set F (Yl (q+1) l.length))[i]? =k.safe[i]? :=by
    rw[qaa,if_neg (by rcases hi with hi|hi<;>omega),h2,YF fun p hp=>by have:=PR hr p hp;rcases hi with hi|hi<;>omega]
   by_cases hs:∃p∈l,p.1=i
   ·exact RD (by rw[qaE,i1.len,hlen]) hs
   ·have hn:∀p∈l,p.1≠i:=fun p hp e=>hs ⟨p,hp,e⟩
    rw[YF hn,YF hn,hii]
  unfold Dk.tell
  rcases WQ [(F,Yl (q+1) l.length)] k1 h4 with⟨g1,g2,g3,g4,g5⟩|⟨g1,g2,g3,g4,m,g5⟩
  ·rw[if_pos g1]
   rw[UE h3,Gj]at g2
   rw[<-g2]at hI2 hV
   rcases O6 hP hI2 g3 g4 hq with⟨f1,f2,f3,f4⟩|⟨f0,f1,f2⟩
   ·left
    refine⟨f1,f2,?_,f4.trans (g5.trans h5)⟩
    rw[f3,g2,h2];rfl
   ·right
    refine⟨by rw[<-h5,<-g5];exact f0,f1,f2.up (qac _) fun V hV'=>?_⟩
    right
    rw[hV',hV]
  ·right
   rw[if_neg (by rw[g2];decide)]
   refine⟨by rw[<-h5];exact g1,g2,g3,?_,by rw[g4,i1.len],fun t=>?_⟩
   ·rw[g5,h3,qak,qaD];simp only[qaH];omega
   ·obtain⟨sub,c1,c2,_,_,_⟩:=Ug (k1.writes [(F,Yl (q+1) l.length)]).2 t
    rw[g5,h3,qak]at c1
    rw[g4]at c2
    rw[c2]
    have hall:∀p∈sub,p=(F,Yl (q+1) l.length):=fun p hp=>by
     have:=qar (c1 p hp)
     simpa using this
    rcases RB (L:=k1.safe) hall with⟨_,hc⟩|hc
    ·rw[hc]
     exact⟨_,.inl rfl,q,[],i1,by omega,by rw[Xa,i2]⟩
    ·rw[hc]
     exact⟨_,.inr rfl,q+1,l,hI2,qac _,hV⟩
 ·right
  rw[if_neg (by rw[h2];decide)]
  refine⟨h1,h2,h3,?_,by rw[h4,hlen],fun t=>?_⟩
  ·rw[h5,hu,qak,qaD,Wm];omega
  ·obtain⟨sub,c1,c2,_,_,_⟩:=Ug (k.writes (placed (F+1) (stored l))).2 t
   rw[h5,hu,qak]at c1
   rw[h4]at c2
   obtain⟨i1,i2⟩:=hsub sub fun p hp=>qar (c1 p hp)
   exact⟨_,.inl rfl,q,[],by rw[c2];exact i1,by omega,by rw[c2,Xa,i2]⟩
theorem vH(hP:vO F n T)(S:List Sx)(q:Nat)(hr:(stored l).length+1<=n):vw F n (after F S q l)=vw F n (puts S l):=by
 have hlo:=hP.lo
 unfold after
 rw[DC hlo]
 refine Jw fun i hi=>?_
 by_cases hs:∃p∈l,p.1=i
 ·exact RD (by rw[qaE,Yn]) hs
 ·have hn:∀p∈l,p.1≠i:=fun p hp e=>hs ⟨p,hp,e⟩
  rw[YF hn,YF hn,qaa,if_neg (by rcases hi with hi|hi<;>omega),YF fun p hp=>by have:=PR hr p hp;rcases hi with hi|hi<;>omega]
theorem Ie(hP:vO F n T)(h:E8 F n T k.safe q l)(hu:k.un=[])(hd:k.dead=false)(hq:q<18446744073709551616):
  ((k.opened F q l).1=0/\Rest F n T (k.opened F q l).2 q/\vw F n (k.opened F q l).2.safe=vw F n (puts k.safe l)/\(k.opened F q l).2.cut=k.cut)\/
  (k.cut=true/\(k.opened F q l).1=6/\EE F n T q (k.opened F q l).2 (fun V=>V=vw F n (puts k.safe l))):=by
 unfold Dk.opened
 by_cases hl:l=[]
 ·subst hl
  rw[if_pos rfl]
  exact .inl ⟨rfl,⟨h,hu,hd⟩,by rw[Xa],rfl⟩
 ·rw[if_neg hl]
  rcases O6 hP h hu hd hq with⟨f1,f2,f3,f4⟩|f
  ·left
   exact⟨f1,f2,by rw[f3,DC hP.lo],f4⟩
  ·exact .inr f
end
end Go.Proofs.YtmehhgfbnfbnaaaGreat.UH
