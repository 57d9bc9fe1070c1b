import Derived.Test.YtmehhgfbnfbnaaaGreatQMetaB
import Derived.Test.YtmehhgfbnfbnaaaGreatQTk
set_option maxRecDepth 100000
set_option maxHeartbeats 25600000
open Go.RowKit.Below renaming refl->qaa
open Nat renaming le_refl->qab
open Go renaming grownBy_putObj'->qac
namespace Go.Proofs.YtmehhgfbnfbnaaaGreat.Meta
open Go.Proofs.YtmehhgfbnfbnaaaGreat
open Go.RowKit Go.Shelf
attribute [local go_sem] Oper.semAt_some
theorem Df(l:List Z9.ZC)(ho:∀m∈l,Z9.YP m)(hR:∀m∈l,Z9.Right m)(b0 o0 m c:Nat)(w:World)(hm:l.length=m)(hev:m%2=0)(h0:0<m)(hmm:m<=64)(hmc:m<=c)(hr:Rd w w.heap.size (some ⟨b0,o0,none⟩) (Y3 l)):
  Calls Tryz.prog 138 #[.slice (some ⟨b0,o0,none⟩) m c] w fun e w'=>∃v L,e=.returned v/\Zx w' w.heap.size v L (pairs l)/\Below w.heap.size w w':=by
 have HO:=χ ho
 have HR:=χ hR
 have Im:=χ hr
 have Hm:=χ hm
 have HEV:=χ hev
 clear ho hR hr hm hev
 refine(callsIn_wide (n:=5)).1 ?_
 refine callsIn_of_wp_marks Tryz.func138 rfl trivial ?_ rfl
 simp only[Tryz.ntmps138,List.size_toArray,List.length_cons,List.length_nil,Nat.reduceAdd,Nat.reduceSub,Array.replicate_succ,Array.replicate_zero,List.push_toArray,List.append_toArray,List.nil_append,List.cons_append]
 gi_wp2_with (refine⟨trivial,?_⟩;gi_at_call 209;refine(xQ _ _ _ _ _).mono ?_;rintro e w' ⟨rfl,rfl⟩)
 have bS:=Boxed.new w 130 (.slice none 0 0)
 have e1:(w.alloc (.cells #[.slice none 0 0] 130)).heap.size=w.heap.size+1:=by simp
 obtain⟨w1,hw1⟩:∃w1,w1=w.alloc (.cells #[.slice none 0 0] 130):=⟨_,rfl⟩
 have b1:Below w.heap.size w w1:=by rw[hw1];exact(qaa _ w).alloc (qab _) _
 rw[<-hw1]at bS e1⊢
 have bL:=Boxed.new w1 58 (.slice (some ⟨b0,o0,none⟩) m c)
 have bN:=Boxed.new (w1.alloc (.cells #[.slice (some ⟨b0,o0,none⟩) m c] 58)) 3 (.int .i64 2)
 have e2:(w1.alloc (.cells #[.slice (some ⟨b0,o0,none⟩) m c] 58)).heap.size=w1.heap.size+1:=by simp
 obtain⟨w2,hw2⟩:∃w2,w2=w1.alloc (.cells #[.slice (some ⟨b0,o0,none⟩) m c] 58):=⟨_,rfl⟩
 rw[<-hw2]at bL e2 bN⊢
 have e3:(w2.alloc (.cells #[.int .i64 2] 3)).heap.size=w2.heap.size+1:=by simp
 obtain⟨w3,hw3⟩:∃w3,w3=w2.alloc (.cells #[.int .i64 2] 3):=⟨_,rfl⟩
 have b2:Below w.heap.size w1 w2:=by rw[hw2];exact(qaa _ w1).alloc (by omega) _
 have b3:Below w.heap.size w2 w3:=by rw[hw3];exact(qaa _ w2).alloc (by omega) _
 have bS3:Boxed w3 w.heap.size 130 (.slice none 0 0):=by rw[hw3,hw2];exact(bS.alloc _).alloc _
 have FV:Boxed w3 (w.heap.size+1) 58 (.slice (some ⟨b0,o0,none⟩) m c):=by rw[hw3,<-e1];exact bL.alloc _
 have FU:Boxed w3 (w.heap.size+1+1) 3 (.int .i64 2):=by rw[hw3,show w.heap.size+1+1=w2.heap.size by omega];exact bN
 rw[<-hw3]at e3⊢
 have hsz:w3.heap.size=w.heap.size+3:=by omega
 have B3:Below w.heap.size w w3:=(b1.trans b2).trans b3
 clear bS bL bN b1 b2 b3
 clear hw1 hw2 hw3 e1 e2 e3
 refine wpIn_rangeFunc_ownF rfl (by omega) (gf:=249) (lb:=#[.pointer (some ⟨w.heap.size+1,0,none⟩),.pointer (some ⟨w.heap.size+1+1,0,none⟩)]) rfl trivial (enters_of Tryz.func249 (by kernel_rfl) rfl)
  (Jg 4 (by omega) (w.heap.size+1) (w.heap.size+1+1) b0 o0 m c (by omega) hmc w3 (by omega) (by omega) FV.cell FU.cell) Two.trans (fun W k o o' hk _ _ _=>⟨World.putObj_heap_other (by omega),World.putObj_heap_other (by omega)⟩) (qaa _ _) (fun _=>rfl)
  (fun pre W=>jc w.heap.size w.heap.size (pre.map fun x=>OP l x.1) W/\Below w.heap.size w W/\Two (w.heap.size+1) (w.heap.size+1+1) w3 W)
  (fun _ _ _=>False)
  (OwnFrom.and (Own.from (xP _ _ _) _) (OwnFrom.and (ownFrom_below (qab _) (by omega)) (fun _ W W' row hs hg hr=>hs.trans ⟨hg.block _ (Uz hs.1 FV) (fun e=>by have:=(hr _ e.symm).1;omega),hg.block _ (Uz hs.2 FU) (fun e=>by have:=(hr _ e.symm).1;omega)⟩)))
  (fun _ _ _ _ _ hs _ _=>hs)
  ⟨⟨_,[],bS3,Zx.nil _ _⟩,B3,Two.refl _ _ _⟩
  (fun x=>{tmps:=#[.slice (some ⟨b0,o0,none⟩) m c,undef,.slice none 0 0,.pointer w.heap.size,UW b0 o0 m x.1,undef,undef,undef,undef,undef,.slice (some ⟨b0,o0,none⟩) m c,.func (.func 249) #[] #[.pointer (some ⟨w.heap.size+1,0,none⟩),.pointer (some ⟨w.heap.size+1+1,0,none⟩)],UW b0 o0 m x.1,undef,undef,undef,undef,undef,undef,undef,undef,undef,undef,undef,undef,undef,undef,undef,undef,undef,undef,undef,undef],defers:=[]}) ?assign ?body ?done ?stop
 case assign=>
  intro l' x W K hK
  gi_wp2
  exact hK
 case body=>
  rintro l' pre x W ⟨⟨v,L,hH,hS⟩,hB,rM⟩ hlen
  obtain⟨x,hx⟩:=x
  have hm2:=Hm.out
  have hev:=HEV.out
  obtain⟨p,q,hp,hq⟩:=lh (l:=l) (x:=x) (by omega) (by omega)
  have FO:=Bb hp hq
  have hch:UW b0 o0 m x=.slice (some ⟨b0,o0+2*x*14,none⟩) 2 2:=by
   unfold UW
   rw[show min 2 (m-2*x)=2 by omega]
  have HN:Hid (∀(a:Nat),a<2->∃n,[p,q][a]? =some n/\l[2*x+a]? =some n):=χ (fun a ha=>by
   match a,ha with
   |0,_=>exact⟨p,rfl,hp⟩
   |1,_=>exact⟨q,rfl,hq⟩)
  have HH:=χ hH
  have HS:=χ hS
  have HB:=χ hB
  have HT:=χ rM
  have HSE:=χ FO
  have Kn:Hid ((pre.map fun x=>OP l x.1).length<=100):=χ (by rw[List.length_map];omega)
  clear hm2 hev hp hq FO hH hS hB rM
  dsimp only
  rw[hch]
  clear hch
  have hd1:1<=5-1-1:=by omega
  gi_wp2
  gi_loopw [5,15] (fun u k wr=>∃a:Nat,k=.int .i64 a/\a<=2/\Hid (wr.ownsRow W.heap.size 5 1 u (32*a) (Z6 (([p,q].take a).flatMap Z9.ZK)))/\Hid (Below W.heap.size W wr)) (fun _ k _=>2-(intOf k).toNat)
  case atStart=>exact⟨0,rfl,Nat.zero_le _,χ (World.ownsRow_nil _ _ _ _),χ (qaa _ _)⟩
  case round=>
   obtain⟨a,rfl,ha,HU,IW⟩:=hrel
   by_cases hlt:a<2
   ·obtain⟨n,hn1,hn2⟩:=HN.out a hlt
    have hmem:=List.mem_of_getElem? hn2
    have hox:=HO.out n hmem
    have hrx:=HR.out n hmem
    have hax:=χ (Yi (Im.out.below (HB.out.trans (IW.out.mono HB.out.size))) HO.out hn2)
    have HLX:Hid (∀u:World,Calls Tryz.prog 210 #[.agg (Z9.ZX n).toArray] u fun e w'=>Z9.VY u (Z9.ZK n) 0 e w'):=χ (fun u=>by
     have:=Z9.Bv n hox u
     rwa[Z9.QP hrx]at this)
    have TW:=χ (Yu n hox)
    have E5:=χ (Z9.Y5 hox)
    have VF:=χ (Yj n)
    have HNX:Hid ((Z9.ZK n).length=32):=χ (Z9.YL hox)
    have hst:([p,q].take (a+1)).flatMap Z9.ZK=([p,q].take a).flatMap Z9.ZK++Z9.ZK n:=by
     rw[List.take_add_one,hn1,List.flatMap_append]
     simp
    have HST:=χ hst
    have V7:(a:Int)<2:=by omega
    have ha0:(0:Int)<=(a:Int):=by omega
    have hadd:o0+(2*x+a)*14=o0+2*x*14+a*14:=by rw[Nat.add_mul,Nat.add_assoc]
    rw[hadd]at hax
    clear hn1 hn2 hmem hox hrx hst hadd
    generalize Z9.ZX n=cx at*
    obtain⟨tk,htk⟩:∃tk,([p,q].take a).flatMap Z9.ZK=tk:=⟨_,rfl⟩
    rw[htk]at HU HST
    clear htk
    gi_wp2_with (first
     |(refine WH rfl 40 (.tmp 17) rfl b0 (o0+2*x*14+a*14) rfl cx _ hax.out Tryz.underlying40 rfl TW.out ?_)
     |(refine Vp rfl 40 (.tmp 7) (.tmp 18) rfl wr.heap.size 0 cx.toArray rfl rfl (UD _ _ _ _ (by simp[E5.out])) TW.out (all_oneCell_toArray VF.out) ?_;have TG:=χ (below_setCells (qab _) cx.toArray.toList 0 (Z0 wr (.cells #["","",(),(),(),(),(),(),(),(),(),(),(),()] 40)));have HRX:=χ (World.rangeAt_setCells_same (wr.alloc (.cells #["","",(),(),(),(),(),(),(),(),(),(),(),()] 40)) wr.heap.size 0 cx.toArray.toList (UD _ _ _ _ (by simp[E5.out])));generalize ((wr.alloc (.cells #["","",(),(),(),(),(),(),(),(),(),(),(),()] 40)).setCells wr.heap.size 0 cx.toArray.toList)=w7 at*)
     |(refine WH rfl 40 (.tmp 7) rfl wr.heap.size 0 rfl cx _ HRX.out Tryz.underlying40 rfl TW.out ?_)
     |(refine⟨trivial,?_⟩;gi_at_call 210;refine(CallsIn.inRound l' (callsIn_wide.2 (HLX.out _))).mono ?_;rintro e w8 ⟨v8,he,lq,hb⟩;obtain rfl:=he;rw[HNX.out]at lq;obtain⟨A8,c8,hv8⟩:=UB lq;subst hv8;have HR8:=χ (JZ lq);have ET:=χ (TG.out.trans (hb.mono TG.out.size));have HU8:=χ (own_below (HU.out) ET.out);obtain⟨v9,w9,hrun,hown,hgr⟩:=qF w8 37 W.heap.size _ (32*a) tk HU8.out w8.heap.size A8 32 c8 (Z9.ZK n) HNX.out HR8.out (by omega) (by have:=ET.out.size;have:=IW.out.size;omega);have Sm:=χ hrun;have HOWN:=χ hown;have HGR:=χ hgr;clear hb lq hrun hown hgr)
     |(gi_at_builtin;refine Zm rfl (.tmp 24) (.tmp 25) 37 rfl rfl rfl Sm.out ?_))
    have HU9:Hid (w9.ownsRow W.heap.size 5 1 v9 (32*(a+1)) (Z6 (([p,q].take (a+1)).flatMap Z9.ZK))):=χ (by rw[HST.out];exact HOWN.out)
    have IY:Hid (Below W.heap.size W w9):=χ ((IW.out.trans (ET.out.mono IW.out.size)).grown HGR.out (by have:=ET.out.size;have:=IW.out.size;omega) (fun k hk=>(HU8.out.lt k hk).1))
    clear HU8 HOWN HGR Sm
    gi_wp2
    go_roundw
    case rel=>exact⟨a+1,by go_num,hlt,HU9,IY⟩
    case measure=>simp[intOf];omega
   ·obtain rfl:a=2:=by omega
    have hfl:([p,q].take 2).flatMap Z9.ZK=OP l x:=by rw[HSE.out];simp
    rw[hfl]at HU
    have HLS:Hid ((OP l x).length=64):=χ (by
     have h1:=HU.out.1
     rw[Z4]at h1
     omega)
    obtain⟨A8,c8,hv8⟩:=UB HU.out
    subst hv8
    have aa6:Below w.heap.size w wr:=HB.out.trans (IW.out.mono HB.out.size)
    have dO:=χ aa6
    have aa7:Boxed wr w.heap.size 130 v:=(IW.out.block _ HH.out.lt).trans HH.out
    have HHr:=χ aa7
    have ja:=χ (HS.out.below IW.out)
    have hcb:=HHr.out.cell
    have hTr:Two (w.heap.size+1) (w.heap.size+1+1) W wr:=⟨IW.out.block _ (Uz HT.out.1 FV),IW.out.block _ (Uz HT.out.2 FU)⟩
    have HTR:=χ hTr
    obtain⟨ls,hls⟩:∃ls,(pre.map fun x=>OP l x.1)=ls:=⟨_,rfl⟩
    rw[hls]at ja Kn
    have acv:=χ hls
    obtain⟨v9,w9,hrun,hown,hgr⟩:=lg (wr.alloc (.cells #[.slice A8 64 c8] 37)) 130 w.heap.size v L ls (ja.out.below (Z0 _ _)) wr.heap.size ⟨A8,c8⟩ 64 (by rw[World.cell?_alloc_at _ _ _ _ rfl];rfl) (by have:=Kn.out;omega) (by have:=dO.out.size;simp;omega)
    obtain⟨A9,c9,hv9⟩:=UB hown
    subst hv9
    have Sm:=χ hrun
    obtain⟨a1,a2,a3,a4,a5⟩:=Boxed.appended HHr.out (by decide) ja.out.row dO.out.size (qab _) hown hgr
    have HX1:=χ (Sv (v':=.slice A9 (ls.length+1) c9) (k:=w.heap.size+1) (B:=w.heap.size) ((HTR.out.1).trans (HT.out.1.trans FV):Boxed wr (w.heap.size+1) 58 _) (by decide) (by omega) ja.out.row hgr)
    have Rj:=χ (Sv (v':=.slice A9 (ls.length+1) c9) (k:=w.heap.size+1+1) (B:=w.heap.size) ((HTR.out.2).trans (HT.out.2.trans FU):Boxed wr (w.heap.size+1+1) 3 _) (by decide) (by omega) ja.out.row hgr)
    have hc9:=a1.cell
    have hf9:=a1.frozen
    have hl9:=a1.lt
    have HA2:=χ a2
    have dN:=χ a4
    have HA5:=χ a5
    have hkeep:∀{vv:Value}{nn:Nat}{ll:List Value}{bb:Nat},wr.ownsRow bb 5 1 vv nn ll->(w9.setCell ⟨w.heap.size,0,none⟩ (.slice A9 (ls.length+1) c9)).ownsRow bb 5 1 vv nn ll:=fun{vv nn ll bb} h=>by
     have h1:=(h.alloc (.cells #[.slice A8 64 c8] 37)).kept hgr (own_ne h ja.out.row (by decide))
     refine h1.kept (grownBy_setCell' w9 w.heap.size _) (.inr ?_)
     exact Ne.symm (a1.not_row (by decide) h1)
    have Ma:=χ (ja.out.snoc (S:=⟨A8,c8⟩) (b:=OP l x) (by rw[HLS.out];exact a3) (by rw[HLS.out];exact ZL (hkeep HU.out) HB.out.size) (fun i s b h1 h2=>hkeep (ja.out.each i s b h1 h2)))
    clear hrun hown hgr a1 a2 a3 a4 a5 hkeep hls aa7 hTr aa6
    gi_wp2_with (gi_at_builtin;refine Zm rfl (.tmp 28) (.tmp 30) 130 rfl rfl rfl Sm.out ?_)
    have hW9:Two (w.heap.size+1) (w.heap.size+1+1) W (w9.setCell ⟨w.heap.size,0,none⟩ (.slice A9 (ls.length+1) c9)):=HTR.out.trans ⟨HX1.out,Rj.out⟩
    have hkb:KeepsOthers W wr:=⟨IW.out.size,fun k o hk _=>(IW.out.block k (Array.getElem?_eq_some_iff.1 hk).1).trans hk⟩
    exact⟨hkb.trans dN.out,hW9,⟨_,_,HA2.out,by rw[List.map_append,acv.out];exact Ma.out⟩,dO.out.trans HA5.out,HT.out.trans hW9⟩
 case done=>
  rintro D ys W hD hys ⟨⟨v,L,hH,hS⟩,hB,_⟩ hK
  have hmap:(ys.map fun x=>OP l x.1)=pairs l:=by
   have h1:(ys.map fun x=>OP l x.1)=(ys.map (·.1)).map (OP l):=by rw[List.map_map];rfl
   rw[h1,hys,<-Hm.out]
   exact FN (by rw[Hm.out];exact HEV.out)
  rw[hmap]at hS
  have hc:=hH.cell
  obtain⟨A,cv,hv⟩:=hS.slice
  subst hv
  have HS:=χ hS
  have HB:=χ hB
  have HK:=χ hK
  clear hS hB hK hmap hys
  gi_wp2
  refine⟨by simp,.inl ⟨_,_,rfl,run_takeDeferred HK.out,?_⟩⟩
  have hnc:∀r,some D=some r->∃o:Obj,W.heap[r]? =some o/\o.isCells=false:=fun r e=>by cases e;exact⟨_,HK.out,rfl⟩
  refine⟨_,results_tmp rfl _ _ _,_,L,rfl,⟨HS.out.len,PL HS.out.row (qac W D _) hnc,fun i s b h1 h2=>PL (HS.out.each i s b h1 h2) (qac W D _) hnc⟩,HB.out.trans ((qaa w.heap.size W).grown (qac W D _) HB.out.size (fun k e=>by cases e;omega))⟩
 case stop=>
  rintro D c pre W _ _ h _
  exact h.elim
end Go.Proofs.YtmehhgfbnfbnaaaGreat.Meta
