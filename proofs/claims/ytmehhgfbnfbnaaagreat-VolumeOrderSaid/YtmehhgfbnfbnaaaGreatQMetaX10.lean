import Derived.Test.YtmehhgfbnfbnaaaGreatQMetaX9
import Derived.Test.YtmehhgfbnfbnaaaGreatQTk
set_option maxRecDepth 100000
set_option maxHeartbeats 25600000
namespace Go.Proofs.YtmehhgfbnfbnaaaGreat.Meta
open Go.Proofs.YtmehhgfbnfbnaaaGreat
open Go.RowKit Go.Shelf
attribute [local go_sem] Oper.semAt_some
theorem C8(l:List (List UInt8))(h64:∀s∈l,s.length=64)(b o n c:Nat)(L:List Sc)(w:World)(hl:l.length=n)(hs:Zd w w.heap.size (some ⟨b,o,none⟩) L l)(hm:n<=40):
  Calls Tryz.prog 155 #[.slice (some ⟨b,o,none⟩) n c] w fun e w'=>∃v,e=.returned v/\w'.ownsRow w.heap.size 40 14 v (2*n) (Y3 (YM l n))/\Below w.heap.size w w':=by
 have HS:=χ hs
 have HL:=χ hl
 have H64:=χ h64
 clear hs hl h64
 refine(callsIn_wide (n:=5)).1 ?_
 refine callsIn_of_wp_marks Tryz.func155 rfl trivial ?_ rfl
 simp only[Tryz.ntmps155,List.size_toArray,List.length_cons,List.length_nil,Nat.reduceAdd,Nat.reduceSub,Array.replicate_succ,Array.replicate_zero,List.push_toArray,List.append_toArray,List.nil_append,List.cons_append]
 gi_wp2
 have h0H:O3 w.heap.size w.heap.size (YM l 0) (w.alloc (.cells #[.slice none 0 0] 58)):=⟨_,Boxed.new w 58 (.slice none 0 0),by rw[xL];exact World.ownsRow_nil _ _ _ _⟩
 have h0B:=Z0 w (.cells #[.slice none 0 0] 58)
 refine wpIn_loop (fun a W=>∃(k:Nat)(ds:List Nat)(x5 gL gK x14 x15 x16 x27:Value),a={tmps:=#[.slice (some ⟨b,o,none⟩) n c,undef,.slice none 0 0,.pointer w.heap.size,undef,x5,undef,undef,undef,.slice (some ⟨b,o,none⟩) n c,n,k,gL,gK,x14,x15,x16,undef,undef,undef,undef,undef,undef,undef,undef,undef,undef,x27,undef],defers:=ds.map mark}/\k<=n/\O3 w.heap.size w.heap.size (YM l k) W/\Below w.heap.size w W/\Marks w.heap.size ds W) (fun a _=>n-(intOf (a.tmps[11]?.getD undef)).toNat)
  ⟨0,[],undef,undef,undef,undef,undef,undef,undef,rfl,Nat.zero_le _,h0H,h0B,List.nodup_nil,fun D hD=>by simp at hD⟩ ?_
 rintro a W ⟨k,ds,x5,gL,gK,x14,x15,x16,x27,rfl,hk,hH,hB,iY⟩
 clear h0H h0B
 have HB:=χ hB
 have HMK:=χ iY
 have HH:=χ hH
 clear hB iY hH
 by_cases hlt:k<n
 ·obtain⟨s,hsl⟩:∃s,l[k]? =some s:=⟨_,List.getElem?_eq_getElem (by rw[HL.out];exact hlt)⟩
  have EN:=H64.out s (List.mem_of_getElem? hsl)
  obtain⟨S,hLk,hcell,hrd,hcap,hcm⟩:=(HS.out.below HB.out).get hsl
  obtain⟨b3,o3,hA3,hb3⟩:=YU hrd (by rw[Z4];omega)
  obtain⟨A3,c3⟩:=S
  have hA3:A3=some ⟨b3,o3,none⟩:=hA3
  subst hA3
  rw[EN]at hcell
  have hc3:64<=c3:=by have:=hcap;simp only[EN]at this;exact this
  have HRW:=χ (HS.out.each k _ s hLk hsl).1
  have HSL:=χ hsl
  have acB:=χ EN
  have V7:(k:Int)<(n:Int):=by omega
  have hk0:(0:Int)<=(k:Int):=by omega
  clear hsl EN hrd hcap hcm hb3 hLk
  gi_wp2_with (refine⟨trivial,?_⟩;gi_at_call 225;refine(xO _ _ _ _ _).mono ?_;rintro e w' ⟨rfl,rfl⟩)
  have bL:=Boxed.new W 37 (.slice (some ⟨b3,o3,none⟩) 64 c3)
  have bN:=Boxed.new (W.alloc (.cells #[.slice (some ⟨b3,o3,none⟩) 64 c3] 37)) 3 (.int .i64 32)
  obtain⟨W2,hW2⟩:∃W2,W2=(W.alloc (.cells #[.slice (some ⟨b3,o3,none⟩) 64 c3] 37)).alloc (.cells #[.int .i64 32] 3):=⟨_,rfl⟩
  have hb2:Below W.heap.size W W2:=by rw[hW2];exact(Z0 W _).alloc (by simp) _
  have bL2:Boxed W2 W.heap.size 37 (.slice (some ⟨b3,o3,none⟩) 64 c3):=by rw[hW2];exact bL.alloc _
  have bN2:Boxed W2 (W.heap.size+1) 3 (.int .i64 32):=by rw[hW2];simpa using bN
  have hsz2:W2.heap.size=W.heap.size+2:=by rw[hW2];simp
  rw[<-hW2]
  have HH2:O3 w.heap.size w.heap.size (YM l k) W2:=by
   obtain⟨v,h1,h2⟩:=HH.out
   exact⟨v,(hb2.block _ h1.lt).trans h1,own_below h2 hb2⟩
  have HB2:=χ (HB.out.trans (hb2.mono HB.out.size))
  have O5:=χ (HMK.out.below hb2)
  have aG:w.heap.size<W.heap.size:=by
   obtain⟨v,h1,_⟩:=HH.out
   exact h1.lt
  have hks:(YM l k).length=2*k:=O1 (by rw[HL.out];exact hk)
  have HKS:=χ hks
  clear bL bN hW2 hcell hks
  refine wpIn_rangeFunc_ownF rfl (by omega) (gf:=260) (lb:=#[.pointer W.heap.size,.pointer (some ⟨W.heap.size+1,0,none⟩)]) rfl trivial (enters_of Tryz.func260 (by kernel_rfl) rfl)
   (Jf 4 (by omega) W.heap.size (W.heap.size+1) b3 o3 64 c3 (by omega) hc3 W2 (by omega) (by omega) bL2.cell bN2.cell) Two.trans (fun W k o o' hk _ _ _=>⟨World.putObj_heap_other (by omega),World.putObj_heap_other (by omega)⟩) (Below.refl _ _) (fun _=>rfl)
   (fun pre V=>O3 w.heap.size w.heap.size (YM l k++pre.map fun x=>(Z9.Xk (part s x.1)).1) V/\Below w.heap.size w V/\Two W.heap.size (W.heap.size+1) W2 V/\Marks w.heap.size ds V)
   (fun _ _ _=>False)
   (OwnFrom.and (Own.from (xK _ _ _) _) (OwnFrom.and (ownFrom_below (Nat.le_refl _) (by omega)) (OwnFrom.and (fun _ V V' row hs hg hr=>hs.trans ⟨hg.block _ (Uz hs.1 bL2) (fun e=>by have:=(hr _ e.symm).1;omega),hg.block _ (Uz hs.2 bN2) (fun e=>by have:=(hr _ e.symm).1;omega)⟩) (fun _ V V' row hs hg hr=>⟨hs.1,fun D hD=>⟨(hs.2 D hD).1,(hg.block D (hs.lt hD) (fun e=>by have:=(hr _ e.symm).1;have:=O5.out.lt hD;omega)).trans (hs.2 D hD).2⟩⟩))))
   (fun _ _ _ _ _ hs _ _=>hs)
   ⟨by simpa using HH2,HB2.out,Two.refl _ _ _,O5.out⟩
   (fun x=>{tmps:=#[.slice (some ⟨b,o,none⟩) n c,undef,.slice none 0 0,.pointer w.heap.size,undef,.slice (some ⟨b3,o3,none⟩) 64 c3,UU b3 o3 64 x.1,undef,undef,.slice (some ⟨b,o,none⟩) n c,n,k,true,.pointer (some ⟨b,o+k,none⟩),.slice (some ⟨b3,o3,none⟩) 64 c3,.slice (some ⟨b3,o3,none⟩) 64 c3,.func (.func 260) #[] #[.pointer W.heap.size,.pointer (some ⟨W.heap.size+1,0,none⟩)],UU b3 o3 64 x.1,undef,undef,undef,undef,undef,undef,undef,undef,undef,x27,undef],defers:=[]}) ?assign ?body ?done ?stop
  case assign=>
   intro l' x V K hK
   gi_wp2
   exact hK
  case body=>
   rintro l' pre x V ⟨hH,hB,rM,iY⟩ hlen
   obtain⟨x,hx⟩:=x
   obtain⟨v,hbx,hrow⟩:=hH
   have hch:UU b3 o3 64 x=.slice (some ⟨b3,o3+32*x,none⟩) 32 32:=by
    unfold UU
    rw[show min 32 (64-32*x)=32 by omega]
   have hpl:(part s x).length=32:=by unfold part;rw[List.length_take,List.length_drop,acB.out];omega
   have HRP:Hid (Rd V w.heap.size (some ⟨b3,o3+32*x,none⟩) (Z6 (part s x))):=χ (uM (HRW.out.below hB) (32*x) 32)
   have hVs:=hB.size
   obtain⟨nv,hnv⟩:∃nv,(Z9.Xk (part s x)).1=nv:=⟨_,rfl⟩
   obtain⟨er,her⟩:∃er,(Z9.Xk (part s x)).2=er:=⟨_,rfl⟩
   have hok:Z9.YP nv:=by rw[<-hnv];exact Gn _
   have dJ:Hid (∀(u:World)(A:Option Addr)(c:Nat),Rd u u.heap.size A (Z6 (part s x))->32<=c->Calls Tryz.prog 226 #[.slice A 32 c] u fun e w'=>e=.returned (.tuple #[.agg (Z9.ZX nv).toArray,.int .i64 er])/\Below u.heap.size u w'):=χ (fun u A c hr hc=>by
    have:=Z9.NJ (part s x) A 32 c u hpl hr hc
    rw[hnv,her]at this
    exact this)
   have E5:=χ (Z9.Y5 hok)
   have VF:=χ (Yj nv)
   have TW:=χ (Yu nv hok)
   have HNV:=χ hnv
   have HOK:=χ hok
   obtain⟨ls,hls⟩:∃ls,(YM l k++pre.map fun x=>(Z9.Xk (part s x.1)).1)=ls:=⟨_,rfl⟩
   rw[hls]at hrow
   have HLS:=χ hls
   have nE:Hid (ls.length<=1000):=χ (by rw[<-hls,List.length_append,HKS.out,List.length_map];omega)
   have Zk:=χ hbx
   have Qj:=χ hrow
   have HBV:=χ hB
   have dH:=χ rM
   have HMV:=χ iY
   clear hpl hnv her hok hls hbx hrow hB rM iY
   dsimp only
   rw[hch]
   clear hch
   have hd1:1<=5-1-1:=by omega
   obtain⟨cx,hcx⟩:∃cx,Z9.ZX nv=cx:=⟨_,rfl⟩
   rw[hcx]at dJ E5 VF TW
   have acC:=χ hcx
   clear hcx
   gi_wp2_with (first
    |(refine⟨trivial,?_⟩;gi_at_call 226;refine(CallsIn.inRound l' (callsIn_wide.2 (dJ.out _ _ _ (HRP.out.more hVs) (by omega)))).mono ?_;rintro e w8 ⟨he,hb⟩;obtain rfl:=he;have ET:=χ hb;clear hb)
    |(refine Vp rfl 40 (.tmp 7) (.tmp 21) rfl w8.heap.size 0 cx.toArray rfl rfl (UD _ _ _ _ (by simp[E5.out])) TW.out (all_oneCell_toArray VF.out) ?_;have IY:=χ (ET.out.trans ((below_setCells (Nat.le_refl _) cx.toArray.toList 0 (Z0 w8 (.cells #["","",(),(),(),(),(),(),(),(),(),(),(),()] 40))).mono ET.out.size));have HRX:=χ (World.rangeAt_setCells_same (w8.alloc (.cells #["","",(),(),(),(),(),(),(),(),(),(),(),()] 40)) w8.heap.size 0 cx.toArray.toList (UD _ _ _ _ (by simp[E5.out])));generalize ((w8.alloc (.cells #["","",(),(),(),(),(),(),(),(),(),(),(),()] 40)).setCells w8.heap.size 0 cx.toArray.toList)=w9 at*;have abe:=χ (show Boxed w9 w.heap.size 58 v from(IY.out.block _ Zk.out.lt).trans Zk.out);have AY:=χ (own_below Qj.out IY.out);have hc9:=abe.out.cell;obtain⟨g2,cap,iM,hrun,hown,hgr⟩:=qy (w9.alloc (.cells cx.toArray 40)) 58 w.heap.size v ls ls.length rfl (AY.out.alloc _) nv HOK.out w9.heap.size (by rw[acC.out];exact Bk.new w9 40 cx) (by have:=nE.out;omega) (by have:=IY.out.size;simp;omega);have Sm:=χ hrun;have dG:=χ (Boxed.appended (tmp:=.cells cx.toArray 40) abe.out (by decide) AY.out (by have:=IY.out.size;omega) (Nat.le_refl _) hown hgr);have HX1:=χ (Sv (v':=.slice g2 (ls.length+1) cap) (k:=W.heap.size) (B:=w.heap.size) (((IY.out.block _ (Uz dH.out.1 bL2)).trans (dH.out.1.trans bL2)):Boxed w9 W.heap.size 37 _) (by decide) (by omega) AY.out hgr);have Rj:=χ (Sv (v':=.slice g2 (ls.length+1) cap) (k:=W.heap.size+1) (B:=w.heap.size) (((IY.out.block _ (Uz dH.out.2 bN2)).trans (dH.out.2.trans bN2)):Boxed w9 (W.heap.size+1) 3 _) (by decide) (by omega) AY.out hgr);have ael:=dG.out.1.cell;have aem:=dG.out.1.frozen;clear hrun hown hgr)
    |(refine WH rfl 40 (.tmp 7) rfl w8.heap.size 0 rfl cx _ HRX.out Tryz.underlying40 rfl TW.out ?_)
    |(refine OO rfl (.tmp 24) rfl cx rfl E5.out ?_)
    |(gi_at_builtin;refine Zm rfl (.tmp 23) (.tmp 25) 58 rfl rfl rfl Sm.out ?_))
   obtain⟨a1,a2,a3,a4,a5⟩:=dG.out
   have hT9:Two W.heap.size (W.heap.size+1) V (iM.setCell ⟨w.heap.size,0,none⟩ (.slice g2 (ls.length+1) cap)):=(Two.below (B:=V.heap.size) IY.out (Uz dH.out.1 bL2) (Uz dH.out.2 bN2)).trans ⟨HX1.out,Rj.out⟩
   have hk9:KeepsOthers V w9:=⟨IY.out.size,fun k o hk _=>(IY.out.block k (Array.getElem?_eq_some_iff.1 hk).1).trans hk⟩
   have hko:=hk9.trans a4
   refine⟨hko,hT9,⟨_,a2,?_⟩,(HBV.out.trans (IY.out.mono hVs)).trans a5,dH.out.trans hT9,HMV.out.keeps hko⟩
   have hlist:(YM l k++(pre++[⟨x,hx⟩]:List {c:Nat//32*c<64}).map fun x=>(Z9.Xk (part s x.1)).1)=ls++[nv]:=by
    rw[List.map_append,<-List.append_assoc,HLS.out]
    simp[HNV.out]
   have hun:(YM l k++List.map (fun x=>(Z9.Xk (part s x)).1) (pre++[⟨x,hx⟩]:List {c:Nat//32*c<64}).unattach)=ls++[nv]:=by
    rw[<-hlist]
    congr 1
    exact List.map_map ..
   rw[hun,List.length_append,List.length_singleton]
   exact a3
  case done=>
   rintro D ys W3 hD hys ⟨hH,hB,_,iY⟩ hK
   have hlist:(YM l k++ys.map fun x=>(Z9.Xk (part s x.1)).1)=YM l (k+1):=by
    have h1:(ys.map fun x=>(Z9.Xk (part s x.1)).1)=(ys.map (·.1)).map (fun x=>(Z9.Xk (part s x)).1):=by rw[List.map_map];rfl
    rw[h1,hys,xJ,PK HSL.out]
   rw[hlist]at hH
   have HH3:=χ hH
   have HB3:=χ hB
   have jr:=χ (iY.cons (D:=D) (by omega) hK (fun E hE=>by have:=O5.out.lt hE;omega))
   clear hH hB iY hK hys hlist
   gi_wp2
   refine⟨⟨k+1,D::ds,_,_,_,_,_,_,_,rfl,hlt,HH3.out,HB3.out,jr.out⟩,?_⟩
   simp[intOf];omega
  case stop=>
   rintro D c pre W _ _ h _
   exact h.elim
 ·obtain rfl:k=n:=by omega
  obtain⟨v,hbx,hrow⟩:=HH.out
  have hc:=hbx.cell
  have hks:(YM l k).length=2*k:=O1 (by rw[HL.out];exact hk)
  rw[hks]at hrow
  have Qj:=χ hrow
  clear hbx hrow hks
  gi_wp2
  refine MU (base:=w.heap.size) (fun V=>V.ownsRow w.heap.size 40 14 v (2*k) (Y3 (YM l k))/\Below w.heap.size w V) (fun V D h h1 h2=>?_) (fun V h=>⟨_,results_tmp rfl _ _ _,v,rfl,h.1,h.2⟩) ds W HMK.out.1 HMK.out.2 ⟨Qj.out,HB.out⟩
  have hnc:∀r,some D=some r->∃o:Obj,V.heap[r]? =some o/\o.isCells=false:=fun r e=>by cases e;exact⟨_,h2,rfl⟩
  exact⟨PL h.1 (grownBy_putObj' V D _) hnc,h.2.trans ((Below.refl w.heap.size V).grown (grownBy_putObj' V D _) h.2.size (fun k e=>by cases e;omega))⟩
end Go.Proofs.YtmehhgfbnfbnaaaGreat.Meta
