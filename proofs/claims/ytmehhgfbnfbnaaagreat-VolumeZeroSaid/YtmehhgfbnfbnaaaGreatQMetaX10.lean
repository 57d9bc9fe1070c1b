import Derived.Test.YtmehhgfbnfbnaaaGreatQMetaX9
import Derived.Test.YtmehhgfbnfbnaaaGreatQTk
set_option maxRecDepth 100000
set_option maxHeartbeats 25600000
namespace Go.Proofs.YtmehhgfbnfbnaaaGreat.Meta
open Go.Proofs.YtmehhgfbnfbnaaaGreat
open Go.RowKit Go.Shelf
attribute [local go_sem] Oper.semAt_some
theorem FZ(l:List (List UInt8))(h64:∀s∈l,s.length=64)(b o n c:Nat)(L:List Sc)(w:World)(hl:l.length=n)(hs:Y6 w w.heap.size (some ⟨b,o,none⟩) L l)(hm:n<=40):
  Calls Tryz.prog 155 #[.slice (some ⟨b,o,none⟩) n c] w fun e w'=>∃v,e=.returned v/\w'.ownsRow w.heap.size 40 14 v (2*n) (YZ (YV l n))/\Below w.heap.size w w':=by
 have HS:=χ hs
 have HL:=χ hl
 have eG:=χ h64
 clear hs hl h64
 refine(callsIn_wide (n:=5)).1 ?_
 refine callsIn_of_wp_marks Tryz.func155 rfl trivial ?_ rfl
 simp only[Tryz.ntmps155,List.size_toArray,List.length_cons,List.length_nil,Nat.reduceAdd,Nat.reduceSub,Array.replicate_succ,Array.replicate_zero,List.push_toArray,List.append_toArray,List.nil_append,List.cons_append]
 gi_wp2
 have h0H:QS w.heap.size w.heap.size (YV l 0) (w.alloc (.cells #[.slice none 0 0] 58)):=⟨_,Boxed.new w 58 (.slice none 0 0),by rw[BI];exact World.ownsRow_nil _ _ _ _⟩
 have h0B:=ZZ w (.cells #[.slice none 0 0] 58)
 refine wpIn_loop (fun a W=>∃(k:Nat)(ds:List Nat)(x5 pI pG x14 x15 x16 x27:Value),a={tmps:=#[.slice (some ⟨b,o,none⟩) n c,undef,.slice none 0 0,.pointer w.heap.size,undef,x5,undef,undef,undef,.slice (some ⟨b,o,none⟩) n c,n,k,pI,pG,x14,x15,x16,undef,undef,undef,undef,undef,undef,undef,undef,undef,undef,x27,undef],defers:=ds.map mark}/\k<=n/\QS w.heap.size w.heap.size (YV l k) W/\Below w.heap.size w W/\Marks w.heap.size ds W) (fun a _=>n-(intOf (a.tmps[11]?.getD undef)).toNat)
  ⟨0,[],undef,undef,undef,undef,undef,undef,undef,rfl,Nat.zero_le _,h0H,h0B,List.nodup_nil,fun D hD=>by simp at hD⟩ ?_
 rintro a W ⟨k,ds,x5,pI,pG,x14,x15,x16,x27,rfl,hk,hH,hB,qX⟩
 clear h0H h0B
 have HB:=χ hB
 have kv:=χ qX
 have HH:=χ hH
 clear hB qX hH
 by_cases hlt:k<n
 ·obtain⟨s,hsl⟩:∃s,l[k]? =some s:=⟨_,List.getElem?_eq_getElem (by rw[HL.out];exact hlt)⟩
  have tK:=eG.out s (List.mem_of_getElem? hsl)
  obtain⟨S,hLk,hcell,hrd,hcap,hcm⟩:=(HS.out.below HB.out).get hsl
  obtain⟨b3,o3,hA3,hb3⟩:=Y3 hrd (by rw[Z5];omega)
  obtain⟨A3,c3⟩:=S
  have hA3:A3=some ⟨b3,o3,none⟩:=hA3
  subst hA3
  rw[tK]at hcell
  have hc3:64<=c3:=by have:=hcap;simp only[tK]at this;exact this
  have HRW:=χ (HS.out.each k _ s hLk hsl).1
  have kR:=χ hsl
  have ay:=χ tK
  have Wz:(k:Int)<(n:Int):=by omega
  have hk0:(0:Int)<=(k:Int):=by omega
  clear hsl tK hrd hcap hcm hb3 hLk
  gi_wp2_with (refine⟨trivial,?_⟩;gi_at_call 225;refine(BK _ _ _ _ _).mono ?_;rintro e w' ⟨rfl,rfl⟩)
  have bL:=Boxed.new W 37 (.slice (some ⟨b3,o3,none⟩) 64 c3)
  have bN:=Boxed.new (W.alloc (.cells #[.slice (some ⟨b3,o3,none⟩) 64 c3] 37)) 3 (.int .i64 32)
  obtain⟨W2,hW2⟩:∃W2,W2=(W.alloc (.cells #[.slice (some ⟨b3,o3,none⟩) 64 c3] 37)).alloc (.cells #[.int .i64 32] 3):=⟨_,rfl⟩
  have hb2:Below W.heap.size W W2:=by rw[hW2];exact(ZZ W _).alloc (by simp) _
  have iN:Boxed W2 W.heap.size 37 (.slice (some ⟨b3,o3,none⟩) 64 c3):=by rw[hW2];exact bL.alloc _
  have iM:Boxed W2 (W.heap.size+1) 3 (.int .i64 32):=by rw[hW2];simpa using bN
  have hsz2:W2.heap.size=W.heap.size+2:=by rw[hW2];simp
  rw[<-hW2]
  have HH2:QS w.heap.size w.heap.size (YV l k) W2:=by
   obtain⟨v,h1,h2⟩:=HH.out
   exact⟨v,(hb2.block _ h1.lt).trans h1,own_below h2 hb2⟩
  have HB2:=χ (HB.out.trans (hb2.mono HB.out.size))
  have Oy:=χ (kv.out.below hb2)
  have hBs:w.heap.size<W.heap.size:=by
   obtain⟨v,h1,_⟩:=HH.out
   exact h1.lt
  have hks:(YV l k).length=2*k:=QR (by rw[HL.out];exact hk)
  have HKS:=χ hks
  clear bL bN hW2 hcell hks
  refine wpIn_rangeFunc_ownF rfl (by omega) (gf:=260) (lb:=#[.pointer W.heap.size,.pointer (some ⟨W.heap.size+1,0,none⟩)]) rfl trivial (enters_of Tryz.func260 (by kernel_rfl) rfl)
   (Lg 4 (by omega) W.heap.size (W.heap.size+1) b3 o3 64 c3 (by omega) hc3 W2 (by omega) (by omega) iN.cell iM.cell) Two.trans (fun W k o o' hk _ _ _=>⟨World.putObj_heap_other (by omega),World.putObj_heap_other (by omega)⟩) (Below.refl _ _) (fun _=>rfl)
   (fun pre V=>QS w.heap.size w.heap.size (YV l k++pre.map fun x=>(Z9.XK (part s x.1)).1) V/\Below w.heap.size w V/\Two W.heap.size (W.heap.size+1) W2 V/\Marks w.heap.size ds V)
   (fun _ _ _=>False)
   (OwnFrom.and (Own.from (BH _ _ _) _) (OwnFrom.and (ownFrom_below (Nat.le_refl _) (by omega)) (OwnFrom.and (fun _ V V' row hs hg hr=>hs.trans ⟨hg.block _ (Ui hs.1 iN) (fun e=>by have:=(hr _ e.symm).1;omega),hg.block _ (Ui hs.2 iM) (fun e=>by have:=(hr _ e.symm).1;omega)⟩) (fun _ V V' row hs hg hr=>⟨hs.1,fun D hD=>⟨(hs.2 D hD).1,(hg.block D (hs.lt hD) (fun e=>by have:=(hr _ e.symm).1;have:=Oy.out.lt hD;omega)).trans (hs.2 D hD).2⟩⟩))))
   (fun _ _ _ _ _ hs _ _=>hs)
   ⟨by simpa using HH2,HB2.out,Two.refl _ _ _,Oy.out⟩
   (fun x=>{tmps:=#[.slice (some ⟨b,o,none⟩) n c,undef,.slice none 0 0,.pointer w.heap.size,undef,.slice (some ⟨b3,o3,none⟩) 64 c3,VN b3 o3 64 x.1,undef,undef,.slice (some ⟨b,o,none⟩) n c,n,k,true,.pointer (some ⟨b,o+k,none⟩),.slice (some ⟨b3,o3,none⟩) 64 c3,.slice (some ⟨b3,o3,none⟩) 64 c3,.func (.func 260) #[] #[.pointer W.heap.size,.pointer (some ⟨W.heap.size+1,0,none⟩)],VN b3 o3 64 x.1,undef,undef,undef,undef,undef,undef,undef,undef,undef,x27,undef],defers:=[]}) ?assign ?body ?done ?stop
  case assign=>
   intro l' x V K hK
   gi_wp2
   exact hK
  case body=>
   rintro l' pre x V ⟨hH,hB,rJ,qX⟩ hlen
   obtain⟨x,hx⟩:=x
   obtain⟨v,hbx,hrow⟩:=hH
   have hch:VN b3 o3 64 x=.slice (some ⟨b3,o3+32*x,none⟩) 32 32:=by
    unfold VN
    rw[show min 32 (64-32*x)=32 by omega]
   have hpl:(part s x).length=32:=by unfold part;rw[List.length_take,List.length_drop,ay.out];omega
   have HRP:Hid (Rd V w.heap.size (some ⟨b3,o3+32*x,none⟩) (Z7 (part s x))):=χ (zM (HRW.out.below hB) (32*x) 32)
   have hVs:=hB.size
   obtain⟨nv,gy⟩:∃nv,(Z9.XK (part s x)).1=nv:=⟨_,rfl⟩
   obtain⟨er,her⟩:∃er,(Z9.XK (part s x)).2=er:=⟨_,rfl⟩
   have hok:Z9.YS nv:=by rw[<-gy];exact JF _
   have nA:Hid (∀(u:World)(A:Option Addr)(c:Nat),Rd u u.heap.size A (Z7 (part s x))->32<=c->Calls Tryz.prog 226 #[.slice A 32 c] u fun e w'=>e=.returned (.tuple #[.agg (Z9.ZX nv).toArray,.int .i64 er])/\Below u.heap.size u w'):=χ (fun u A c hr hc=>by
    have:=Z9.Px (part s x) A 32 c u hpl hr hc
    rw[gy,her]at this
    exact this)
   have I7:=χ (Z9.Y4 hok)
   have VL:=χ (XW nv)
   have UU:=χ (YI nv hok)
   have HNV:=χ gy
   have jR:=χ hok
   obtain⟨ls,hls⟩:∃ls,(YV l k++pre.map fun x=>(Z9.XK (part s x.1)).1)=ls:=⟨_,rfl⟩
   rw[hls]at hrow
   have gD:=χ hls
   have vD:Hid (ls.length<=1000):=χ (by rw[<-hls,List.length_append,HKS.out,List.length_map];omega)
   have Zl:=χ hbx
   have Ou:=χ hrow
   have HBV:=χ hB
   have nu:=χ rJ
   have HMV:=χ qX
   clear hpl gy her hok hls hbx hrow hB rJ qX
   dsimp only
   rw[hch]
   clear hch
   have hd1:1<=5-1-1:=by omega
   obtain⟨cx,hcx⟩:∃cx,Z9.ZX nv=cx:=⟨_,rfl⟩
   rw[hcx]at nA I7 VL UU
   have ax:=χ hcx
   clear hcx
   gi_wp2_with (first
    |(refine⟨trivial,?_⟩;gi_at_call 226;refine(CallsIn.inRound l' (callsIn_wide.2 (nA.out _ _ _ (HRP.out.more hVs) (by omega)))).mono ?_;rintro e w8 ⟨he,hb⟩;obtain rfl:=he;have uy:=χ hb;clear hb)
    |(refine V5 rfl 40 (.tmp 7) (.tmp 21) rfl w8.heap.size 0 cx.toArray rfl rfl (Vq _ _ _ _ (by simp[I7.out])) UU.out (all_oneCell_toArray VL.out) ?_;have EJ:=χ (uy.out.trans ((below_setCells (Nat.le_refl _) cx.toArray.toList 0 (ZZ w8 (.cells #["","",(),(),(),(),(),(),(),(),(),(),(),()] 40))).mono uy.out.size));have aQ:=χ (World.rangeAt_setCells_same (w8.alloc (.cells #["","",(),(),(),(),(),(),(),(),(),(),(),()] 40)) w8.heap.size 0 cx.toArray.toList (Vq _ _ _ _ (by simp[I7.out])));generalize ((w8.alloc (.cells #["","",(),(),(),(),(),(),(),(),(),(),(),()] 40)).setCells w8.heap.size 0 cx.toArray.toList)=w9 at*;have iL:=χ (show Boxed w9 w.heap.size 58 v from(EJ.out.block _ Zl.out.lt).trans Zl.out);have Ew:=χ (own_below Ou.out EJ.out);have hc9:=iL.out.cell;obtain⟨g2,cap,w10,hrun,hown,hgr⟩:=xm (w9.alloc (.cells cx.toArray 40)) 58 w.heap.size v ls ls.length rfl (Ew.out.alloc _) nv jR.out w9.heap.size (by rw[ax.out];exact Bk.new w9 40 cx) (by have:=vD.out;omega) (by have:=EJ.out.size;simp;omega);have SN:=χ hrun;have nk:=χ (Boxed.appended (tmp:=.cells cx.toArray 40) iL.out (by decide) Ew.out (by have:=EJ.out.size;omega) (Nat.le_refl _) hown hgr);have aM:=χ (TP (v':=.slice g2 (ls.length+1) cap) (k:=W.heap.size) (B:=w.heap.size) (((EJ.out.block _ (Ui nu.out.1 iN)).trans (nu.out.1.trans iN)):Boxed w9 W.heap.size 37 _) (by decide) (by omega) Ew.out hgr);have OC:=χ (TP (v':=.slice g2 (ls.length+1) cap) (k:=W.heap.size+1) (B:=w.heap.size) (((EJ.out.block _ (Ui nu.out.2 iM)).trans (nu.out.2.trans iM)):Boxed w9 (W.heap.size+1) 3 _) (by decide) (by omega) Ew.out hgr);have abM:=nk.out.1.cell;have abN:=nk.out.1.frozen;clear hrun hown hgr)
    |(refine Xh rfl 40 (.tmp 7) rfl w8.heap.size 0 rfl cx _ aQ.out Tryz.underlying40 rfl UU.out ?_)
    |(refine QH rfl (.tmp 24) rfl cx rfl I7.out ?_)
    |(gi_at_builtin;refine Yq rfl (.tmp 23) (.tmp 25) 58 rfl rfl rfl SN.out ?_))
   obtain⟨a1,a2,a3,a4,a5⟩:=nk.out
   have hT9:Two W.heap.size (W.heap.size+1) V (w10.setCell ⟨w.heap.size,0,none⟩ (.slice g2 (ls.length+1) cap)):=(Two.below (B:=V.heap.size) EJ.out (Ui nu.out.1 iN) (Ui nu.out.2 iM)).trans ⟨aM.out,OC.out⟩
   have hk9:KeepsOthers V w9:=⟨EJ.out.size,fun k o hk _=>(EJ.out.block k (Array.getElem?_eq_some_iff.1 hk).1).trans hk⟩
   have hko:=hk9.trans a4
   refine⟨hko,hT9,⟨_,a2,?_⟩,(HBV.out.trans (EJ.out.mono hVs)).trans a5,nu.out.trans hT9,HMV.out.keeps hko⟩
   have hlist:(YV l k++(pre++[⟨x,hx⟩]:List {c:Nat//32*c<64}).map fun x=>(Z9.XK (part s x.1)).1)=ls++[nv]:=by
    rw[List.map_append,<-List.append_assoc,gD.out]
    simp[HNV.out]
   have hun:(YV l k++List.map (fun x=>(Z9.XK (part s x)).1) (pre++[⟨x,hx⟩]:List {c:Nat//32*c<64}).unattach)=ls++[nv]:=by
    rw[<-hlist]
    congr 1
    exact List.map_map ..
   rw[hun,List.length_append,List.length_singleton]
   exact a3
  case done=>
   rintro D ys W3 hD hys ⟨hH,hB,_,qX⟩ hK
   have hlist:(YV l k++ys.map fun x=>(Z9.XK (part s x.1)).1)=YV l (k+1):=by
    have h1:(ys.map fun x=>(Z9.XK (part s x.1)).1)=(ys.map (·.1)).map (fun x=>(Z9.XK (part s x)).1):=by rw[List.map_map];rfl
    rw[h1,hys,BG,Rj kR.out]
   rw[hlist]at hH
   have HH3:=χ hH
   have HB3:=χ hB
   have aC:=χ (qX.cons (D:=D) (by omega) hK (fun E hE=>by have:=Oy.out.lt hE;omega))
   clear hH hB qX hK hys hlist
   gi_wp2
   refine⟨⟨k+1,D::ds,_,_,_,_,_,_,_,rfl,hlt,HH3.out,HB3.out,aC.out⟩,?_⟩
   simp[intOf];omega
  case stop=>
   rintro D c pre W _ _ h _
   exact h.elim
 ·obtain rfl:k=n:=by omega
  obtain⟨v,hbx,hrow⟩:=HH.out
  have hc:=hbx.cell
  have hks:(YV l k).length=2*k:=QR (by rw[HL.out];exact hk)
  rw[hks]at hrow
  have Ou:=χ hrow
  clear hbx hrow hks
  gi_wp2
  refine OL (base:=w.heap.size) (fun V=>V.ownsRow w.heap.size 40 14 v (2*k) (YZ (YV l k))/\Below w.heap.size w V) (fun V D h h1 h2=>?_) (fun V h=>⟨_,results_tmp rfl _ _ _,v,rfl,h.1,h.2⟩) ds W kv.out.1 kv.out.2 ⟨Ou.out,HB.out⟩
  have hnc:∀r,some D=some r->∃o:Obj,V.heap[r]? =some o/\o.isCells=false:=fun r e=>by cases e;exact⟨_,h2,rfl⟩
  exact⟨Rk h.1 (grownBy_putObj' V D _) hnc,h.2.trans ((Below.refl w.heap.size V).grown (grownBy_putObj' V D _) h.2.size (fun k e=>by cases e;omega))⟩
end Go.Proofs.YtmehhgfbnfbnaaaGreat.Meta
