import Derived.Test.YtmehhgfbnfbnaaaGreatQMetaX7
import Derived.Test.YtmehhgfbnfbnaaaGreatQMetaX4
import Derived.Test.YtmehhgfbnfbnaaaGreatQMetaX2
import Derived.Test.YtmehhgfbnfbnaaaGreatQInternB
import Derived.Test.YtmehhgfbnfbnaaaGreatQTk
set_option maxRecDepth 100000
set_option maxHeartbeats 25600000
open Go.RowKit renaming Below->qaa
open List renaming getElem?_append_right->qab,getElem?_append_left->qac
open Go renaming World->qad
namespace Go.Proofs.YtmehhgfbnfbnaaaGreat
theorem zD0{P:Prop}(h:P:=by
 (intro u hu;obtain⟨m0,m1,m2,m3⟩:=Z7 hu.2.1;clear hu;go_simp<;>with_reducible rfl)):P:=h
end Go.Proofs.YtmehhgfbnfbnaaaGreat
namespace Go.Proofs.YtmehhgfbnfbnaaaGreat.Meta
open Go.Proofs.YtmehhgfbnfbnaaaGreat
open Go.RowKit
theorem Jh{L L2:List Sc}{l l2:List (List UInt8)}(h:L.length=l.length):X3 (L++L2) (l++l2)=X3 L l++X3 L2 l2:=by
 unfold X3
 rw[List.zip_append h,List.map_append]
theorem FQ(w:qad){ops:Array Oper}{rest:List Oper}{o:Oper}{a:Act}{Q:Exit->Act->qad->Prop}(hgd:o.guard=none)(s x:Operand)
  (ho:o.op=.call {callee:=.builtin .append,args:=#[s,x],argTypes:=#[130,130]})
  (base:Nat)(v v2:Value)(L L2:List Sc)(l l2:List (List UInt8))(hs:a.eval s=v)(hown:Zx w base v L l)(hx:a.eval x=v2)(hown2:Zx w base v2 L2 l2)
  (h63:l.length<=100000)(h64:l2.length<=100000)(hbase:base<=w.heap.size)
  (h:∀v' w',Zx w' base v' (L++L2) (l++l2)->w.grownBy w' v.ownBlock->wpList Tryz.prog ops Q rest (a.put o.dst v') w'):wpList Tryz.prog ops Q (o::rest) a w:=by
 obtain⟨i0,hi,hz0,hz1,hz2⟩:=info_parts RO
 obtain⟨A2,c2,rfl⟩:=hown2.slice
 obtain⟨-,-,-,hat⟩:=hown2.at_
 refine Ul w hgd s x 130 ho base 37 i0 _ 24 Tryz.underlying130 hi hz0 hz1 hz2 rfl v l.length (X3 L l) hs hown.row w.heap.size A2 l2.length c2 (X3 L2 l2) hx (VR hown2.len) hat.rd (zz L2 l2) (by unfold maxLen;omega) (by omega) hbase fun v' w' h1 h2=>h v' w' ⟨?_,?_,?_⟩ h2
 ·simp[hown.len,hown2.len]
 ·rw[List.length_append,Jh hown.len]
  exact h1
 ·intro i s' b' g1 g2
  by_cases hi:i<l.length
  ·rw[qac (by rw[hown.len];exact hi)]at g1
   rw[qac hi]at g2
   exact(hown.each i s' b' g1 g2).kept h2 (own_ne (hown.each i s' b' g1 g2) hown.row (by decide))
  ·rw[qab (by rw[hown.len];omega),hown.len]at g1
   rw[qab (by omega)]at g2
   exact(hown2.each _ s' b' g1 g2).kept h2 (own_ne (hown2.each _ s' b' g1 g2) hown.row (by decide))
theorem MX(j i g p:Int)(m:Met)(ho:Rc m)(rA oA uA iA:Option Addr)(rn rc Xe oc un uc Xg ic:Nat)(w:qad)(hrn:m.rows.length=rn)(hon:m.own.length=Xe)(hun:m.used.length=un)(hin:m.ino.length=Xg)
  (hl:Wv w w.heap.size ⟨rA,rc,oA,oc,uA,uc,iA,ic⟩ m)(hs:Xe<=1000000/\un<=1000000/\Xg<=1000000):
  Calls Tryz.prog 74 #[.agg #[j,i,g,p],.agg #[.slice rA rn rc,.slice oA Xe oc,.slice uA un uc,.slice iA Xg ic]] w fun e w'=>Tf w (Ml ⟨j,i,g,p⟩ m) e w':=by
 have HL:=χ hl
 have HO:=χ ho
 obtain⟨rb,hrb⟩:∃rb,ZP ⟨j,i,g,p⟩ m=rb:=⟨_,rfl⟩
 have Sw:Hid (∀u:qad,qaa w.heap.size w u->Calls Tryz.prog 134 #[.agg #[j,i,g,p],.agg #[.slice rA rn rc,.slice oA Xe oc,.slice uA un uc,.slice iA Xg ic]] u fun e w'=>e=.returned (.bool rb)/\qaa u.heap.size u w'):=χ (fun u hu=>by
  have:=FP j i g p m ho rA oA uA iA rn rc Xe oc un uc Xg ic u hrn hon hun hin ((hl.below hu).more hu.size) hs
  rwa[hrb]at this)
 obtain⟨W,hW⟩:∃W,W=(w.alloc (.cells #[j,i,g,p] 29)).alloc (.cells #[.slice rA rn rc,.slice oA Xe oc,.slice uA un uc,.slice iA Xg ic] 60):=⟨_,rfl⟩
 have hbW:qaa w.heap.size w W:=by rw[hW];exact(qaa.refl _ _).alloc (Nat.le_refl _) _|>.alloc (by simp) _
 have hG:Bk W w.heap.size 29 [j,i,g,p]:=by rw[hW];exact(Bk.new w 29 [j,i,g,p]).below ((qaa.refl _ _).alloc (Nat.le_refl _) _) (by simp)
 have hM:Bk W (w.heap.size+1) 60 [.slice rA rn rc,.slice oA Xe oc,.slice uA un uc,.slice iA Xg ic]:=by
  rw[hW]
  have:=Bk.new (w.alloc (.cells #[j,i,g,p] 29)) 60 [.slice rA rn rc,.slice oA Xe oc,.slice uA un uc,.slice iA Xg ic]
  simpa using this
 have HM:=χ hM
 have HB:=χ hbW
 have HW:=χ hW
 obtain⟨g0,g1,g2,g3⟩:=Z7 hG
 obtain⟨m0,m1,m2,m3⟩:=Z7 hM
 clear hbW hG hM hW
 by_cases hR:Right ⟨j,i,g,p⟩ m
 rotate_left
 ·rw[Un hR]
  rw[ZN hR]at hrb
  subst hrb
  clear hl hR hrn hon hun hin
  go_enter Tryz.func74,Tryz.ntmps74
  go_upto_region 1 with fail
  rw[<-HW.out]
  go_wp2_with (go_at_call 134;(with_reducible refine(Sw.out _ HB.out).mono ?_);rintro e w1 ⟨he,hb⟩;obtain rfl:=he;replace HB:=χ (HB.out.trans (hb.mono HB.out.size));clear hb)
  go_ret2
  exact⟨_,[],rfl,Zx.nil _ _,HB.out⟩
 rw[Wn hR]
 rw[ZW hR]at hrb
 subst hrb
 have je:=hR.NY
 have qG:=hR.jB
 have jd:=hR.R5
 have hev:=hR.even
 have hi1:=hR.YV.i1
 have hil:=hR.Sk
 simp only at hi1 hil
 rw[hun]at je
 subst je
 rw[hon]at qG
 rw[hin]at jd hev hil
 have acs:0<Xg:=by omega
 have OX:=χ hun
 have HR:=χ hR
 obtain⟨bi,oi,hiA,hbi⟩:=YU HL.out.ino (by rw[Y8 HO.out.ino,hin];omega)
 have hiA:iA=some ⟨bi,oi,none⟩:=hiA
 subst hiA
 have dP:=hl.ic
 rw[hin]at dP
 have aC:Hid (∀u:qad,qaa w.heap.size w u->Calls Tryz.prog 135 #[.slice rA rn rc] u fun e w'=>Z8.VY u (Z8.bytesOf m.rows) 0 e w'):=χ (fun u hu=>by
  have:=Z8.tQ m.rows rA rn rc u hrn ((HL.out.rows.below hu).more hu.size) HO.out.rows
  rwa[Z8.G8 HR.out.rows]at this)
 have aV:Hid (∀u:qad,qaa w.heap.size w u->Calls Tryz.prog 136 #[.slice oA Xe oc] u fun e w'=>∃v,e=.returned v/\Made u (Ya (XB m.own) 64) v w'):=χ (fun u hu=>DY m.own HR.out.own oA Xe oc u hon ((HL.out.own.below hu).more hu.size) qG)
 have vZ:Hid (∀u:qad,qaa w.heap.size w u->Calls Tryz.prog 137 #[.slice uA 64 uc] u fun e w'=>e=.returned (.slice u.heap.size 64 64)/\w'=u.alloc (.cells (Z6 m.used).toArray 5)):=χ (fun u hu=>PU (Z6 m.used) uA 64 uc u (by rw[Z4,hun]) (YC _) ((HL.out.used.below hu).more hu.size) (by omega))
 have HLI:Hid (∀u:qad,qaa w.heap.size w u->Calls Tryz.prog 138 #[.slice (some ⟨bi,oi,none⟩) Xg ic] u fun e w'=>∃v L,e=.returned v/\Zx w' u.heap.size v L (pairs m.ino)/\qaa u.heap.size u w'):=χ (fun u hu=>Df m.ino HO.out.ino HR.out.ino bi oi Xg ic u hin hev acs jd dP.1 ((HL.out.ino.below hu).more hu.size))
 have HLR:Hid ((Z8.bytesOf m.rows).length=64):=χ (by rw[Z8.VC,HR.out.rows.len])
 have HLO:Hid ((Ya (XB m.own) 64).length=64):=χ (Xw _ _ (by rw[X0,hon];exact qG))
 have HLP:Hid ((pairs m.ino).length<=100):=χ (by rw[Uo HR.out.even,hin];omega)
 clear hl hR hrn hon hun hin hev hi1 hil dP hbi
 go_enter Tryz.func74,Tryz.ntmps74
 go_upto_region 1 with fail
 rw[<-HW.out]
 go_upto_region 4 with(first
  |(go_at_call 134;(with_reducible refine(Sw.out _ HB.out).mono ?_);rintro e w1 ⟨he,hb⟩;obtain rfl:=he;replace HM:=χ (HM.out.below hb HM.out.lt);replace HB:=χ (HB.out.trans (hb.mono HB.out.size));clear hb g0 g1 g2 g3 m0 m1 m2 m3;obtain⟨m0,m1,m2,m3⟩:=Z7 HM.out)
  |(go_at_call 135;(with_reducible refine(aC.out _ HB.out).mono ?_);rintro e w2 ⟨v8,he,lq,hb⟩;obtain rfl:=he;rw[HLR.out]at lq;obtain⟨A8,c8,hv8⟩:=UB lq;subst hv8;have HO8:=χ (ZL lq HB.out.size);replace HM:=χ (HM.out.below hb HM.out.lt);replace HB:=χ (HB.out.trans (hb.mono HB.out.size));clear m0 m1 m2 m3 hb lq))
 have hS0:qaa w.heap.size w w2.drew/\Bk w2.drew (w.heap.size+1) 60 [.slice rA rn rc,.slice oA Xe oc,.slice uA 64 uc,.slice (some ⟨bi,oi,none⟩) Xg ic]/\w2.drew.ownsRow w.heap.size 5 1 (.slice A8 64 c8) 64 (Z6 (Z8.bytesOf m.rows)):=⟨HB.out.drew,HM.out,HO8.out⟩
 refine wp_region_held_drew (S:=fun u=>qaa w.heap.size w u/\Bk u (w.heap.size+1) 60 [.slice rA rn rc,.slice oA Xe oc,.slice uA 64 uc,.slice (some ⟨bi,oi,none⟩) Xg ic]/\u.ownsRow w.heap.size 5 1 (.slice A8 64 c8) 64 (Z6 (Z8.bytesOf m.rows))) (by kernel_rfl) hS0 (fun hHeld=>?_)
 refine tk 0 ?_ (y:=.inl ⟨by rfl,?hya0⟩) (s:=by exact hHeld) (h:=?V6)
 case hya0=>exact zD0
 refine tk 1 ?_ (y:=.inl ⟨by rfl,?hya1⟩) (s:=by exact hHeld) (h:=?V5)
 case hya1=>exact zD0
 refine tk 2 ?_ (y:=.inl ⟨by rfl,?hya2⟩) (s:=by exact hHeld) (h:=?V4)
 case hya2=>exact zD0
 refine tk 4 ?_ (y:=.inl ⟨by rfl,?hya4⟩) (s:=by exact hHeld) (h:=?TN)
 case hya4=>exact zD0
 refine tk 5 ?_ (y:=.inl ⟨by rfl,?hya5⟩) (s:=by exact hHeld) (h:=?Vi)
 case hya5=>exact zD0
 refine rd 3 (h:=fun K hK=>?_)
 go_simp
 (with_reducible refine(aV.out _ hHeld.1).mono ?_)
 rintro e w3 ⟨v9,he,fA,hb⟩;obtain rfl:=he
 rw[HLO.out]at fA
 obtain⟨A9,c9,hv9⟩:=UB fA;subst hv9
 have HO9:=χ (ZL fA hHeld.1.size)
 have hH3:qaa w.heap.size w w3/\Bk w3 (w.heap.size+1) 60 [.slice rA rn rc,.slice oA Xe oc,.slice uA 64 uc,.slice (some ⟨bi,oi,none⟩) Xg ic]/\w3.ownsRow w.heap.size 5 1 (.slice A8 64 c8) 64 (Z6 (Z8.bytesOf m.rows)):=⟨hHeld.1.trans (hb.mono hHeld.1.size),hHeld.2.1.below hb hHeld.2.1.lt,own_below hHeld.2.2 hb⟩
 clear hb fA
 go_simp
 refine hK.out _ _ hH3 (fun Z5=>?_)
 clear hK K hHeld hH3 hS0
 have hHeld:=Z5
 clear Z5
 refine rd 6 (h:=fun K hK=>?_)
 go_simp
 (with_reducible refine(vZ.out _ hHeld.1).mono ?_)
 rintro e w4 ⟨he,hw⟩;obtain rfl:=he
 have acu:Hid (w4.ownsRow w.heap.size 5 1 (.slice w3.heap.size 64 64) 64 (Z6 m.used)):=χ (by rw[hw];exact Xx (Bk.new w3 5 (Z6 m.used)) hHeld.1.size (by rw[Z4,OX.out]) rfl (by unfold maxLen;omega))
 replace HO9:=χ (show w4.ownsRow _ _ _ _ _ _ by rw[hw];exact HO9.out.alloc _)
 have aB:qaa w.heap.size w w4/\Bk w4 (w.heap.size+1) 60 [.slice rA rn rc,.slice oA Xe oc,.slice uA 64 uc,.slice (some ⟨bi,oi,none⟩) Xg ic]/\w4.ownsRow w.heap.size 5 1 (.slice A8 64 c8) 64 (Z6 (Z8.bytesOf m.rows)):=by rw[hw];exact⟨hHeld.1.alloc hHeld.1.size _,Y2 hHeld.2.1 _,hHeld.2.2.alloc _⟩
 clear hw
 go_simp
 refine hK.out _ _ aB (fun Z5=>?_)
 clear hK K hHeld aB
 have hHeld:=Z5
 clear Z5
 refine rd 7 (h:=fun K hK=>?_)
 go_simp
 have hH5:qaa w.heap.size w (w4.alloc (.cells #[.slice A8 64 c8,.slice A9 64 c9,.slice w3.heap.size 64 64] 37))/\Bk (w4.alloc (.cells #[.slice A8 64 c8,.slice A9 64 c9,.slice w3.heap.size 64 64] 37)) (w.heap.size+1) 60 [.slice rA rn rc,.slice oA Xe oc,.slice uA 64 uc,.slice (some ⟨bi,oi,none⟩) Xg ic]/\(w4.alloc (.cells #[.slice A8 64 c8,.slice A9 64 c9,.slice w3.heap.size 64 64] 37)).ownsRow w.heap.size 5 1 (.slice A8 64 c8) 64 (Z6 (Z8.bytesOf m.rows)):=⟨hHeld.1.alloc hHeld.1.size _,Y2 hHeld.2.1 _,hHeld.2.2.alloc _⟩
 have iO:=χ (yI (m:=m) HLR.out HLO.out OX.out (Bk.new w4 37 [.slice A8 64 c8,.slice A9 64 c9,.slice w3.heap.size 64 64]) hHeld.1.size hH5.2.2 (HO9.out.alloc _) (acu.out.alloc _))
 refine hK.out _ _ hH5 (fun Z5=>?_)
 clear hK K hHeld hH5
 have hHeld:=Z5
 clear Z5
 refine tk 8 ?_ (y:=.inl ⟨by rfl,?hya8⟩) (s:=by exact hHeld) (h:=?RS)
 case hya8=>exact zD0
 refine wpAnyH_done (by kernel_rfl) ?_ _
 have V9:=χ hHeld.1
 have wK:=χ hHeld.2.1
 clear hHeld
 generalize (w4.alloc (.cells #[.slice A8 64 c8,.slice A9 64 c9,.slice w3.heap.size 64 64] 37))=w5 at*
 obtain⟨m0,m1,m2,m3⟩:=Z7 wK.out
 obtain⟨Lh,hS⟩:∃Lh,Zx w5 w.heap.size (.slice w4.heap.size 3 3) Lh (heads m):=⟨_,iO.out⟩
 have HS:=χ hS
 clear iO hS
 go_wp2_with (first
  |(go_at_call 138;(with_reducible refine(HLI.out _ V9.out).mono ?_);rintro e w6 ⟨v6,L6,he,ho6,hb⟩;obtain rfl:=he;have HO6:=χ (ho6.base V9.out.size);have ae:=χ (HS.out.below hb);have Mo:=χ (V9.out.trans (hb.mono V9.out.size));clear m0 m1 m2 m3 hb ho6)
  |(at_builtin;refine FQ _ rfl (.tmp 27) (.tmp 30) rfl w.heap.size _ _ Lh L6 (heads m) (pairs m.ino) rfl ae.out rfl HO6.out (by show 3<=100000;omega) (by have:=HLP.out;omega) Mo.out.size ?_;intro v7 w7 hs7 oK;have HS7:=χ hs7;have TG:=χ (Mo.out.grown oK Mo.out.size (fun k hk=>(ae.out.row.lt k hk).1));clear hs7 oK))
 go_ret2
 exact⟨_,_,rfl,HS7.out,TG.out⟩
theorem Ko(G:Geo)(m:Met)(ho:Rc m)(x:Mem)(w:qad)(hl:Wv w w.heap.size x m)(hs:m.own.length<=1000000/\m.used.length<=1000000/\m.ino.length<=1000000):
  Calls Tryz.prog 74 #[.agg #[G.j,G.i,G.g,G.p],x.v m] w fun e w'=>Tf w (Ml G m) e w':=
 MX G.j G.i G.g G.p m ho x.rA x.oA x.uA x.iA _ x.rc _ x.oc _ x.uc _ x.ic w rfl rfl rfl rfl hl hs
end Go.Proofs.YtmehhgfbnfbnaaaGreat.Meta
