import Derived.Test.YtmehhgfbnfbnaaaGreatQMetaX7
import Derived.Test.YtmehhgfbnfbnaaaGreatQMetaX4
import Derived.Test.YtmehhgfbnfbnaaaGreatQMetaX2
import Derived.Test.YtmehhgfbnfbnaaaGreatQInternB
import Derived.Test.YtmehhgfbnfbnaaaGreatQTk
set_option maxRecDepth 100000
set_option maxHeartbeats 25600000
open List renaming setIfInBounds_toArray->qaa,set_cons_zero->qab,set_cons_succ->qac,getElem?_append_right->qaf,getElem?_append_left->qag
open Go.Act renaming put->qad
open Go.RowKit renaming Below->qae
namespace Go.Proofs.YtmehhgfbnfbnaaaGreat.Meta
open Go.Proofs.YtmehhgfbnfbnaaaGreat
open Go.RowKit
theorem Ll{L L2:List Sc}{l l2:List (List UInt8)}(h:L.length=l.length):Yj (L++L2) (l++l2)=Yj L l++Yj L2 l2:=by
 unfold Yj
 rw[List.zip_append h,List.map_append]
theorem Jm(w:World){ops:Array Oper}{rest:List Oper}{o:Oper}{a:Act}{Q:Exit->Act->World->Prop}(hgd:o.guard=none)(s x:Operand)
  (ho:o.op=.call {callee:=.builtin .append,args:=#[s,x],argTypes:=#[130,130]})
  (base:Nat)(v v2:Value)(L L2:List Sc)(l l2:List (List UInt8))(hs:a.eval s=v)(hown:Zk w base v L l)(hx:a.eval x=v2)(hown2:Zk w base v2 L2 l2)
  (h63:l.length<=100000)(h64:l2.length<=100000)(hbase:base<=w.heap.size)
  (h:∀v' w',Zk w' base v' (L++L2) (l++l2)->w.grownBy w' v.ownBlock->wpList Tryz.prog ops Q rest (a.put o.dst v') w'):wpList Tryz.prog ops Q (o::rest) a w:=by
 obtain⟨i0,hi,hz0,hz1,hz2⟩:=info_parts Tj
 obtain⟨A2,c2,rfl⟩:=hown2.slice
 obtain⟨-,-,-,hat⟩:=hown2.at_
 refine U6 w hgd s x 130 ho base 37 i0 _ 24 Tryz.underlying130 hi hz0 hz1 hz2 rfl v l.length (Yj L l) hs hown.row w.heap.size A2 l2.length c2 (Yj L2 l2) hx (Ww hown2.len) hat.rd (Di L2 l2) (by unfold maxLen;omega) (by omega) hbase fun v' w' h1 h2=>h v' w' ⟨?_,?_,?_⟩ h2
 ·simp[hown.len,hown2.len]
 ·rw[List.length_append,Ll hown.len]
  exact h1
 ·intro i s' b' g1 g2
  by_cases hi:i<l.length
  ·rw[qag (by rw[hown.len];exact hi)]at g1
   rw[qag hi]at g2
   exact(hown.each i s' b' g1 g2).kept h2 (own_ne (hown.each i s' b' g1 g2) hown.row (by decide))
  ·rw[qaf (by rw[hown.len];omega),hown.len]at g1
   rw[qaf (by omega)]at g2
   exact(hown2.each _ s' b' g1 g2).kept h2 (own_ne (hown2.each _ s' b' g1 g2) hown.row (by decide))
theorem Lj(j i g p:Int)(m:Met)(ho:Ox m)(rA oA uA iA:Option Addr)(rn rc R5 oc un uc SV ic:Nat)(w:World)(hrn:m.rows.length=rn)(hon:m.own.length=R5)(hun:m.used.length=un)(hin:m.ino.length=SV)
  (hl:QM w w.heap.size ⟨rA,rc,oA,oc,uA,uc,iA,ic⟩ m)(hs:R5<=1000000/\un<=1000000/\SV<=1000000):
  Calls Tryz.prog 74 #[.agg #[j,i,g,p],.agg #[.slice rA rn rc,.slice oA R5 oc,.slice uA un uc,.slice iA SV ic]] w fun e w'=>Tc w (Mw ⟨j,i,g,p⟩ m) e w':=by
 have HL:=χ hl
 have HO:=χ ho
 obtain⟨rb,hrb⟩:∃rb,ZP ⟨j,i,g,p⟩ m=rb:=⟨_,rfl⟩
 have Ua:Hid (∀u:World,qae w.heap.size w u->Calls Tryz.prog 134 #[.agg #[j,i,g,p],.agg #[.slice rA rn rc,.slice oA R5 oc,.slice uA un uc,.slice iA SV ic]] u fun e w'=>e=.returned (.bool rb)/\qae u.heap.size u w'):=χ (fun u hu=>by
  have:=Jl j i g p m ho rA oA uA iA rn rc R5 oc un uc SV ic u hrn hon hun hin ((hl.below hu).more hu.size) hs
  rwa[hrb]at this)
 obtain⟨W,hW⟩:∃W,W=(w.alloc (.cells #[j,i,g,p] 29)).alloc (.cells #[.slice rA rn rc,.slice oA R5 oc,.slice uA un uc,.slice iA SV ic] 60):=⟨_,rfl⟩
 have hbW:qae w.heap.size w W:=by rw[hW];exact(qae.refl _ _).alloc (Nat.le_refl _) _|>.alloc (by simp) _
 have hG:Bk W w.heap.size 29 [j,i,g,p]:=by rw[hW];exact(Bk.new w 29 [j,i,g,p]).below ((qae.refl _ _).alloc (Nat.le_refl _) _) (by simp)
 have hM:Bk W (w.heap.size+1) 60 [.slice rA rn rc,.slice oA R5 oc,.slice uA un uc,.slice iA SV ic]:=by
  rw[hW]
  have:=Bk.new (w.alloc (.cells #[j,i,g,p] 29)) 60 [.slice rA rn rc,.slice oA R5 oc,.slice uA un uc,.slice iA SV ic]
  simpa using this
 have HM:=χ hM
 have HB:=χ hbW
 have HW:=χ hW
 obtain⟨g0,g1,g2,g3⟩:=Z6 hG
 obtain⟨m0,m1,m2,m3⟩:=Z6 hM
 clear hbW hG hM hW
 by_cases hR:Right ⟨j,i,g,p⟩ m
 rotate_left
 ·rw[Va hR]
  rw[ZN hR]at hrb
  subst hrb
  clear hl hR hrn hon hun hin
  go_enter Tryz.func74,Tryz.ntmps74
  go_upto_region 1 with fail
  rw[<-HW.out]
  go_wp2_with (go_at_call 134;(with_reducible refine(Ua.out _ HB.out).mono ?_);rintro e w1 ⟨he,hb⟩;obtain rfl:=he;replace HB:=χ (HB.out.trans (hb.mono HB.out.size));clear hb)
  go_ret2
  exact⟨_,[],rfl,Zk.nil _ _,HB.out⟩
 rw[Wv hR]
 rw[ZW hR]at hrb
 subst hrb
 have ru:=hR.PO
 have xA:=hR.rQ
 have rq:=hR.TA
 have hev:=hR.even
 have hi1:=hR.Yr.i1
 have hil:=hR.TG
 simp only at hi1 hil
 rw[hun]at ru
 subst ru
 rw[hon]at xA
 rw[hin]at rq hev hil
 have aU:0<SV:=by omega
 have QO:=χ hun
 have HR:=χ hR
 obtain⟨bi,oi,aT,hbi⟩:=Y3 HL.out.ino (by rw[Y2 HO.out.ino,hin];omega)
 have aT:iA=some ⟨bi,oi,none⟩:=aT
 subst aT
 have nI:=hl.ic
 rw[hin]at nI
 have l9:Hid (∀u:World,qae w.heap.size w u->Calls Tryz.prog 135 #[.slice rA rn rc] u fun e w'=>Z8.WG u (Z8.bytesOf m.rows) 0 e w'):=χ (fun u hu=>by
  have:=Z8.y8 m.rows rA rn rc u hrn ((HL.out.rows.below hu).more hu.size) HO.out.rows
  rwa[Z8.Kg HR.out.rows]at this)
 have l8:Hid (∀u:World,qae w.heap.size w u->Calls Tryz.prog 136 #[.slice oA R5 oc] u fun e w'=>∃v,e=.returned v/\Made u (Yg (XX m.own) 64) v w'):=χ (fun u hu=>Gw m.own HR.out.own oA R5 oc u hon ((HL.out.own.below hu).more hu.size) xA)
 have iY:Hid (∀u:World,qae w.heap.size w u->Calls Tryz.prog 137 #[.slice uA 64 uc] u fun e w'=>e=.returned (.slice u.heap.size 64 64)/\w'=u.alloc (.cells (Z7 m.used).toArray 5)):=χ (fun u hu=>Nh (Z7 m.used) uA 64 uc u (by rw[Z5,hun]) (YH _) ((HL.out.used.below hu).more hu.size) (by omega))
 have HLI:Hid (∀u:World,qae w.heap.size w u->Calls Tryz.prog 138 #[.slice (some ⟨bi,oi,none⟩) SV ic] u fun e w'=>∃v L,e=.returned v/\Zk w' u.heap.size v L (pairs m.ino)/\qae u.heap.size u w'):=χ (fun u hu=>F9 m.ino HO.out.ino HR.out.ino bi oi SV ic u hin hev aU rq nI.1 ((HL.out.ino.below hu).more hu.size))
 have HLR:Hid ((Z8.bytesOf m.rows).length=64):=χ (by rw[Z8.We,HR.out.rows.len])
 have HLO:Hid ((Yg (XX m.own) 64).length=64):=χ (Xr _ _ (by rw[Yi,hon];exact xA))
 have HLP:Hid ((pairs m.ino).length<=100):=χ (by rw[Vb HR.out.even,hin];omega)
 clear hl hR hrn hon hun hin hev hi1 hil nI hbi
 go_enter Tryz.func74,Tryz.ntmps74
 go_upto_region 1 with fail
 rw[<-HW.out]
 go_upto_region 4 with(first
  |(go_at_call 134;(with_reducible refine(Ua.out _ HB.out).mono ?_);rintro e w1 ⟨he,hb⟩;obtain rfl:=he;replace HM:=χ (HM.out.below hb HM.out.lt);replace HB:=χ (HB.out.trans (hb.mono HB.out.size));clear hb g0 g1 g2 g3 m0 m1 m2 m3;obtain⟨m0,m1,m2,m3⟩:=Z6 HM.out)
  |(go_at_call 135;(with_reducible refine(l9.out _ HB.out).mono ?_);rintro e w2 ⟨v8,he,tX,hb⟩;obtain rfl:=he;rw[HLR.out]at tX;obtain⟨A8,c8,iX⟩:=Vo tX;subst iX;have HO8:=χ (ZI tX HB.out.size);replace HM:=χ (HM.out.below hb HM.out.lt);replace HB:=χ (HB.out.trans (hb.mono HB.out.size));clear m0 m1 m2 m3 hb tX))
 have hS0:qae w.heap.size w w2.drew/\Bk w2.drew (w.heap.size+1) 60 [.slice rA rn rc,.slice oA R5 oc,.slice uA 64 uc,.slice (some ⟨bi,oi,none⟩) SV ic]/\w2.drew.ownsRow w.heap.size 5 1 (.slice A8 64 c8) 64 (Z7 (Z8.bytesOf m.rows)):=⟨HB.out.drew,HM.out,HO8.out⟩
 refine wp_region_held_drew (S:=fun u=>qae w.heap.size w u/\Bk u (w.heap.size+1) 60 [.slice rA rn rc,.slice oA R5 oc,.slice uA 64 uc,.slice (some ⟨bi,oi,none⟩) SV ic]/\u.ownsRow w.heap.size 5 1 (.slice A8 64 c8) 64 (Z7 (Z8.bytesOf m.rows))) (by kernel_rfl) hS0 (fun hHeld=>?_)
 refine tk 0 ?_ (y:=.inl ⟨by rfl,?hya0⟩) (s:=by exact hHeld) (h:=?V4)
 case hya0=>(intro u hu;obtain⟨m0,m1,m2,m3⟩:=Z6 hu.2.1;clear hu;go_simp<;>with_reducible rfl)
 try simp only[qad,qaa,qab,qac]
 refine tk 1 ?_ (y:=.inl ⟨by rfl,?hya1⟩) (s:=by exact hHeld) (h:=?Wn)
 case hya1=>(intro u hu;obtain⟨m0,m1,m2,m3⟩:=Z6 hu.2.1;clear hu;go_simp<;>with_reducible rfl)
 try simp only[qad,qaa,qab,qac]
 refine tk 2 ?_ (y:=.inl ⟨by rfl,?hya2⟩) (s:=by exact hHeld) (h:=?Wm)
 case hya2=>(intro u hu;obtain⟨m0,m1,m2,m3⟩:=Z6 hu.2.1;clear hu;go_simp<;>with_reducible rfl)
 try simp only[qad,qaa,qab,qac]
 refine tk 4 ?_ (y:=.inl ⟨by rfl,?hya4⟩) (s:=by exact hHeld) (h:=?TJ)
 case hya4=>(intro u hu;obtain⟨m0,m1,m2,m3⟩:=Z6 hu.2.1;clear hu;go_simp<;>with_reducible rfl)
 try simp only[qad,qaa,qab,qac]
 refine tk 5 ?_ (y:=.inl ⟨by rfl,?hya5⟩) (s:=by exact hHeld) (h:=?Vw)
 case hya5=>(intro u hu;obtain⟨m0,m1,m2,m3⟩:=Z6 hu.2.1;clear hu;go_simp<;>with_reducible rfl)
 try simp only[qad,qaa,qab,qac]
 refine rd 3 (h:=fun K hK=>?_)
 go_simp
 (with_reducible refine(l8.out _ hHeld.1).mono ?_)
 rintro e w3 ⟨v9,he,oC,hb⟩;obtain rfl:=he
 rw[HLO.out]at oC
 obtain⟨A9,c9,aS⟩:=Vo oC;subst aS
 have jQ:=χ (ZI oC hHeld.1.size)
 have hH3:qae w.heap.size w w3/\Bk w3 (w.heap.size+1) 60 [.slice rA rn rc,.slice oA R5 oc,.slice uA 64 uc,.slice (some ⟨bi,oi,none⟩) SV ic]/\w3.ownsRow w.heap.size 5 1 (.slice A8 64 c8) 64 (Z7 (Z8.bytesOf m.rows)):=⟨hHeld.1.trans (hb.mono hHeld.1.size),hHeld.2.1.below hb hHeld.2.1.lt,own_below hHeld.2.2 hb⟩
 clear hb oC
 go_simp
 refine hK.out _ _ hH3 (fun Z4=>?_)
 clear hK K hHeld hH3 hS0
 have hHeld:=Z4
 clear Z4
 try simp only[qad,qaa,qab,qac]
 refine rd 6 (h:=fun K hK=>?_)
 go_simp
 (with_reducible refine(iY.out _ hHeld.1).mono ?_)
 rintro e w4 ⟨he,hw⟩;obtain rfl:=he
 have aR:Hid (w4.ownsRow w.heap.size 5 1 (.slice w3.heap.size 64 64) 64 (Z7 m.used)):=χ (by rw[hw];exact Xa (Bk.new w3 5 (Z7 m.used)) hHeld.1.size (by rw[Z5,QO.out]) rfl (by unfold maxLen;omega))
 replace jQ:=χ (show w4.ownsRow _ _ _ _ _ _ by rw[hw];exact jQ.out.alloc _)
 have hH4:qae w.heap.size w w4/\Bk w4 (w.heap.size+1) 60 [.slice rA rn rc,.slice oA R5 oc,.slice uA 64 uc,.slice (some ⟨bi,oi,none⟩) SV ic]/\w4.ownsRow w.heap.size 5 1 (.slice A8 64 c8) 64 (Z7 (Z8.bytesOf m.rows)):=by rw[hw];exact⟨hHeld.1.alloc hHeld.1.size _,Wj hHeld.2.1 _,hHeld.2.2.alloc _⟩
 clear hw
 go_simp
 refine hK.out _ _ hH4 (fun Z4=>?_)
 clear hK K hHeld hH4
 have hHeld:=Z4
 clear Z4
 try simp only[qad,qaa,qab,qac]
 refine rd 7 (h:=fun K hK=>?_)
 go_simp
 have hH5:qae w.heap.size w (w4.alloc (.cells #[.slice A8 64 c8,.slice A9 64 c9,.slice w3.heap.size 64 64] 37))/\Bk (w4.alloc (.cells #[.slice A8 64 c8,.slice A9 64 c9,.slice w3.heap.size 64 64] 37)) (w.heap.size+1) 60 [.slice rA rn rc,.slice oA R5 oc,.slice uA 64 uc,.slice (some ⟨bi,oi,none⟩) SV ic]/\(w4.alloc (.cells #[.slice A8 64 c8,.slice A9 64 c9,.slice w3.heap.size 64 64] 37)).ownsRow w.heap.size 5 1 (.slice A8 64 c8) 64 (Z7 (Z8.bytesOf m.rows)):=⟨hHeld.1.alloc hHeld.1.size _,Wj hHeld.2.1 _,hHeld.2.2.alloc _⟩
 have qO:=χ (Cv (m:=m) HLR.out HLO.out QO.out (Bk.new w4 37 [.slice A8 64 c8,.slice A9 64 c9,.slice w3.heap.size 64 64]) hHeld.1.size hH5.2.2 (jQ.out.alloc _) (aR.out.alloc _))
 refine hK.out _ _ hH5 (fun Z4=>?_)
 clear hK K hHeld hH5
 have hHeld:=Z4
 clear Z4
 try simp only[qad,qaa,qab,qac]
 refine tk 8 ?_ (y:=.inl ⟨by rfl,?hya8⟩) (s:=by exact hHeld) (h:=?RJ)
 case hya8=>(intro u hu;obtain⟨m0,m1,m2,m3⟩:=Z6 hu.2.1;clear hu;go_simp<;>with_reducible rfl)
 try simp only[qad,qaa,qab,qac]
 refine wpAnyH_done (by kernel_rfl) ?_ _
 have OA:=χ hHeld.1
 have gH:=χ hHeld.2.1
 clear hHeld
 generalize (w4.alloc (.cells #[.slice A8 64 c8,.slice A9 64 c9,.slice w3.heap.size 64 64] 37))=w5 at*
 obtain⟨m0,m1,m2,m3⟩:=Z6 gH.out
 obtain⟨Lh,hS⟩:∃Lh,Zk w5 w.heap.size (.slice w4.heap.size 3 3) Lh (heads m):=⟨_,qO.out⟩
 have HS:=χ hS
 clear qO hS
 go_wp2_with (first
  |(go_at_call 138;(with_reducible refine(HLI.out _ OA.out).mono ?_);rintro e w6 ⟨v6,L6,he,ho6,hb⟩;obtain rfl:=he;have gP:=χ (ho6.base OA.out.size);have lv:=χ (HS.out.below hb);have EK:=χ (OA.out.trans (hb.mono OA.out.size));clear m0 m1 m2 m3 hb ho6)
  |(at_builtin;refine Jm _ rfl (.tmp 27) (.tmp 30) rfl w.heap.size _ _ Lh L6 (heads m) (pairs m.ino) rfl lv.out rfl gP.out (by show 3<=100000;omega) (by have:=HLP.out;omega) EK.out.size ?_;intro v7 w7 hs7 wL;have fO:=χ hs7;have NR:=χ (EK.out.grown wL EK.out.size (fun k hk=>(lv.out.row.lt k hk).1));clear hs7 wL))
 go_ret2
 exact⟨_,_,rfl,fO.out,NR.out⟩
end Go.Proofs.YtmehhgfbnfbnaaaGreat.Meta
