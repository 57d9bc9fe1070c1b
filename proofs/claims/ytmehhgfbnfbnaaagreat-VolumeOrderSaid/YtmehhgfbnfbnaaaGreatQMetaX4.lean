import Derived.Test.YtmehhgfbnfbnaaaGreatQMetaB
import Derived.Test.YtmehhgfbnfbnaaaGreatQMetaT
import Derived.Test.YtmehhgfbnfbnaaaGreatQTk
import Derived.Deep.RegionWith
set_option maxRecDepth 100000
set_option maxHeartbeats 25600000
open Go.RowKit renaming Below->qaa
open Go renaming World->qab
namespace Go.Proofs.YtmehhgfbnfbnaaaGreat
theorem zP0{P:Prop}(h:P:=by
 (intro u hu;obtain⟨m0,m1,m2,m3⟩:=Z7 hu.2;clear hu;go_simp<;>with_reducible rfl)):P:=h
end Go.Proofs.YtmehhgfbnfbnaaaGreat
namespace Go.Proofs.YtmehhgfbnfbnaaaGreat.Meta
open Go.Proofs.YtmehhgfbnfbnaaaGreat
open Go.RowKit
def Db(w:qab)(m:Met)(e:Ending)(w':qab):Prop:=∃y:Mem,e=.returned (y.v m)/\Y1 w' w.heap.size y m/\qaa w.heap.size w w'
theorem qE{w W:qab}{n0 n1 n2 n3 g0 g1 g2 g3:Nat}{tm:Array Value}{df:List Deferred}{m:Met}{x0 x1 x2 x3:List Value}(ho:∀n∈m.ino,Z9.YP n)(l0:m.rows.length=n0)(l1:m.own.length=n1)(l2:m.used.length=n2)(l3:m.ino.length=n3)
  (hs:n0<=65536/\n1<=65536/\n2<=65536/\n3<=65536)(e0:Z8.ZV m.rows=x0)(e1:Z9.ZM m.own=x1)(e2:Z6 m.used=x2)(e3:Y3 m.ino=x3)(hd:df=[])
  (hr:(results Tryz.f96 tm).run Tryz.prog W=.ok (.agg #[.slice g0 n0 n0,.slice g1 n1 n1,.slice g2 n2 n2,.slice g3 n3 n3]) W)
  (b0:Bk W g0 68 x0)(b1:Bk W g1 3 x1)(b2:Bk W g2 5 x2)(b3:Bk W g3 40 x3)
  (k0:w.heap.size<=g0)(k1:w.heap.size<=g1)(k2:w.heap.size<=g2)(k3:w.heap.size<=g3)(hb:qaa w.heap.size w W):
  bodyPost Tryz.prog Tryz.f96 (fun e w'=>Db w m e w') .ret {tmps:=tm,defers:=df} W:=by
 subst l0 l1 l2 l3 e0 e1 e2 e3
 refine bodyPost_ret hr hd ⟨⟨some ⟨g0,0,none⟩,m.rows.length,some ⟨g1,0,none⟩,m.own.length,some ⟨g2,0,none⟩,m.used.length,some ⟨g3,0,none⟩,m.ino.length⟩,rfl,⟨?_,?_,?_,?_⟩,hb⟩
 ·exact Xx b0 k0 (by simp[Z8.Zj]) rfl (by show m.rows.length<=maxLen;unfold maxLen;omega)
 ·exact Xx b1 k1 (by simp[Z9.Zt]) rfl (by show m.own.length<=maxLen;unfold maxLen;omega)
 ·exact Xx b2 k2 (by simp[Z4]) rfl (by show m.used.length<=maxLen;unfold maxLen;omega)
 ·exact Xx b3 k3 (by rw[Y8 ho]) rfl (by show m.ino.length<=maxLen;unfold maxLen;omega)
theorem Vo{V:qab}{b g:Nat}{e:TypeId}{xs:List Value}(h:Bk V g e xs)(hne:g≠b)(a0 a1 a2 a3:Value):Bk (X7 V b a0 a1 a2 a3) g e xs:=Ka (Ka (Ka (Ka h _ _ hne) _ _ hne) _ _ hne) _ _ hne
theorem xN{l:List Z9.ZC}:∀u∈Y3 l,u.oneCell'=true:=by
 intro u hu
 simp only[Y3,List.mem_flatMap]at hu
 obtain⟨n,_,hn⟩:=hu
 exact Yj n u hn
theorem kZ(m:Met)(ho:Rc m)(rA oA uA iA:Option Addr)(rn rc Xe oc un uc Xg ic:Nat)(w:qab)(hrn:m.rows.length=rn)(hon:m.own.length=Xe)(hun:m.used.length=un)(hin:m.ino.length=Xg)
  (hl:Wv w w.heap.size ⟨rA,rc,oA,oc,uA,uc,iA,ic⟩ m)(hs:rn<=65536/\Xe<=65536/\un<=65536/\Xg<=65536):
  Calls Tryz.prog 96 #[.agg #[.slice rA rn rc,.slice oA Xe oc,.slice uA un uc,.slice iA Xg ic]] w fun e w'=>Db w m e w':=by
 have HR:Hid (∀u:qab,qaa w.heap.size w u->Calls Tryz.prog 168 #[.slice rA rn rc] u fun e w'=>e=.returned (.slice u.heap.size rn rn)/\w'=u.alloc (.cells (Z8.ZV m.rows).toArray 68)):=χ (fun u hu=>DI _ rA rn rc u (by rw[Z8.Zj,hrn]) (Z8.PZ _) ((hl.rows.below hu).more hu.size) hs.1)
 have HO:Hid (∀u:qab,qaa w.heap.size w u->Calls Tryz.prog 169 #[.slice oA Xe oc] u fun e w'=>e=.returned (.slice u.heap.size Xe Xe)/\w'=u.alloc (.cells (Z9.ZM m.own).toArray 3)):=χ (fun u hu=>DF _ oA Xe oc u (by rw[Z9.Zt,hon,Nat.mul_one]) (Z9.VI _) ((hl.own.below hu).more hu.size) hs.2.1)
 have HU:Hid (∀u:qab,qaa w.heap.size w u->Calls Tryz.prog 137 #[.slice uA un uc] u fun e w'=>e=.returned (.slice u.heap.size un un)/\w'=u.alloc (.cells (Z6 m.used).toArray 5)):=χ (fun u hu=>PU _ uA un uc u (by rw[Z4,hun,Nat.mul_one]) (YC _) ((hl.used.below hu).more hu.size) hs.2.2.1)
 have HI:Hid (∀u:qab,qaa w.heap.size w u->Calls Tryz.prog 170 #[.slice iA Xg ic] u fun e w'=>e=.returned (.slice u.heap.size Xg Xg)/\w'=u.alloc (.cells (Y3 m.ino).toArray 40)):=χ (fun u hu=>DD _ iA Xg ic u (by rw[Y8 ho.ino,hin]) xN ((hl.ino.below hu).more hu.size) hs.2.2.2)
 have HS:=χ hs
 have HX:=χ ho.ino
 clear hl hs ho
 obtain⟨x0,hB0⟩:∃x0,Z8.ZV m.rows=x0:=⟨_,rfl⟩
 obtain⟨x1,hB1⟩:∃x1,Z9.ZM m.own=x1:=⟨_,rfl⟩
 obtain⟨x2,hB2⟩:∃x2,Z6 m.used=x2:=⟨_,rfl⟩
 obtain⟨x3,hB3⟩:∃x3,Y3 m.ino=x3:=⟨_,rfl⟩
 rw[hB0]at HR
 rw[hB1]at HO
 rw[hB2]at HU
 rw[hB3]at HI
 have HB0:=χ hB0
 have HB1:=χ hB1
 have HB2:=χ hB2
 have HB3:=χ hB3
 have kY:=χ hrn
 have Xr:=χ hon
 have WX:=χ hun
 have Xj:=χ hin
 clear hB0 hB1 hB2 hB3 hrn hon hun hin
 obtain⟨W,hW⟩:∃W,W=(w.alloc (.cells #[.slice rA rn rc,.slice oA Xe oc,.slice uA un uc,.slice iA Xg ic] 60)).alloc (.cells #[.slice none 0 0,.slice none 0 0,.slice none 0 0,.slice none 0 0] 60):=⟨_,rfl⟩
 have hbW:qaa w.heap.size w W:=by rw[hW];exact(qaa.refl _ _).alloc (Nat.le_refl _) _|>.alloc (by simp) _
 have hM:Bk W w.heap.size 60 [.slice rA rn rc,.slice oA Xe oc,.slice uA un uc,.slice iA Xg ic]:=by rw[hW];exact(Bk.new w 60 [.slice rA rn rc,.slice oA Xe oc,.slice uA un uc,.slice iA Xg ic]).below ((qaa.refl _ _).alloc (Nat.le_refl _) _) (by simp)
 have hZ:Bk W (w.heap.size+1) 60 [.slice none 0 0,.slice none 0 0,.slice none 0 0,.slice none 0 0]:=by
  rw[hW]
  have:=Bk.new (w.alloc (.cells #[.slice rA rn rc,.slice oA Xe oc,.slice uA un uc,.slice iA Xg ic] 60)) 60 [.slice none 0 0,.slice none 0 0,.slice none 0 0,.slice none 0 0]
  simpa using this
 have HM:=χ hM
 have HZ:=χ hZ
 have HB:=χ hbW
 have HW:=χ hW
 clear hM hZ hbW hW
 go_enter Tryz.func96,Tryz.ntmps96
 go_upto_region 1 with fail
 rw[<-HW.out]
 have hS0:qaa w.heap.size w W.drew/\Bk W.drew w.heap.size 60 [.slice rA rn rc,.slice oA Xe oc,.slice uA un uc,.slice iA Xg ic]:=⟨HB.out.drew,HM.out⟩
 refine wp_region_held_drew (S:=fun u=>qaa w.heap.size w u/\Bk u w.heap.size 60 [.slice rA rn rc,.slice oA Xe oc,.slice uA un uc,.slice iA Xg ic]) (by kernel_rfl) hS0 (fun hHeld=>?_)
 refine tk 0 ?_ (y:=.inl ⟨by rfl,?hya0⟩) (s:=by exact hHeld) (h:=?V6)
 case hya0=>exact zP0
 refine tk 1 ?_ (y:=.inl ⟨by rfl,?hya1⟩) (s:=by exact hHeld) (h:=?V5)
 case hya1=>exact zP0
 refine tk 3 ?_ (y:=.inl ⟨by rfl,?hya3⟩) (s:=by exact hHeld) (h:=?TD)
 case hya3=>exact zP0
 refine tk 4 ?_ (y:=.inl ⟨by rfl,?hya4⟩) (s:=by exact hHeld) (h:=?TN)
 case hya4=>exact zP0
 refine tk 6 ?_ (y:=.inl ⟨by rfl,?hya6⟩) (s:=by exact hHeld) (h:=?UR)
 case hya6=>exact zP0
 refine tk 7 ?_ (y:=.inl ⟨by rfl,?hya7⟩) (s:=by exact hHeld) (h:=?RU)
 case hya7=>exact zP0
 refine tk 9 ?_ (y:=.inl ⟨by rfl,?hya9⟩) (s:=by exact hHeld) (h:=?OW)
 case hya9=>exact zP0
 refine tk 10 ?_ (y:=.inl ⟨by rfl,?hya10⟩) (s:=by exact hHeld) (h:=?Vb)
 case hya10=>exact zP0
 refine rd 2 (h:=fun K hK=>?_)
 go_simp
 (with_reducible refine(HR.out _ hHeld.1).mono ?_)
 rintro e u0 ⟨he,hw⟩;obtain rfl:=he
 have HZ0:Hid (w.heap.size+1<W.heap.size):=χ HZ.out.lt
 have hH0:qaa w.heap.size w u0/\Bk u0 w.heap.size 60 [.slice rA rn rc,.slice oA Xe oc,.slice uA un uc,.slice iA Xg ic]:=by rw[hw];exact⟨hHeld.1.alloc hHeld.1.size _,Y2 hHeld.2 _⟩
 replace HZ:=χ (show Bk u0 (w.heap.size+1) 60 _ by rw[hw];exact Y2 HZ.out _)
 have K0:Hid (Bk u0 W.drew.heap.size 68 x0):=χ (by rw[hw];exact SN _ rfl)
 have L0:Hid (w.heap.size<=W.drew.heap.size):=χ (by have:=hHeld.1.size;omega)
 clear hw
 go_simp
 refine hK.out _ _ hH0 (fun Z5=>?_)
 clear hK K hHeld
 have hHeld:=Z5
 clear Z5 hH0
 refine rd 5 (h:=fun K hK=>?_)
 go_simp
 (with_reducible refine(HO.out _ hHeld.1).mono ?_)
 rintro e u1 ⟨he,hw⟩;obtain rfl:=he
 have HZ1:Hid (w.heap.size+1<u0.heap.size):=χ HZ.out.lt
 have hH1:qaa w.heap.size w u1/\Bk u1 w.heap.size 60 [.slice rA rn rc,.slice oA Xe oc,.slice uA un uc,.slice iA Xg ic]:=by rw[hw];exact⟨hHeld.1.alloc hHeld.1.size _,Y2 hHeld.2 _⟩
 replace HZ:=χ (show Bk u1 (w.heap.size+1) 60 _ by rw[hw];exact Y2 HZ.out _)
 have K1:Hid (Bk u1 u0.heap.size 3 x1):=χ (by rw[hw];exact SN _ rfl)
 replace K0:=χ (show Bk u1 _ _ _ by rw[hw];exact Y2 K0.out _)
 have L1:Hid (w.heap.size<=u0.heap.size):=χ (by have:=hHeld.1.size;omega)
 clear hw
 go_simp
 refine hK.out _ _ hH1 (fun Z5=>?_)
 clear hK K hHeld
 have hHeld:=Z5
 clear Z5 hH1
 refine rd 8 (h:=fun K hK=>?_)
 go_simp
 (with_reducible refine(HU.out _ hHeld.1).mono ?_)
 rintro e u2 ⟨he,hw⟩;obtain rfl:=he
 have HZ2:Hid (w.heap.size+1<u1.heap.size):=χ HZ.out.lt
 have hH2:qaa w.heap.size w u2/\Bk u2 w.heap.size 60 [.slice rA rn rc,.slice oA Xe oc,.slice uA un uc,.slice iA Xg ic]:=by rw[hw];exact⟨hHeld.1.alloc hHeld.1.size _,Y2 hHeld.2 _⟩
 replace HZ:=χ (show Bk u2 (w.heap.size+1) 60 _ by rw[hw];exact Y2 HZ.out _)
 have K2:Hid (Bk u2 u1.heap.size 5 x2):=χ (by rw[hw];exact SN _ rfl)
 replace K0:=χ (show Bk u2 _ _ _ by rw[hw];exact Y2 K0.out _)
 replace K1:=χ (show Bk u2 _ _ _ by rw[hw];exact Y2 K1.out _)
 have L2:Hid (w.heap.size<=u1.heap.size):=χ (by have:=hHeld.1.size;omega)
 clear hw
 go_simp
 refine hK.out _ _ hH2 (fun Z5=>?_)
 clear hK K hHeld
 have hHeld:=Z5
 clear Z5 hH2
 refine rd 11 (h:=fun K hK=>?_)
 go_simp
 (with_reducible refine(HI.out _ hHeld.1).mono ?_)
 rintro e u3 ⟨he,hw⟩;obtain rfl:=he
 have HZ3:Hid (w.heap.size+1<u2.heap.size):=χ HZ.out.lt
 have hH3:qaa w.heap.size w u3/\Bk u3 w.heap.size 60 [.slice rA rn rc,.slice oA Xe oc,.slice uA un uc,.slice iA Xg ic]:=by rw[hw];exact⟨hHeld.1.alloc hHeld.1.size _,Y2 hHeld.2 _⟩
 replace HZ:=χ (show Bk u3 (w.heap.size+1) 60 _ by rw[hw];exact Y2 HZ.out _)
 have K3:Hid (Bk u3 u2.heap.size 40 x3):=χ (by rw[hw];exact SN _ rfl)
 replace K0:=χ (show Bk u3 _ _ _ by rw[hw];exact Y2 K0.out _)
 replace K1:=χ (show Bk u3 _ _ _ by rw[hw];exact Y2 K1.out _)
 replace K2:=χ (show Bk u3 _ _ _ by rw[hw];exact Y2 K2.out _)
 have L3:Hid (w.heap.size<=u2.heap.size):=χ (by have:=hHeld.1.size;omega)
 clear hw
 go_simp
 refine hK.out _ _ hH3 (fun Z5=>?_)
 clear hK K hHeld
 have hHeld:=Z5
 clear Z5 hH3
 refine tk 12 ?_ (y:=.inl ⟨by rfl,?hya12⟩) (s:=by exact hHeld) (h:=?Ra)
 case hya12=>exact zP0
 obtain⟨r0,r1,r2,r3⟩:=Z7 HZ.out
 obtain⟨f0,f1,f2,f3⟩:=Zr HZ.out
 have hlz:=HZ.out.lt
 have hZ0:W.heap.size≠w.heap.size+1:=by have:=HZ0.out;omega
 have hZ1:u0.heap.size≠w.heap.size+1:=by have:=HZ1.out;omega
 have hZ2:u1.heap.size≠w.heap.size+1:=by have:=HZ2.out;omega
 have hZ3:u2.heap.size≠w.heap.size+1:=by have:=HZ3.out;omega
 refine rd 13 (h:=fun K hK=>?_)
 go_simp
 have aB:qaa w.heap.size w (X7 u3 (w.heap.size+1) (.slice (some ⟨W.heap.size,0,none⟩) rn rn) (.slice u0.heap.size Xe Xe) (.slice u1.heap.size un un) (.slice u2.heap.size Xg Xg))/\Bk (X7 u3 (w.heap.size+1) (.slice (some ⟨W.heap.size,0,none⟩) rn rn) (.slice u0.heap.size Xe Xe) (.slice u1.heap.size un un) (.slice u2.heap.size Xg Xg)) w.heap.size 60 [.slice rA rn rc,.slice oA Xe oc,.slice uA un uc,.slice iA Xg ic]:=⟨Ru hHeld.1 (by omega) _ _ _ _,Vo hHeld.2 (by omega) _ _ _ _⟩
 have hZ4:=Je (a0:=(.slice (some ⟨W.heap.size,0,none⟩) rn rn)) (a1:=(.slice u0.heap.size Xe Xe)) (a2:=(.slice u1.heap.size un un)) (a3:=(.slice u2.heap.size Xg Xg)) HZ.out
 have k0:=Vo K0.out hZ0 (.slice (some ⟨W.heap.size,0,none⟩) rn rn) (.slice u0.heap.size Xe Xe) (.slice u1.heap.size un un) (.slice u2.heap.size Xg Xg)
 have k1:=Vo K1.out hZ1 (.slice (some ⟨W.heap.size,0,none⟩) rn rn) (.slice u0.heap.size Xe Xe) (.slice u1.heap.size un un) (.slice u2.heap.size Xg Xg)
 have k2:=Vo K2.out hZ2 (.slice (some ⟨W.heap.size,0,none⟩) rn rn) (.slice u0.heap.size Xe Xe) (.slice u1.heap.size un un) (.slice u2.heap.size Xg Xg)
 have k3:=Vo K3.out hZ3 (.slice (some ⟨W.heap.size,0,none⟩) rn rn) (.slice u0.heap.size Xe Xe) (.slice u1.heap.size un un) (.slice u2.heap.size Xg Xg)
 refine hK.out _ _ aB (fun _=>?_)
 clear hK K
 refine wpAnyH_done (by kernel_rfl) ?_ _
 obtain⟨z0,z1,z2,z3⟩:=Z7 hZ4
 change Exit.then _ _ _ _ (X7 u3 (w.heap.size+1) (.slice (some ⟨W.heap.size,0,none⟩) rn rn) (.slice u0.heap.size Xe Xe) (.slice u1.heap.size un un) (.slice u2.heap.size Xg Xg))
 have HH:=χ aB.1
 clear aB hHeld
 generalize X7 u3 (w.heap.size+1) (.slice (some ⟨W.heap.size,0,none⟩) rn rn) (.slice u0.heap.size Xe Xe) (.slice u1.heap.size un un) (.slice u2.heap.size Xg Xg)=U at*
 clear hZ4 r0 r1 r2 r3 f0 f1 f2 f3 hlz
 have K0:=χ k0
 have K1:=χ k1
 have K2:=χ k2
 have K3:=χ k3
 clear k0 k1 k2 k3 hZ0 hZ1 hZ2 hZ3
 go_wp2
 refine qE HX.out kY.out Xr.out WX.out Xj.out HS.out HB0.out HB1.out HB2.out HB3.out rfl ?_ K0.out K1.out K2.out K3.out L0.out L1.out L2.out L3.out HH.out
 simp[results,Tryz.results96,go_sem,z0,z1,z2,z3]
theorem FM(m:Met)(ho:Rc m)(x:Mem)(w:qab)(hl:Wv w w.heap.size x m)(hs:m.rows.length<=65536/\m.own.length<=65536/\m.used.length<=65536/\m.ino.length<=65536):
  Calls Tryz.prog 96 #[x.v m] w fun e w'=>Db w m e w':=
 kZ m ho x.rA x.oA x.uA x.iA _ x.rc _ x.oc _ x.uc _ x.ic w rfl rfl rfl rfl hl hs
end Go.Proofs.YtmehhgfbnfbnaaaGreat.Meta
