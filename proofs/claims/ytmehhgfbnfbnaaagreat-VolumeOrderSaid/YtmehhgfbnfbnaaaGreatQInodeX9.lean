import Derived.Test.YtmehhgfbnfbnaaaGreatQInodeB
import Derived.Test.YtmehhgfbnfbnaaaGreatQTk
set_option maxRecDepth 100000
set_option maxHeartbeats 25600000
open Go renaming bodyPost_ret->qaa
open Go.RowKit.Below renaming setCell->qab
open Nat renaming le_trans->qac,le_of_lt->qad
namespace Go.Proofs.YtmehhgfbnfbnaaaGreat
theorem zH0{P:Prop}(h:P:=by
 refine qaa (v:=.tuple #[.agg #["","",(),(),(),(),(),(),(),(),(),(),(),()],.int .i64 110]) (by simp[results,Tryz.results226,go_sem, *]) rfl ⟨by rw[HV.out];rfl,?_⟩
 have hb:=TG.out
 repeat(first|with_reducible exact hb|with_reducible refine below_drewN ?_ _|with_reducible refine qab ?_ ?_ _|with_reducible refine Below.alloc ?_ ?_ _)
 all_goals(first|omega|(simp<;>omega))):P:=h
end Go.Proofs.YtmehhgfbnfbnaaaGreat
namespace Go.Proofs.YtmehhgfbnfbnaaaGreat.Z9
open Go.RowKit
theorem take_len(A:Option Addr)(n c:Nat)(w:World)(h:n≠32):Calls Tryz.prog 226 #[.slice A n c] w fun e w'=>Da w .z 110 e w':=by
 have h':¬ (n:Int)=32:=by omega
 have h2:((n:Int) != 32)=true:=by simpa using h'
 clear h h'
 go_enter Tryz.func226,Tryz.ntmps226
 go_wp2
 refine qaa (v:=.tuple #[.agg #["","",(),(),(),(),(),(),(),(),(),(),(),()],.int .i64 110]) (by simp[results,Tryz.results226,go_sem]) rfl ⟨rfl,?_⟩
 repeat(first|with_reducible exact Below.refl _ _|with_reducible refine below_drewN ?_ _|with_reducible refine qab ?_ ?_ _|with_reducible refine Below.alloc ?_ ?_ _)
 all_goals(simp<;>omega)
theorem kT(b:List UInt8)(A:Option Addr)(c:Nat)(w:World)(hl:b.length=32)(hr:Rd w w.heap.size A (Z6 b))(hc:32<=c):
  Calls Tryz.prog 226 #[.slice A 32 c] w fun e w'=>Da w (Xk b).1 (Xk b).2 e w':=by
 obtain⟨R,hR⟩:∃R,R=Xk b:=⟨_,rfl⟩
 have HT:=χ (dM b hl)
 have HU:Hid (wN b=⟨(b.getD 0 0).toNat,(b.getD 1 0).toNat,((ZI b 2:Nat):Int),((ZI b 4:Nat):Int),[((ZI b 6:Nat):Int),((ZI b 8:Nat):Int),((ZI b 10:Nat):Int),((ZI b 12:Nat):Int),((ZI b 14:Nat):Int),((ZI b 16:Nat):Int),((ZI b 18:Nat):Int),((ZI b 20:Nat):Int),((ZI b 22:Nat):Int),((ZI b 24:Nat):Int)]⟩):=rfl
 have HLd:=χ (show(b.drop 2).length=30 by rw[List.length_drop,hl])
 have hd:=hr.drop (k:=2) (c:=c) (by rw[Z4];omega) (by rw[Z4];omega)
 rw[if_neg (by omega),<-WW]at hd
 obtain⟨bb,o,rfl,hbb,hcc⟩:∃bb o,A=some ⟨bb,o,none⟩/\bb<w.heap.size/\∀j u,(Z6 b)[j]? =some u->w.cell? ⟨bb,o+j,none⟩=some u:=by
  rcases hr with h|h
  ·have:=Z4 b;rw[h,hl]at this;simp at this
  ·exact h
 have hb0:w.cell? ⟨bb,o+0,none⟩=some (.int .u8 ((b.getD 0 0).toNat:Int)):=hcc 0 _ (byte_at b 0 (by omega))
 have hb1:w.cell? ⟨bb,o+1,none⟩=some (.int .u8 ((b.getD 1 0).toNat:Int)):=hcc 1 _ (byte_at b 1 (by omega))
 have bk:(b.getD 0 0).toNat<256:=UInt8.toNat_lt _
 have br:(b.getD 1 0).toNat<256:=UInt8.toNat_lt _
 have HD:=χ (show Rd w w.heap.size (some ⟨bb,o+2,none⟩) (Z6 (b.drop 2))by rw[Option.map_some,Addr.add_lit]at hd;exact hd)
 have HRb:=χ hr
 have Hbb:=χ hbb
 rw[<-hR]
 generalize (b.getD 0 0).toNat=k at*
 generalize (b.getD 1 0).toNat=r at*
 have bn0:=YK b 2
 generalize ZI b 2=n0 at*
 have bn1:=YK b 4
 generalize ZI b 4=n1 at*
 have bn2:=YK b 6
 generalize ZI b 6=n2 at*
 have bn3:=YK b 8
 generalize ZI b 8=n3 at*
 have bn4:=YK b 10
 generalize ZI b 10=n4 at*
 have bn5:=YK b 12
 generalize ZI b 12=n5 at*
 have bn6:=YK b 14
 generalize ZI b 14=n6 at*
 have bn7:=YK b 16
 generalize ZI b 16=n7 at*
 have bn8:=YK b 18
 generalize ZI b 18=n8 at*
 have bn9:=YK b 20
 generalize ZI b 20=n9 at*
 have aen:=YK b 22
 generalize ZI b 22=n10 at*
 have aeo:=YK b 24
 generalize ZI b 24=n11 at*
 have aep:=YK b 26
 generalize ZI b 26=n12 at*
 have aeq:=YK b 28
 generalize ZI b 28=n13 at*
 have aer:=YK b 30
 generalize ZI b 30=n14 at*
 have H0:=χ hb0
 have H1:=χ hb1
 have HR:=χ hR
 have HL:=χ hl
 have HWP:Hid (∀W:World,Calls Tryz.prog 261 #[.agg #[.int .u8 k,.int .u8 r,n0,n1,(),(),(),(),(),(),(),(),(),()],.agg #[n2,n3,n4,n5,n6,n7,n8,n9,n10,n11]] W fun e w'=>e=.returned (.agg #[.int .u8 k,.int .u8 r,n0,n1,n2,n3,n4,n5,n6,n7,n8,n9,n10,n11])/\Below W.heap.size W w'):=fun W=>fM k r n0 n1 0 0 0 0 0 0 0 0 0 0 n2 n3 n4 n5 n6 n7 n8 n9 n10 n11 W
 have HLA:Hid (∀W:World,Calls Tryz.prog 210 #[.agg #[.int .u8 k,.int .u8 r,n0,n1,n2,n3,n4,n5,n6,n7,n8,n9,n10,n11]] W fun e w'=>VY W (GR (⟨k,r,(n0:Int),(n1:Int),[(n2:Int),(n3:Int),(n4:Int),(n5:Int),(n6:Int),(n7:Int),(n8:Int),(n9:Int),(n10:Int),(n11:Int)]⟩:ZC)).1 (GR (⟨k,r,(n0:Int),(n1:Int),[(n2:Int),(n3:Int),(n4:Int),(n5:Int),(n6:Int),(n7:Int),(n8:Int),(n9:Int),(n10:Int),(n11:Int)]⟩:ZC)).2 e w'):=fun W=>Bv (⟨k,r,(n0:Int),(n1:Int),[(n2:Int),(n3:Int),(n4:Int),(n5:Int),(n6:Int),(n7:Int),(n8:Int),(n9:Int),(n10:Int),(n11:Int)]⟩:ZC) ⟨rfl,bk,br⟩ W
 have kS:=χ (YL (n:=(⟨k,r,(n0:Int),(n1:Int),[(n2:Int),(n3:Int),(n4:Int),(n5:Int),(n6:Int),(n7:Int),(n8:Int),(n9:Int),(n10:Int),(n11:Int)]⟩:ZC)) ⟨rfl,bk,br⟩)
 clear hl hr hd hcc hb0 hb1 hR hbb
 go_enter Tryz.func226,Tryz.ntmps226
 go_wp2_with fail
 refine(D5 (b.drop 2) (some ⟨bb,o+2,none⟩) 30 (c-2) 15 _ HLd.out ((HD.out.below (ZR w _)).more (by simp)) (by omega) rfl (by omega)).mono ?_
 rintro e w1 ⟨v1,he,hown1,hb1⟩
 obtain rfl:=he
 rw[HT.out]at hown1
 have XU:w1.ownsRow (w.alloc (.cells #["","",(),(),(),(),(),(),(),(),(),(),(),()] 40)).heap.size 3 1 v1 15 (ZM [(n0:Int),(n1:Int),(n2:Int),(n3:Int),(n4:Int),(n5:Int),(n6:Int),(n7:Int),(n8:Int),(n9:Int),(n10:Int),(n11:Int),(n12:Int),(n13:Int),(n14:Int)]):=hown1
 obtain⟨g1,c1,rfl,hc1⟩:=Zp XU (by omega)
 have q0:w1.cell? ⟨g1,0,none⟩=some (.int .i64 n0):=XU.cellAt 0 (by omega)
 have q1:w1.cell? ⟨g1,1,none⟩=some (.int .i64 n1):=XU.cellAt 1 (by omega)
 have q2:w1.cell? ⟨g1,2,none⟩=some (.int .i64 n2):=XU.cellAt 2 (by omega)
 have q3:w1.cell? ⟨g1,3,none⟩=some (.int .i64 n3):=XU.cellAt 3 (by omega)
 have q4:w1.cell? ⟨g1,4,none⟩=some (.int .i64 n4):=XU.cellAt 4 (by omega)
 have q5:w1.cell? ⟨g1,5,none⟩=some (.int .i64 n5):=XU.cellAt 5 (by omega)
 have q6:w1.cell? ⟨g1,6,none⟩=some (.int .i64 n6):=XU.cellAt 6 (by omega)
 have q7:w1.cell? ⟨g1,7,none⟩=some (.int .i64 n7):=XU.cellAt 7 (by omega)
 have q8:w1.cell? ⟨g1,8,none⟩=some (.int .i64 n8):=XU.cellAt 8 (by omega)
 have q9:w1.cell? ⟨g1,9,none⟩=some (.int .i64 n9):=XU.cellAt 9 (by omega)
 have q10:w1.cell? ⟨g1,10,none⟩=some (.int .i64 n10):=XU.cellAt 10 (by omega)
 have q11:w1.cell? ⟨g1,11,none⟩=some (.int .i64 n11):=XU.cellAt 11 (by omega)
 have q12:w1.cell? ⟨g1,12,none⟩=some (.int .i64 n12):=XU.cellAt 12 (by omega)
 have q13:w1.cell? ⟨g1,13,none⟩=some (.int .i64 n13):=XU.cellAt 13 (by omega)
 have q14:w1.cell? ⟨g1,14,none⟩=some (.int .i64 n14):=XU.cellAt 14 (by omega)
 have hk1:=(Bk.new w 40 ["","",(),(),(),(),(),(),(),(),(),(),(),()]).below hb1 (by simp)
 have hB1:Below w.heap.size w w1:=(ZR w _).trans (hb1.mono (by simp))
 have e0:w1.cell? ⟨bb,o,none⟩=some (.int .u8 k):=(hB1.cell (p:=⟨bb,o,none⟩) Hbb.out).trans H0.out
 have e1:w1.cell? ⟨bb,o+1,none⟩=some (.int .u8 r):=(hB1.cell (p:=⟨bb,o+1,none⟩) Hbb.out).trans H1.out
 have hg1:=aa8 q0
 have oI:=χ hk1
 have HB1:=χ hB1
 have hw1:=hk1.lt
 have aes:=Nat.lt_of_lt_of_le Hbb.out hB1.size
 have hc2:¬ c1=2:=by omega
 have hgw:w.heap.size<g1:=by
  have:=(XU.lt g1 rfl).1
  simp at this
  omega
 have HR1:Hid (Rd w1 w1.heap.size (some ⟨g1,0,none⟩) (ZM [(n0:Int),(n1:Int),(n2:Int),(n3:Int),(n4:Int),(n5:Int),(n6:Int),(n7:Int),(n8:Int),(n9:Int),(n10:Int),(n11:Int),(n12:Int),(n13:Int),(n14:Int)])):=JZ XU
 clear hown1 XU hb1 hk1 hB1
 go_wp2_with fail
 go_region
 go_wp2
 obtain⟨W,hW⟩:∃W,W=((w1.alloc (.cells #[.int .u8 k,.int .u8 r,n0,n1,(),(),(),(),(),(),(),(),(),()] 40)).alloc (.cells #[(),(),(),(),(),(),(),(),(),()] 241)).drew:=⟨_,rfl⟩
 rw[<-hW]
 obtain⟨hA,hP,hB,hS⟩:=kV w1 [.int .u8 k,.int .u8 r,.int .i64 n0,.int .i64 n1,.int .i64 0,.int .i64 0,.int .i64 0,.int .i64 0,.int .i64 0,.int .i64 0,.int .i64 0,.int .i64 0,.int .i64 0,.int .i64 0] [.int .i64 0,.int .i64 0,.int .i64 0,.int .i64 0,.int .i64 0,.int .i64 0,.int .i64 0,.int .i64 0,.int .i64 0,.int .i64 0] 40 241 W hW
 clear hW q0 q1 q2 q3 q4 q5 q6 q7 q8 q9 q10 q11 q12 q13 q14 e0 e1
 have hsrc:=χ (aa9 (HR1.out.below (YB hB)))
 have OT:Hid (W.drew.heap[w1.heap.size+1]? =some (.cells [.int .i64 0,.int .i64 0,.int .i64 0,.int .i64 0,.int .i64 0,.int .i64 0,.int .i64 0,.int .i64 0,.int .i64 0,.int .i64 0].toArray 241 (0,0))):=hP
 have HA:=χ hA
 have HS:=χ hS
 have VJ:=χ hB
 have hK:=oI.out.below hB hw1
 have iB:=χ hK
 clear hA hP hB hS hK
 go_region_law (refine R3 rfl (.tmp 29) (.tmp 31) 57 57 rfl 3 Tryz.underlying57 sH (w1.heap.size+1) 0 10 10 ⟨g1,2,none⟩ 13 (c1-2) rfl rfl [(),(),(),(),(),(),(),(),(),()] 241 OT.out (ZM [(n2:Int),(n3:Int),(n4:Int),(n5:Int),(n6:Int),(n7:Int),(n8:Int),(n9:Int),(n10:Int),(n11:Int)]) rfl hsrc.out (show 0+10<=10 by decide) (VI _) ?_;intro w4 hg4 hb4)
 have yN:Bk w4 (w1.heap.size+1) 241 [n2,n3,n4,n5,n6,n7,n8,n9,n10,n11]:=hg4.out
 have PW:Bk w4 w1.heap.size 40 [.int .u8 k,.int .u8 r,n0,n1,(),(),(),(),(),(),(),(),(),()]:=(show Bk W.drew w1.heap.size 40 [.int .u8 k,.int .u8 r,n0,n1,(),(),(),(),(),(),(),(),(),()]from HA.out).grown hb4.out (by simp)
 have hK4:Bk w4 w.heap.size 40 ["","",(),(),(),(),(),(),(),(),(),(),(),()]:=(show Bk W.drew w.heap.size 40 ["","",(),(),(),(),(),(),(),(),(),(),(),()]from iB.out).grown hb4.out (by simp;omega)
 have hB4:Below w1.heap.size w1 w4:=(YB VJ.out).grown hb4.out (by have:=HS.out;show w1.heap.size<=W.heap.size;omega) (by rintro q hq;injection hq with hq;omega)
 obtain⟨a0,a1,a2,a3,a4,a5,a6,a7,a8,a9,R9,R8,a12,R7⟩:=Y7 PW
 obtain⟨r0,r1,r2,r3,r4,r5,r6,r7,r8,r9⟩:=SF yN
 have dN:=χ PW
 have HK4:=χ hK4
 have VT:=χ hB4
 clear hg4 hb4 hsrc OT HA HS VJ iB yN PW hK4 hB4 W
 go_wp2_with fail
 refine(HWP.out _).mono ?_
 rintro e w5 ⟨he,hb5⟩
 obtain rfl:=he
 clear a0 a1 a2 a3 a4 a5 a6 a7 a8 a9 R9 R8 a12 R7 r0 r1 r2 r3 r4 r5 r6 r7 r8 r9
 have iX:=dN.out.below hb5 dN.out.lt
 have qH:=HK4.out.below hb5 HK4.out.lt
 have wI:=VT.out.trans (hb5.mono VT.out.size)
 have hA6:=(((((((((((((iX.set 0 (.int .u8 k)).set 1 (.int .u8 r)).set 2 (.int .i64 n0)).set 3 (.int .i64 n1)).set 4 (.int .i64 n2)).set 5 (.int .i64 n3)).set 6 (.int .i64 n4)).set 7 (.int .i64 n5)).set 8 (.int .i64 n6)).set 9 (.int .i64 n7)).set 10 (.int .i64 n8)).set 11 (.int .i64 n9)).set 12 (.int .i64 n10)).set 13 (.int .i64 n11)
 have hK6:Bk ((((((((((((((w5.setCell ⟨w1.heap.size,0,none⟩ (.int .u8 k)).setCell ⟨w1.heap.size,1,none⟩ (.int .u8 r)).setCell ⟨w1.heap.size,2,none⟩ (.int .i64 n0)).setCell ⟨w1.heap.size,3,none⟩ (.int .i64 n1)).setCell ⟨w1.heap.size,4,none⟩ (.int .i64 n2)).setCell ⟨w1.heap.size,5,none⟩ (.int .i64 n3)).setCell ⟨w1.heap.size,6,none⟩ (.int .i64 n4)).setCell ⟨w1.heap.size,7,none⟩ (.int .i64 n5)).setCell ⟨w1.heap.size,8,none⟩ (.int .i64 n6)).setCell ⟨w1.heap.size,9,none⟩ (.int .i64 n7)).setCell ⟨w1.heap.size,10,none⟩ (.int .i64 n8)).setCell ⟨w1.heap.size,11,none⟩ (.int .i64 n9)).setCell ⟨w1.heap.size,12,none⟩ (.int .i64 n10)).setCell ⟨w1.heap.size,13,none⟩ (.int .i64 n11)) w.heap.size 40 ["","",(),(),(),(),(),(),(),(),(),(),(),()]:=qH.grown (row:=some w1.heap.size) (ZT (ZT (ZT (ZT (ZT (ZT (ZT (ZT (ZT (ZT (ZT (ZT (ZT (ZT (World.grownBy.refl w5 (some w1.heap.size)) 0 (.int .u8 k)) 1 (.int .u8 r)) 2 (.int .i64 n0)) 3 (.int .i64 n1)) 4 (.int .i64 n2)) 5 (.int .i64 n3)) 6 (.int .i64 n4)) 7 (.int .i64 n5)) 8 (.int .i64 n6)) 9 (.int .i64 n7)) 10 (.int .i64 n8)) 11 (.int .i64 n9)) 12 (.int .i64 n10)) 13 (.int .i64 n11)) (by simp;omega)
 have hB6:Below w1.heap.size w1 ((((((((((((((w5.setCell ⟨w1.heap.size,0,none⟩ (.int .u8 k)).setCell ⟨w1.heap.size,1,none⟩ (.int .u8 r)).setCell ⟨w1.heap.size,2,none⟩ (.int .i64 n0)).setCell ⟨w1.heap.size,3,none⟩ (.int .i64 n1)).setCell ⟨w1.heap.size,4,none⟩ (.int .i64 n2)).setCell ⟨w1.heap.size,5,none⟩ (.int .i64 n3)).setCell ⟨w1.heap.size,6,none⟩ (.int .i64 n4)).setCell ⟨w1.heap.size,7,none⟩ (.int .i64 n5)).setCell ⟨w1.heap.size,8,none⟩ (.int .i64 n6)).setCell ⟨w1.heap.size,9,none⟩ (.int .i64 n7)).setCell ⟨w1.heap.size,10,none⟩ (.int .i64 n8)).setCell ⟨w1.heap.size,11,none⟩ (.int .i64 n9)).setCell ⟨w1.heap.size,12,none⟩ (.int .i64 n10)).setCell ⟨w1.heap.size,13,none⟩ (.int .i64 n11)):=wI.grown (row:=some w1.heap.size) (ZT (ZT (ZT (ZT (ZT (ZT (ZT (ZT (ZT (ZT (ZT (ZT (ZT (ZT (World.grownBy.refl w5 (some w1.heap.size)) 0 (.int .u8 k)) 1 (.int .u8 r)) 2 (.int .i64 n0)) 3 (.int .i64 n1)) 4 (.int .i64 n2)) 5 (.int .i64 n3)) 6 (.int .i64 n4)) 7 (.int .i64 n5)) 8 (.int .i64 n6)) 9 (.int .i64 n7)) 10 (.int .i64 n8)) 11 (.int .i64 n9)) 12 (.int .i64 n10)) 13 (.int .i64 n11)) wI.size (by rintro q hq;injection hq with hq;omega)
 have abf:Bk ((((((((((((((w5.setCell ⟨w1.heap.size,0,none⟩ (.int .u8 k)).setCell ⟨w1.heap.size,1,none⟩ (.int .u8 r)).setCell ⟨w1.heap.size,2,none⟩ (.int .i64 n0)).setCell ⟨w1.heap.size,3,none⟩ (.int .i64 n1)).setCell ⟨w1.heap.size,4,none⟩ (.int .i64 n2)).setCell ⟨w1.heap.size,5,none⟩ (.int .i64 n3)).setCell ⟨w1.heap.size,6,none⟩ (.int .i64 n4)).setCell ⟨w1.heap.size,7,none⟩ (.int .i64 n5)).setCell ⟨w1.heap.size,8,none⟩ (.int .i64 n6)).setCell ⟨w1.heap.size,9,none⟩ (.int .i64 n7)).setCell ⟨w1.heap.size,10,none⟩ (.int .i64 n8)).setCell ⟨w1.heap.size,11,none⟩ (.int .i64 n9)).setCell ⟨w1.heap.size,12,none⟩ (.int .i64 n10)).setCell ⟨w1.heap.size,13,none⟩ (.int .i64 n11)) w1.heap.size 40 [.int .u8 k,.int .u8 r,n0,n1,n2,n3,n4,n5,n6,n7,n8,n9,n10,n11]:=hA6
 obtain⟨a0,a1,a2,a3,a4,a5,a6,a7,a8,a9,R9,R8,a12,R7⟩:=Y7 iX
 obtain⟨f0,f1,f2,f3,f4,f5,f6,f7,f8,f9,f10,f11,f12,f13⟩:=Wp iX
 have acD:=iX.lt
 have HA6:=χ abf
 have aA:=χ hK6
 have Mo:=χ hB6
 clear iX qH wI hA6 abf hK6 hB6 hb5
 go_wp2_with fail
 generalize (((((((((((((w5.setCell ⟨w1.heap.size,0,none⟩ (.int .u8 k)).setCell ⟨w1.heap.size,1,none⟩ (.int .u8 r)).setCell ⟨w1.heap.size,2,none⟩ (.int .i64 n0)).setCell ⟨w1.heap.size,3,none⟩ (.int .i64 n1)).setCell ⟨w1.heap.size,4,none⟩ (.int .i64 n2)).setCell ⟨w1.heap.size,5,none⟩ (.int .i64 n3)).setCell ⟨w1.heap.size,6,none⟩ (.int .i64 n4)).setCell ⟨w1.heap.size,7,none⟩ (.int .i64 n5)).setCell ⟨w1.heap.size,8,none⟩ (.int .i64 n6)).setCell ⟨w1.heap.size,9,none⟩ (.int .i64 n7)).setCell ⟨w1.heap.size,10,none⟩ (.int .i64 n8)).setCell ⟨w1.heap.size,11,none⟩ (.int .i64 n9)).setCell ⟨w1.heap.size,12,none⟩ (.int .i64 n10)).setCell ⟨w1.heap.size,13,none⟩ (.int .i64 n11)=W6 at*
 clear a0 a1 a2 a3 a4 a5 a6 a7 a8 a9 R9 R8 a12 R7 f0 f1 f2 f3 f4 f5 f6 f7 f8 f9 f10 f11 f12 f13 acD dN HK4 VT HWP w5 w4
 refine(HLA.out _).mono ?_
 clear HLA
 intro e w7 hh
 by_cases TI:Right (⟨k,r,(n0:Int),(n1:Int),[(n2:Int),(n3:Int),(n4:Int),(n5:Int),(n6:Int),(n7:Int),(n8:Int),(n9:Int),(n10:Int),(n11:Int)]⟩:ZC)
 rotate_left
 ·rw[BC TI]at hh
  obtain⟨A7,c7,he,-,-,Yr⟩:=hh.got (n:=0) rfl
  obtain rfl:=he
  have HV:Hid (R=(.z,110)):=by
   show R=_
   rw[HR.out]
   exact sW (by rw[HU.out];exact TI)
  have Sy:=aA.out.below Yr aA.out.lt
  have Qp:=(HB1.out.trans (Mo.out.mono (qad (by have:=HB1.out.size;omega)))).trans (Yr.mono (qac HB1.out.size Mo.out.size))
  have hw7:=Sy.lt
  obtain⟨d0,d1,d2,d3,d4,d5,d6,d7,d8,d9,d10,d11,d12,d13⟩:=Y7 Sy
  obtain⟨x0,x1,x2,x3,x4,x5,x6,x7,x8,x9,x10,x11,gL,gK⟩:=Wp Sy
  have TG:=χ Qp
  clear Sy Qp
  clear TI hh Yr HR HU HL HT kS
  go_wp2
  exact zH0
 by_cases hbe:ZK (⟨k,r,(n0:Int),(n1:Int),[(n2:Int),(n3:Int),(n4:Int),(n5:Int),(n6:Int),(n7:Int),(n8:Int),(n9:Int),(n10:Int),(n11:Int)]⟩:ZC)=b
 rotate_left
 ·rw[QP TI]at hh
  obtain⟨A7,c7,he,-,si,Yr⟩:=hh.got (n:=32) kS.out
  obtain rfl:=he
  have HV:Hid (R=(.z,110)):=by
   show R=_
   rw[HR.out]
   exact sV (by rw[HU.out];exact hbe)
  have HE:Hid ((b==ZK (⟨k,r,(n0:Int),(n1:Int),[(n2:Int),(n3:Int),(n4:Int),(n5:Int),(n6:Int),(n7:Int),(n8:Int),(n9:Int),(n10:Int),(n11:Int)]⟩:ZC))=false):=by
   show _=_
   simp only[beq_eq_false_iff_ne,ne_eq]
   exact fun h=>hbe h.symm
  have aM:=χ si
  have Sy:=aA.out.below Yr aA.out.lt
  have Qp:=(HB1.out.trans (Mo.out.mono (qad (by have:=HB1.out.size;omega)))).trans (Yr.mono (qac HB1.out.size Mo.out.size))
  have hw7:=Sy.lt
  obtain⟨d0,d1,d2,d3,d4,d5,d6,d7,d8,d9,d10,d11,d12,d13⟩:=Y7 Sy
  obtain⟨x0,x1,x2,x3,x4,x5,x6,x7,x8,x9,x10,x11,gL,gK⟩:=Wp Sy
  have TG:=χ Qp
  clear Sy Qp
  have dF:=χ (HRb.out.below TG.out)
  clear TI hh Yr hbe HR HU HT si
  go_wp2_with (go_at_call 145;(with_reducible refine(XO b (ZK (⟨k,r,(n0:Int),(n1:Int),[(n2:Int),(n3:Int),(n4:Int),(n5:Int),(n6:Int),(n7:Int),(n8:Int),(n9:Int),(n10:Int),(n11:Int)]⟩:ZC)) _ 32 c _ 32 c7 _ _ _ HL.out dF.out kS.out aM.out).mono ?_);rintro e w8 ⟨he,hw8⟩;obtain rfl:=he;obtain rfl:=hw8;rw[HE.out])
  exact zH0
 ·rw[QP TI]at hh
  obtain⟨A7,c7,he,-,si,Yr⟩:=hh.got (n:=32) kS.out
  obtain rfl:=he
  have HV:Hid (R=((⟨k,r,(n0:Int),(n1:Int),[(n2:Int),(n3:Int),(n4:Int),(n5:Int),(n6:Int),(n7:Int),(n8:Int),(n9:Int),(n10:Int),(n11:Int)]⟩:ZC),0)):=by
   show R=_
   rw[HR.out,GQ HL.out (by rw[HU.out];exact TI) (by rw[HU.out];exact hbe),HU.out]
  have HE:Hid ((b==ZK (⟨k,r,(n0:Int),(n1:Int),[(n2:Int),(n3:Int),(n4:Int),(n5:Int),(n6:Int),(n7:Int),(n8:Int),(n9:Int),(n10:Int),(n11:Int)]⟩:ZC))=true):=by
   show _=_
   rw[hbe]
   exact beq_self_eq_true b
  have aM:=χ si
  have hA7:=HA6.out.below Yr HA6.out.lt
  have aet:=hA7.lt
  obtain⟨a0,a1,a2,a3,a4,a5,a6,a7,a8,a9,R9,R8,a12,R7⟩:=Y7 hA7
  have Sy:=aA.out.below Yr aA.out.lt
  have Qp:=(HB1.out.trans (Mo.out.mono (qad (by have:=HB1.out.size;omega)))).trans (Yr.mono (qac HB1.out.size Mo.out.size))
  have hw7:=Sy.lt
  obtain⟨d0,d1,d2,d3,d4,d5,d6,d7,d8,d9,d10,d11,d12,d13⟩:=Y7 Sy
  obtain⟨x0,x1,x2,x3,x4,x5,x6,x7,x8,x9,x10,x11,gL,gK⟩:=Wp Sy
  have TG:=χ Qp
  clear Sy Qp
  have dF:=χ (HRb.out.below TG.out)
  clear TI hh Yr hbe HR HU HT si hA7
  go_wp2_with (go_at_call 145;(with_reducible refine(XO b (ZK (⟨k,r,(n0:Int),(n1:Int),[(n2:Int),(n3:Int),(n4:Int),(n5:Int),(n6:Int),(n7:Int),(n8:Int),(n9:Int),(n10:Int),(n11:Int)]⟩:ZC)) _ 32 c _ 32 c7 _ _ _ HL.out dF.out kS.out aM.out).mono ?_);rintro e w8 ⟨he,hw8⟩;obtain rfl:=he;obtain rfl:=hw8;rw[HE.out])
  refine qaa (v:=.tuple #[.agg #[.int .u8 k,.int .u8 r,n0,n1,n2,n3,n4,n5,n6,n7,n8,n9,n10,n11],()]) (by simp[results,Tryz.results226,go_sem, *]) rfl ⟨by rw[HV.out];rfl,?_⟩
  have hb:=TG.out
  repeat(first|with_reducible exact hb|with_reducible refine below_drewN ?_ _|with_reducible refine qab ?_ ?_ _|with_reducible refine Below.alloc ?_ ?_ _)
  all_goals(first|omega|(simp<;>omega))
theorem NJ(b:List UInt8)(A:Option Addr)(n c:Nat)(w:World)(hl:b.length=n)(hr:Rd w w.heap.size A (Z6 b))(hc:n<=c):
  Calls Tryz.prog 226 #[.slice A n c] w fun e w'=>Da w (Xk b).1 (Xk b).2 e w':=by
 by_cases h:n=32
 ·subst h
  exact kT b A c w hl hr hc
 ·rw[sZ (b:=b) (by omega)]
  exact take_len A n c w h
end Go.Proofs.YtmehhgfbnfbnaaaGreat.Z9
