import Derived.Test.YtmehhgfbnfbnaaaGreatQVolP
import Derived.Test.YtmehhgfbnfbnaaaGreatQTk
set_option maxRecDepth 100000
set_option maxHeartbeats 25600000
open List renaming setIfInBounds_toArray->qaa,set_cons_zero->qab,set_cons_succ->qac,replicate->qae
open Go.Act renaming put->qad
open UInt8 renaming ofNat->qaf
open Go renaming World->qag,wp_region_held_drew->qah,Calls->qai,yieldsIf_load_mid->qaj,wpAnyH_done->qal
open Go.RowKit renaming Hid->qak
open Go.RowKit.Below renaming refl->qam
open Go.Value.slice renaming inj->qan
namespace Go.Proofs.YtmehhgfbnfbnaaaGreat
theorem zkq0{P:Prop}(h:P:=by
 go_upto_region 21 with fail
 clear z1 z3
 have KE:=χ (iT.out.later (XH.star (Zh K s t) (XH.star (Zz ..) (Zz ..))) (qam _ u3).drew)
 have hS0:u3.drew.cell? ⟨gx,1,none⟩=some (.int .i64 at_)/\u3.drew.rangeAt gn 0 [.int .u8 ik,.int .u8 ir,il,Zo,p0,p1,p2,p3,p4,p5,p6,p7,p8,p9]:=⟨HA1.out _ _ (cell1 KE.out),Yo (Ux KE.out)⟩
 refine qah (S:=fun u=>u.cell? ⟨gx,1,none⟩=some (.int .i64 at_)/\u.rangeAt gn 0 [.int .u8 ik,.int .u8 ir,il,Zo,p0,p1,p2,p3,p4,p5,p6,p7,p8,p9]) (by kernel_rfl) hS0 (fun hHeld=>?_)
 clear iT hS0
 generalize hu0:u3.drew=vL at*
 clear hu0
 refine tk 0 ?_ (y:=.inl ⟨by rfl,?hya0⟩) (s:=by exact hHeld) (h:=?V6)
 case hya0=>(rintro u ⟨z1,zr⟩;clear zr;go_simp<;>with_reducible rfl)
 try simp only[qad,qaa,qab,qac]
 refine tk 1 ?_ (y:=.inl ⟨by rfl,?hya1⟩) (s:=by exact hHeld) (h:=?V5)
 case hya1=>(rintro u ⟨z1,zr⟩;clear zr;go_simp<;>with_reducible rfl)
 try simp only[qad,qaa,qab,qac]
 refine tk 2 ?_ (y:=.inl ⟨by rfl,?hya2⟩) (s:=by exact hHeld) (h:=?V4)
 case hya2=>(rintro u ⟨z1,zr⟩;clear zr;go_simp<;>with_reducible rfl)
 try simp only[qad,qaa,qab,qac]
 refine tk 3 _ (y:=(qaj (by rfl) 40 _ rfl gn 0 rfl [.int .u8 ik,.int .u8 ir,il,Zo,p0,p1,p2,p3,p4,p5,p6,p7,p8,p9] _ (fun u hu=>hu.2) Tryz.underlying40 rfl Y9)) (s:=by exact hHeld) (h:=?_)
 try simp only[qad,qaa,qab,qac]
 refine tk 5 ?_ (y:=.inl ⟨by rfl,?hya5⟩) (s:=by exact hHeld) (h:=?Vi)
 case hya5=>(rintro u ⟨z1,zr⟩;clear zr;go_simp<;>with_reducible rfl)
 try simp only[qad,qaa,qab,qac]
 refine tk 6 ?_ (y:=.inl ⟨by rfl,?hya6⟩) (s:=by exact hHeld) (h:=?UR)
 case hya6=>(rintro u ⟨z1,zr⟩;clear zr;go_simp<;>with_reducible rfl)
 try simp only[qad,qaa,qab,qac]
 refine tk 7 ?_ (y:=.inl ⟨by rfl,?hya7⟩) (s:=by exact hHeld) (h:=?RU)
 case hya7=>(rintro u ⟨z1,zr⟩;clear zr;go_simp<;>with_reducible rfl)
 try simp only[qad,qaa,qab,qac]
 refine tk 8 _ (y:=(qaj (by rfl) 40 _ rfl gn 0 rfl [.int .u8 ik,.int .u8 ir,il,Zo,p0,p1,p2,p3,p4,p5,p6,p7,p8,p9] _ (fun u hu=>hu.2) Tryz.underlying40 rfl Y9)) (s:=by exact hHeld) (h:=?_)
 try simp only[qad,qaa,qab,qac]
 refine rd 4 (h:=fun K_ hK=>?_)
 go_simp
 (with_reducible refine(HSV.out _ KE.out).mono ?_)
 rintro e w5 ⟨he,hn⟩;obtain rfl:=he
 have EX:=χ hn
 clear hn
 have hS:w5.cell? ⟨gx,1,none⟩=some (.int .i64 at_)/\w5.rangeAt gn 0 [.int .u8 ik,.int .u8 ir,il,Zo,p0,p1,p2,p3,p4,p5,p6,p7,p8,p9]:=⟨HA1.out _ _ (cell1 EX.out),Yo (Ux EX.out)⟩
 go_simp
 refine hK.out _ _ hS (fun Z5=>?_)
 clear hK K_ hHeld hS
 have hHeld:=Z5
 clear Z5
 try simp only[qad,qaa,qab,qac]
 refine rd 9 (h:=fun K_ hK=>?_)
 go_simp
 (with_reducible refine(HSR.out _ EX.out).mono ?_)
 rintro e w6 ⟨he,hn⟩;obtain rfl:=he
 have Ri:=χ hn
 clear hn
 have hS:w6.cell? ⟨gx,1,none⟩=some (.int .i64 at_)/\w6.rangeAt gn 0 [.int .u8 ik,.int .u8 ir,il,Zo,p0,p1,p2,p3,p4,p5,p6,p7,p8,p9]:=⟨HA1.out _ _ (cell1 Ri.out),Yo (Ux Ri.out)⟩
 go_simp
 refine hK.out _ _ hS (fun Z5=>?_)
 clear hK K_ hHeld hS
 have hHeld:=Z5
 clear Z5
 try simp only[qad,qaa,qab,qac]
 refine tk 10 ?_ (y:=.inl ⟨by rfl,?hya10⟩) (s:=by exact hHeld) (h:=?Vb)
 case hya10=>(rintro u ⟨z1,zr⟩;clear zr;go_simp<;>with_reducible rfl)
 try simp only[qad,qaa,qab,qac]
 refine tk 11 ?_ (y:=.inl ⟨by rfl,?hya11⟩) (s:=by exact hHeld) (h:=?Rb)
 case hya11=>(rintro u ⟨z1,zr⟩;clear zr;go_simp<;>with_reducible rfl)
 try simp only[qad,qaa,qab,qac]
 refine qal (by kernel_rfl) ?_ _
 clear hHeld
 go_wp2
 go_ret
 first|exact⟨⟨_,rfl⟩,Ri.out.drop⟩|exact⟨_,rfl,Ri.out.drop⟩):P:=h
theorem zkq1{P:Prop}(h:P:=by
 have KE:=χ (HN.out.later (XH.star (Zh K s t) Cg.out) (qam _ u0).drew)
 refine qah (S:=fun u=>u.cell? ⟨gx,1,none⟩=some (.int .i64 at_)) (by kernel_rfl) z1 (fun hHeld=>?_)
 clear HN z0 z1 z2 z3 z4
 generalize hu0:u0.drew=vL at*
 clear hu0
 refine tk 0 ?_ (y:=.inl ⟨by rfl,?hya0⟩) (s:=by exact hHeld) (h:=?V6)
 case hya0=>(intro u hu;(try dsimp only at hu);go_simp<;>with_reducible rfl)
 try simp only[qad,qaa,qab,qac]
 refine tk 1 ?_ (y:=.inl ⟨by rfl,?hya1⟩) (s:=by exact hHeld) (h:=?V5)
 case hya1=>(intro u hu;(try dsimp only at hu);go_simp<;>with_reducible rfl)
 try simp only[qad,qaa,qab,qac]
 refine tk 2 ?_ (y:=.inl ⟨by rfl,?hya2⟩) (s:=by exact hHeld) (h:=?V4)
 case hya2=>(intro u hu;(try dsimp only at hu);go_simp<;>with_reducible rfl)
 try simp only[qad,qaa,qab,qac]
 refine tk 4 ?_ (y:=.inl ⟨by rfl,?hya4⟩) (s:=by exact hHeld) (h:=?TN)
 case hya4=>(intro u hu;(try dsimp only at hu);go_simp<;>with_reducible rfl)
 try simp only[qad,qaa,qab,qac]
 refine tk 5 ?_ (y:=.inl ⟨by rfl,?hya5⟩) (s:=by exact hHeld) (h:=?Vi)
 case hya5=>(intro u hu;(try dsimp only at hu);go_simp<;>with_reducible rfl)
 try simp only[qad,qaa,qab,qac]
 refine tk 6 ?_ (y:=.inl ⟨by rfl,?hya6⟩) (s:=by exact hHeld) (h:=?UR)
 case hya6=>(intro u hu;(try dsimp only at hu);go_simp<;>with_reducible rfl)
 try simp only[qad,qaa,qab,qac]
 refine rd 3 (h:=fun K_ hK=>?_)
 go_simp
 (with_reducible refine(H1.out _ KE.out).mono ?_)
 rintro e w1 ⟨he,hn⟩;obtain rfl:=he
 have Xr:=χ hn
 clear hn
 obtain⟨z0,z1,z2,z3,z4⟩:=HZ.out _ _ _ Xr.out
 go_simp
 refine hK.out _ _ z1 (fun Z5=>?_)
 clear hK K_ hHeld z0 z1 z2 z3 z4
 have hHeld:=Z5
 clear Z5
 try simp only[qad,qaa,qab,qac]
 refine rd 7 (h:=fun K_ hK=>?_)
 go_simp
 (with_reducible refine(H2.out _ Xr.out).mono ?_)
 rintro e w2 ⟨he,hn⟩;obtain rfl:=he
 have WX:=χ hn
 clear hn
 obtain⟨z0,z1,z2,z3,z4⟩:=HZ.out _ _ _ WX.out
 go_simp
 refine hK.out _ _ z1 (fun Z5=>?_)
 clear hK K_ hHeld z0 z1 z2 z3 z4
 have hHeld:=Z5
 clear Z5
 try simp only[qad,qaa,qab,qac]
 refine tk 8 ?_ (y:=.inl ⟨by rfl,?hya8⟩) (s:=by exact hHeld) (h:=?RS)
 case hya8=>(intro u hu;(try dsimp only at hu);go_simp<;>with_reducible rfl)
 try simp only[qad,qaa,qab,qac]
 refine tk 9 ?_ (y:=.inl ⟨by rfl,?hya9⟩) (s:=by exact hHeld) (h:=?OW)
 case hya9=>(intro u hu;(try dsimp only at hu);go_simp<;>with_reducible rfl)
 try simp only[qad,qaa,qab,qac]
 refine qal (by kernel_rfl) ?_ _
 clear hHeld
 go_wp2
 all_goals(go_ret;first|exact⟨⟨_,rfl⟩,WX.out.drop⟩|exact⟨_,rfl,WX.out.drop⟩)):P:=h
theorem zkq2{P:Prop}(h:P:=by
 go_wp2
 go_ret
 first|exact⟨⟨_,rfl⟩,Ri.out.drop⟩|exact⟨_,rfl,Ri.out.drop⟩):P:=h
theorem zkq3{P:Prop}(h:P:=by
 all_goals(go_ret;first|exact⟨⟨_,rfl⟩,WX.out.drop⟩|exact⟨_,rfl,WX.out.drop⟩)):P:=h
theorem zkq4{P:Prop}(h:P:=by
 (rintro u ⟨z1,zr⟩;clear zr;go_simp<;>with_reducible rfl)):P:=h
theorem zkq5{P:Prop}(h:P:=by
 (rintro u ⟨z1,z3⟩;go_simp<;>with_reducible rfl)):P:=h
theorem zkq6{P:Prop}(h:P:=by
 (rintro u ⟨y1,y4⟩;go_simp<;>with_reducible rfl)):P:=h
end Go.Proofs.YtmehhgfbnfbnaaaGreat
namespace Go.Proofs.YtmehhgfbnfbnaaaGreat.Zl
open Go.RowKit Zq Meta Apart
section
variable {K:VK}{s t:PS}{P:Nat->Prop}{w:qag}
theorem acJ(Za:VG K.j K.i K.g K.pp)(hp:Yb K.j K.i K.g K.pp s)(hq:Yb K.j K.i K.g K.pp t)(h:K.two s t P w)(hb:Bd P w)(a:VA)(hc:a.c<256)(hk:(a.k:Int)%13=0):
  qai Tryz.prog 27 #[.pointer K.bv,.pointer K.bw,.agg (ZQ a).toArray] w fun e w'=>∃v,e=.returned v/\Nx (K.two (Zi K.pp s a.lab).1 (Zi K.pp t a.lab).1) P w w':=by
 have HN:qak (Nx (star (K.two s t) (Bx w.heap.size 43 (ZQ a))) P w (w.alloc (.cells (ZQ a).toArray 43))):=χ ((Nx.same h hb).box (Zh K s t) (ZQ a) 43)
 have HZ:qak (∀(t1 t2:PS)(u:qag),Nx (star (K.two t1 t2) (Bx w.heap.size 43 (ZQ a))) P w u->u.cell? ⟨w.heap.size,0,none⟩=some (.int .u8 a.k)/\u.cell? ⟨w.heap.size,1,none⟩=some (.int .i64 a.at_)/\u.cell? ⟨w.heap.size,2,none⟩=some (.int .u16 a.lab)/\u.cell? ⟨w.heap.size,3,none⟩=some (.int .u8 a.c)/\u.cell? ⟨w.heap.size,4,none⟩=some (.slice a.A a.b.length a.cap)):=χ (fun t1 t2 u hu=>⟨hu.cell.cell 0,hu.cell.cell 1,hu.cell.cell 2,hu.cell.cell 3,hu.cell.cell 4⟩)
 have jF:=χ Za
 have HP:=χ hp
 have HQ:=χ hq
 have HD:=Zz w.heap.size 43 (ZQ a)
 have H1:qak (∀u:qag,Nx (star (K.two s t) (Bx w.heap.size 43 (ZQ a))) P w u->qai Tryz.prog 39 #[.pointer K.bv,.int .u16 a.lab] u fun e w'=>e=.returned (.tuple #[.int .i64 ((Zi K.pp s a.lab).2.1:Int),.int .i64 ((Zi K.pp s a.lab).2.2:Int)])/\Nx (star (K.two (Zi K.pp s a.lab).1 t) (Bx w.heap.size 43 (ZQ a))) P w w'):=χ (fun u hu=>Ub HD hu (fun P1 h1 _=>kJ jF.out h1 HP.out a.lab))
 have H2:qak (∀u:qag,Nx (star (K.two (Zi K.pp s a.lab).1 t) (Bx w.heap.size 43 (ZQ a))) P w u->qai Tryz.prog 84 #[.pointer K.bw,.int .u16 a.lab] u fun e w'=>e=.returned (.tuple #[.int .i64 ((Zi K.pp t a.lab).2.1:Int),.int .i64 ((Zi K.pp t a.lab).2.2:Int)])/\Nx (star (K.two (Zi K.pp s a.lab).1 (Zi K.pp t a.lab).1) (Bx w.heap.size 43 (ZQ a))) P w w'):=χ (fun u hu=>VV HD hu (fun P1 h1 _=>kI h1 HQ.out a.lab))
 generalize (Zi K.pp s a.lab)=R at*
 generalize (Zi K.pp t a.lab)=R2 at*
 obtain⟨k,at_,lab,c,A,cap,bb,m,th⟩:=a
 simp only at hk HZ hc
 generalize (ZQ ⟨k,at_,lab,c,A,cap,bb,m,th⟩)=ca at*
 clear Za hp hq h hb HD
 obtain⟨z0,z1,z2,z3,z4⟩:=HZ.out _ _ _ HN.out
 go_enter Tryz.func27,Tryz.ntmps27
 go_upto_region 1 with fail
 generalize w.alloc (.cells ca.toArray 43)=u0 at*
 generalize w.heap.size=gx at*
 go_wp2_with (first|(go_at_call 39;go_must (with_reducible refine(H1.out _ HN.out).mono ?_);rintro e w1 ⟨he,hn⟩;obtain rfl:=he;have Xr:=χ hn;clear hn z0 z1 z2 z3 z4;obtain⟨z0,z1,z2,z3,z4⟩:=HZ.out _ _ _ Xr.out)|(go_at_call 84;go_must (with_reducible refine(H2.out _ Xr.out).mono ?_);rintro e w2 ⟨he,hn⟩;obtain rfl:=he;have WX:=χ hn;clear hn z0 z1 z2 z3 z4;obtain⟨z0,z1,z2,z3,z4⟩:=HZ.out _ _ _ WX.out))
 all_goals exact zkq3
theorem acM(Za:VG K.j K.i K.g K.pp)(hp:Yb K.j K.i K.g K.pp s)(hq:Yb K.j K.i K.g K.pp t)(h:K.two s t P w)(hb:Bd P w)(a:VA)(hc:a.c<256)(hk:(a.k:Int)%13=3):
  qai Tryz.prog 27 #[.pointer K.bv,.pointer K.bw,.agg (ZQ a).toArray] w fun e w'=>∃v,e=.returned v/\Nx (K.two (YX s a.c a.lab).1 (YX t a.c a.lab).1) P w w':=by
 have HN:qak (Nx (star (K.two s t) (Bx w.heap.size 43 (ZQ a))) P w (w.alloc (.cells (ZQ a).toArray 43))):=χ ((Nx.same h hb).box (Zh K s t) (ZQ a) 43)
 have HZ:qak (∀(t1 t2:PS)(u:qag),Nx (star (K.two t1 t2) (Bx w.heap.size 43 (ZQ a))) P w u->u.cell? ⟨w.heap.size,0,none⟩=some (.int .u8 a.k)/\u.cell? ⟨w.heap.size,1,none⟩=some (.int .i64 a.at_)/\u.cell? ⟨w.heap.size,2,none⟩=some (.int .u16 a.lab)/\u.cell? ⟨w.heap.size,3,none⟩=some (.int .u8 a.c)/\u.cell? ⟨w.heap.size,4,none⟩=some (.slice a.A a.b.length a.cap)):=χ (fun t1 t2 u hu=>⟨hu.cell.cell 0,hu.cell.cell 1,hu.cell.cell 2,hu.cell.cell 3,hu.cell.cell 4⟩)
 have jF:=χ Za
 have HP:=χ hp
 have HQ:=χ hq
 have HD:=Zz w.heap.size 43 (ZQ a)
 have H1:qak (∀u:qag,Nx (star (K.two s t) (Bx w.heap.size 43 (ZQ a))) P w u->qai Tryz.prog 40 #[.pointer K.bv,.int .u8 a.c,.int .u16 a.lab] u fun e w'=>e=.returned (.tuple #[.int .i64 ((YX s a.c a.lab).2.1:Int),.int .i64 ((YX s a.c a.lab).2.2:Int)])/\Nx (star (K.two (YX s a.c a.lab).1 t) (Bx w.heap.size 43 (ZQ a))) P w w'):=χ (fun u hu=>Ub HD hu (fun P1 h1 _=>cZ h1 HP.out a.c a.lab))
 have H2:qak (∀u:qag,Nx (star (K.two (YX s a.c a.lab).1 t) (Bx w.heap.size 43 (ZQ a))) P w u->qai Tryz.prog 87 #[.pointer K.bw,.int .u8 a.c,.int .u16 a.lab] u fun e w'=>e=.returned (.tuple #[.int .i64 ((YX t a.c a.lab).2.1:Int),.int .i64 ((YX t a.c a.lab).2.2:Int)])/\Nx (star (K.two (YX s a.c a.lab).1 (YX t a.c a.lab).1) (Bx w.heap.size 43 (ZQ a))) P w w'):=χ (fun u hu=>VV HD hu (fun P1 h1 h2=>cO h1 h2 HQ.out a.c a.lab))
 generalize (YX s a.c a.lab)=R at*
 generalize (YX t a.c a.lab)=R2 at*
 obtain⟨k,at_,lab,c,A,cap,bb,m,th⟩:=a
 simp only at hk HZ hc
 generalize (ZQ ⟨k,at_,lab,c,A,cap,bb,m,th⟩)=ca at*
 clear Za hp hq h hb HD
 obtain⟨z0,z1,z2,z3,z4⟩:=HZ.out _ _ _ HN.out
 go_enter Tryz.func27,Tryz.ntmps27
 go_upto_region 1 with fail
 generalize w.alloc (.cells ca.toArray 43)=u0 at*
 generalize w.heap.size=gx at*
 go_wp2_with (first|(go_at_call 40;go_must (with_reducible refine(H1.out _ HN.out).mono ?_);rintro e w1 ⟨he,hn⟩;obtain rfl:=he;have Xr:=χ hn;clear hn z0 z1 z2 z3 z4;obtain⟨z0,z1,z2,z3,z4⟩:=HZ.out _ _ _ Xr.out)|(go_at_call 87;go_must (with_reducible refine(H2.out _ Xr.out).mono ?_);rintro e w2 ⟨he,hn⟩;obtain rfl:=he;have WX:=χ hn;clear hn z0 z1 z2 z3 z4;obtain⟨z0,z1,z2,z3,z4⟩:=HZ.out _ _ _ WX.out))
 all_goals exact zkq3
theorem acK(Za:VG K.j K.i K.g K.pp)(hp:Yb K.j K.i K.g K.pp s)(hq:Yb K.j K.i K.g K.pp t)(h:K.two s t P w)(hb:Bd P w)(a:VA)(hc:a.c<256)(hk:(a.k:Int)%13=1):
  qai Tryz.prog 27 #[.pointer K.bv,.pointer K.bw,.agg (ZQ a).toArray] w fun e w'=>∃v,e=.returned v/\Nx (K.two (WC K.g K.pp s a.at_).1 (WC K.g K.pp t a.at_).1) P w w':=by
 have HN:qak (Nx (star (K.two s t) (Bx w.heap.size 43 (ZQ a))) P w (w.alloc (.cells (ZQ a).toArray 43))):=χ ((Nx.same h hb).box (Zh K s t) (ZQ a) 43)
 have HZ:qak (∀(t1 t2:PS)(u:qag),Nx (star (K.two t1 t2) (Bx w.heap.size 43 (ZQ a))) P w u->u.cell? ⟨w.heap.size,0,none⟩=some (.int .u8 a.k)/\u.cell? ⟨w.heap.size,1,none⟩=some (.int .i64 a.at_)/\u.cell? ⟨w.heap.size,2,none⟩=some (.int .u16 a.lab)/\u.cell? ⟨w.heap.size,3,none⟩=some (.int .u8 a.c)/\u.cell? ⟨w.heap.size,4,none⟩=some (.slice a.A a.b.length a.cap)):=χ (fun t1 t2 u hu=>⟨hu.cell.cell 0,hu.cell.cell 1,hu.cell.cell 2,hu.cell.cell 3,hu.cell.cell 4⟩)
 have jF:=χ Za
 have HP:=χ hp
 have HQ:=χ hq
 have HD:=Zz w.heap.size 43 (ZQ a)
 have H1:qak (∀u:qag,Nx (star (K.two s t) (Bx w.heap.size 43 (ZQ a))) P w u->qai Tryz.prog 42 #[.pointer K.bv,a.at_] u fun e w'=>e=.returned (.int .i64 ((WC K.g K.pp s a.at_).2:Int))/\Nx (star (K.two (WC K.g K.pp s a.at_).1 t) (Bx w.heap.size 43 (ZQ a))) P w w'):=χ (fun u hu=>Ub HD hu (fun P1 h1 _=>cK jF.out h1 HP.out a.at_))
 have H2:qak (∀u:qag,Nx (star (K.two (WC K.g K.pp s a.at_).1 t) (Bx w.heap.size 43 (ZQ a))) P w u->qai Tryz.prog 85 #[.pointer K.bw,a.at_] u fun e w'=>e=.returned (.int .i64 ((WC K.g K.pp t a.at_).2:Int))/\Nx (star (K.two (WC K.g K.pp s a.at_).1 (WC K.g K.pp t a.at_).1) (Bx w.heap.size 43 (ZQ a))) P w w'):=χ (fun u hu=>VV HD hu (fun P1 h1 h2=>cB h1 h2 HQ.out a.at_))
 have Cg:=χ HD
 generalize (WC K.g K.pp s a.at_)=R at*
 generalize (WC K.g K.pp t a.at_)=R2 at*
 obtain⟨k,at_,lab,c,A,cap,bb,m,th⟩:=a
 simp only at hk HZ hc
 generalize (ZQ ⟨k,at_,lab,c,A,cap,bb,m,th⟩)=ca at*
 clear Za hp hq h hb HD
 obtain⟨z0,z1,z2,z3,z4⟩:=HZ.out _ _ _ HN.out
 go_enter Tryz.func27,Tryz.ntmps27
 go_upto_region 1 with fail
 generalize w.alloc (.cells ca.toArray 43)=u0 at*
 generalize w.heap.size=gx at*
 go_upto_region 7 with fail
 exact zkq1
theorem acN(Za:VG K.j K.i K.g K.pp)(hp:Yb K.j K.i K.g K.pp s)(hq:Yb K.j K.i K.g K.pp t)(h:K.two s t P w)(hb:Bd P w)(a:VA)(hc:a.c<256)(hk:(a.k:Int)%13=4):
  qai Tryz.prog 27 #[.pointer K.bv,.pointer K.bw,.agg (ZQ a).toArray] w fun e w'=>∃v,e=.returned v/\Nx (K.two (Yw s a.at_).1 (Yw t a.at_).1) P w w':=by
 have HN:qak (Nx (star (K.two s t) (Bx w.heap.size 43 (ZQ a))) P w (w.alloc (.cells (ZQ a).toArray 43))):=χ ((Nx.same h hb).box (Zh K s t) (ZQ a) 43)
 have HZ:qak (∀(t1 t2:PS)(u:qag),Nx (star (K.two t1 t2) (Bx w.heap.size 43 (ZQ a))) P w u->u.cell? ⟨w.heap.size,0,none⟩=some (.int .u8 a.k)/\u.cell? ⟨w.heap.size,1,none⟩=some (.int .i64 a.at_)/\u.cell? ⟨w.heap.size,2,none⟩=some (.int .u16 a.lab)/\u.cell? ⟨w.heap.size,3,none⟩=some (.int .u8 a.c)/\u.cell? ⟨w.heap.size,4,none⟩=some (.slice a.A a.b.length a.cap)):=χ (fun t1 t2 u hu=>⟨hu.cell.cell 0,hu.cell.cell 1,hu.cell.cell 2,hu.cell.cell 3,hu.cell.cell 4⟩)
 have jF:=χ Za
 have HP:=χ hp
 have HQ:=χ hq
 have HD:=Zz w.heap.size 43 (ZQ a)
 have H1:qak (∀u:qag,Nx (star (K.two s t) (Bx w.heap.size 43 (ZQ a))) P w u->qai Tryz.prog 44 #[.pointer K.bv,a.at_] u fun e w'=>e=.returned (.int .i64 ((Yw s a.at_).2:Int))/\Nx (star (K.two (Yw s a.at_).1 t) (Bx w.heap.size 43 (ZQ a))) P w w'):=χ (fun u hu=>Ub HD hu (fun P1 h1 _=>pO h1 HP.out a.at_))
 have H2:qak (∀u:qag,Nx (star (K.two (Yw s a.at_).1 t) (Bx w.heap.size 43 (ZQ a))) P w u->qai Tryz.prog 88 #[.pointer K.bw,a.at_] u fun e w'=>e=.returned (.int .i64 ((Yw t a.at_).2:Int))/\Nx (star (K.two (Yw s a.at_).1 (Yw t a.at_).1) (Bx w.heap.size 43 (ZQ a))) P w w'):=χ (fun u hu=>VV HD hu (fun P1 h1 h2=>pM h1 h2 HQ.out a.at_))
 have Cg:=χ HD
 generalize (Yw s a.at_)=R at*
 generalize (Yw t a.at_)=R2 at*
 obtain⟨k,at_,lab,c,A,cap,bb,m,th⟩:=a
 simp only at hk HZ hc
 generalize (ZQ ⟨k,at_,lab,c,A,cap,bb,m,th⟩)=ca at*
 clear Za hp hq h hb HD
 obtain⟨z0,z1,z2,z3,z4⟩:=HZ.out _ _ _ HN.out
 go_enter Tryz.func27,Tryz.ntmps27
 go_upto_region 1 with fail
 generalize w.alloc (.cells ca.toArray 43)=u0 at*
 generalize w.heap.size=gx at*
 go_upto_region 15 with fail
 exact zkq1
theorem acL(Za:VG K.j K.i K.g K.pp)(hp:Yb K.j K.i K.g K.pp s)(hq:Yb K.j K.i K.g K.pp t)(h:K.two s t P w)(hb:Bd P w)(a:VA)(hc:a.c<256)(hk:(a.k:Int)%13=2):
  qai Tryz.prog 27 #[.pointer K.bv,.pointer K.bw,.agg (ZQ a).toArray] w fun e w'=>∃v,e=.returned v/\Nx (K.two (YW K.g K.pp s a.at_ (qae 64 (qaf a.c))).1 (YW K.g K.pp t a.at_ (qae 64 (qaf a.c))).1) P w w':=by
 have HN:qak (Nx (star (K.two s t) (Bx w.heap.size 43 (ZQ a))) P w (w.alloc (.cells (ZQ a).toArray 43))):=χ ((Nx.same h hb).box (Zh K s t) (ZQ a) 43)
 have HZ:qak (∀(t1 t2:PS)(u:qag),Nx (star (K.two t1 t2) (Bx w.heap.size 43 (ZQ a))) P w u->u.cell? ⟨w.heap.size,0,none⟩=some (.int .u8 a.k)/\u.cell? ⟨w.heap.size,1,none⟩=some (.int .i64 a.at_)/\u.cell? ⟨w.heap.size,2,none⟩=some (.int .u16 a.lab)/\u.cell? ⟨w.heap.size,3,none⟩=some (.int .u8 a.c)/\u.cell? ⟨w.heap.size,4,none⟩=some (.slice a.A a.b.length a.cap)):=χ (fun t1 t2 u hu=>⟨hu.cell.cell 0,hu.cell.cell 1,hu.cell.cell 2,hu.cell.cell 3,hu.cell.cell 4⟩)
 have jF:=χ Za
 have HP:=χ hp
 have HQ:=χ hq
 have HD:=Zz w.heap.size 43 (ZQ a)
 have hrd:∀(u:qag)(q:Nat),Bk u q 5 (Z6 (qae 64 (qaf a.c)))->Rd u u.heap.size (some ⟨q,0,none⟩) (Z6 (qae 64 (qaf a.c))):=fun u q hq=>by
  have:=hq.rd 64 0
  rwa[List.drop_zero,List.take_of_length_le (by rw[Z4];simp)]at this
 have H1:qak (∀(u:qag)(q:Nat),Nx (star (K.two s t) (Bx w.heap.size 43 (ZQ a))) P w u->Bk u q 5 (Z6 (qae 64 (qaf a.c)))->qai Tryz.prog 43 #[.pointer K.bv,a.at_,.slice q 64 64] u fun e w'=>e=.returned (.int .i64 ((YW K.g K.pp s a.at_ (qae 64 (qaf a.c))).2:Int))/\Nx (star (K.two (YW K.g K.pp s a.at_ (qae 64 (qaf a.c))).1 t) (Bx w.heap.size 43 (ZQ a))) P w w'):=χ (fun u q hu hq=>Ub HD hu (fun P1 h1 _=>AB jF.out h1 HP.out a.at_ _ 64 64 _ (by simp) (hrd u q hq)))
 have H2:qak (∀(u:qag)(q:Nat),Nx (star (K.two (YW K.g K.pp s a.at_ (qae 64 (qaf a.c))).1 t) (Bx w.heap.size 43 (ZQ a))) P w u->Bk u q 5 (Z6 (qae 64 (qaf a.c)))->qai Tryz.prog 86 #[.pointer K.bw,a.at_,.slice q 64 64] u fun e w'=>e=.returned (.int .i64 ((YW K.g K.pp t a.at_ (qae 64 (qaf a.c))).2:Int))/\Nx (star (K.two (YW K.g K.pp s a.at_ (qae 64 (qaf a.c))).1 (YW K.g K.pp t a.at_ (qae 64 (qaf a.c))).1) (Bx w.heap.size 43 (ZQ a))) P w w'):=χ (fun u q hu hq=>VV HD hu (fun P1 h1 h2=>AA h1 h2 HQ.out a.at_ _ 64 64 _ (by simp) (hrd u q hq)))
 have HSE:qak (∀u:qag,qai Tryz.prog 37 #[.int .u8 a.c] u fun e w'=>∃g,e=.returned (.slice (some ⟨g,0,none⟩) 64 64)/\Bk w' g 5 (Z6 (qae 64 (qaf a.c)))/\u.heap.size<=g/\Below u.heap.size u w'):=χ (fun u=>by
  have:=CJ (qaf a.c) u
  rwa[UInt8.toNat_ofNat_of_lt' (by exact hc)]at this)
 have Cg:=χ HD
 generalize (YW K.g K.pp s a.at_ (qae 64 (qaf a.c)))=R at*
 generalize (YW K.g K.pp t a.at_ (qae 64 (qaf a.c)))=R2 at*
 generalize qae 64 (qaf a.c)=lc at*
 clear hrd
 obtain⟨k,at_,lab,c,A,cap,bb,m,th⟩:=a
 simp only at hk HZ hc
 generalize (ZQ ⟨k,at_,lab,c,A,cap,bb,m,th⟩)=ca at*
 clear Za hp hq h hb HD
 obtain⟨z0,z1,z2,z3,z4⟩:=HZ.out _ _ _ HN.out
 go_enter Tryz.func27,Tryz.ntmps27
 go_upto_region 1 with fail
 generalize w.alloc (.cells ca.toArray 43)=u0 at*
 generalize w.heap.size=gx at*
 go_upto_region 9 with fail
 have KE:=χ (HN.out.later (XH.star (Zh K s t) Cg.out) (qam _ u0).drew)
 refine qah (S:=fun u=>u.cell? ⟨gx,1,none⟩=some (.int .i64 at_)/\u.cell? ⟨gx,3,none⟩=some (.int .u8 c)) (by kernel_rfl) ⟨z1,z3⟩ (fun hHeld=>?_)
 clear HN z0 z1 z2 z3 z4
 generalize hu0:u0.drew=vL at*
 clear hu0
 refine tk 0 ?_ (y:=.inl ⟨by rfl,?hyb0⟩) (s:=by exact hHeld) (h:=?Ad)
 case hyb0=>exact zkq5
 try simp only[qad,qaa,qab,qac]
 refine tk 1 ?_ (y:=.inl ⟨by rfl,?hyb1⟩) (s:=by exact hHeld) (h:=?Ac)
 case hyb1=>exact zkq5
 try simp only[qad,qaa,qab,qac]
 refine tk 2 ?_ (y:=.inl ⟨by rfl,?hyb2⟩) (s:=by exact hHeld) (h:=?Ab)
 case hyb2=>exact zkq5
 try simp only[qad,qaa,qab,qac]
 refine tk 3 ?_ (y:=.inl ⟨by rfl,?hyb3⟩) (s:=by exact hHeld) (h:=?Aa)
 case hyb3=>exact zkq5
 try simp only[qad,qaa,qab,qac]
 refine tk 4 ?_ (y:=.inl ⟨by rfl,?hyb4⟩) (s:=by exact hHeld) (h:=?zZ)
 case hyb4=>exact zkq5
 try simp only[qad,qaa,qab,qac]
 refine tk 7 ?_ (y:=.inl ⟨by rfl,?hyb7⟩) (s:=by exact hHeld) (h:=?vJ)
 case hyb7=>exact zkq5
 try simp only[qad,qaa,qab,qac]
 refine tk 8 ?_ (y:=.inl ⟨by rfl,?hyb8⟩) (s:=by exact hHeld) (h:=?eB)
 case hyb8=>exact zkq5
 try simp only[qad,qaa,qab,qac]
 refine tk 9 ?_ (y:=.inl ⟨by rfl,?hyb9⟩) (s:=by exact hHeld) (h:=?lQ)
 case hyb9=>exact zkq5
 try simp only[qad,qaa,qab,qac]
 refine tk 10 ?_ (y:=.inl ⟨by rfl,?hyb10⟩) (s:=by exact hHeld) (h:=?Bl)
 case hyb10=>exact zkq5
 try simp only[qad,qaa,qab,qac]
 refine tk 11 ?_ (y:=.inl ⟨by rfl,?hyb11⟩) (s:=by exact hHeld) (h:=?Bj)
 case hyb11=>exact zkq5
 try simp only[qad,qaa,qab,qac]
 refine rd 5 (h:=fun K_ hK=>?_)
 go_simp
 (with_reducible refine(HSE.out _).mono ?_)
 rintro e w1 ⟨qw1,he,hq,_,hb⟩;obtain rfl:=he
 have Xr:=χ (KE.out.later (XH.star (Zh K s t) Cg.out) hb)
 have acO:=χ hq
 clear hq hb
 obtain⟨z0,z1,z2,z3,z4⟩:=HZ.out _ _ _ Xr.out
 go_simp
 refine hK.out _ _ ⟨z1,z3⟩ (fun Z5=>?_)
 clear hK K_ hHeld z0 z1 z2 z3 z4
 have hHeld:=Z5
 clear Z5
 try simp only[qad,qaa,qab,qac]
 refine rd 6 (h:=fun K_ hK=>?_)
 go_simp
 (with_reducible refine(H1.out _ _ Xr.out acO.out).mono ?_)
 rintro e w2 ⟨he,hn⟩;obtain rfl:=he
 have Xj:=χ hn
 clear hn
 obtain⟨z0,z1,z2,z3,z4⟩:=HZ.out _ _ _ Xj.out
 go_simp
 refine hK.out _ _ ⟨z1,z3⟩ (fun Z5=>?_)
 clear hK K_ hHeld z0 z1 z2 z3 z4
 have hHeld:=Z5
 clear Z5
 try simp only[qad,qaa,qab,qac]
 refine rd 12 (h:=fun K_ hK=>?_)
 go_simp
 (with_reducible refine(HSE.out _).mono ?_)
 rintro e w3 ⟨qw3,he,hq,_,hb⟩;obtain rfl:=he
 have oD:=χ (Xj.out.later (XH.star (Zh K _ _) Cg.out) hb)
 have acP:=χ hq
 clear hq hb
 obtain⟨z0,z1,z2,z3,z4⟩:=HZ.out _ _ _ oD.out
 go_simp
 refine hK.out _ _ ⟨z1,z3⟩ (fun Z5=>?_)
 clear hK K_ hHeld z0 z1 z2 z3 z4
 have hHeld:=Z5
 clear Z5
 try simp only[qad,qaa,qab,qac]
 refine rd 13 (h:=fun K_ hK=>?_)
 go_simp
 (with_reducible refine(H2.out _ _ oD.out acP.out).mono ?_)
 rintro e w4 ⟨he,hn⟩;obtain rfl:=he
 have WX:=χ hn
 clear hn
 obtain⟨z0,z1,z2,z3,z4⟩:=HZ.out _ _ _ WX.out
 go_simp
 refine hK.out _ _ ⟨z1,z3⟩ (fun Z5=>?_)
 clear hK K_ hHeld z0 z1 z2 z3 z4
 have hHeld:=Z5
 clear Z5
 try simp only[qad,qaa,qab,qac]
 refine tk 14 ?_ (y:=.inl ⟨by rfl,?hyb14⟩) (s:=by exact hHeld) (h:=?jl)
 case hyb14=>exact zkq5
 try simp only[qad,qaa,qab,qac]
 refine tk 15 ?_ (y:=.inl ⟨by rfl,?hyb15⟩) (s:=by exact hHeld) (h:=?abp)
 case hyb15=>exact zkq5
 try simp only[qad,qaa,qab,qac]
 refine qal (by kernel_rfl) ?_ _
 clear hHeld
 go_wp2
 all_goals exact zkq3
end
end Go.Proofs.YtmehhgfbnfbnaaaGreat.Zl

namespace Go.Proofs.YtmehhgfbnfbnaaaGreat.Zl
open Go.RowKit Zq Meta Apart
section
variable {K:VK}{s t:PS}{P:Nat->Prop}{w:qag}
theorem abl(hp:Yb K.j K.i K.g K.pp s)(hq:Yb K.j K.i K.g K.pp t)(h:K.two s t P w)(hb:Bd P w)(k:Nat)(at_:Int)(lab c:Nat)(A:Option Addr)(cap:Nat)(bb:List UInt8)(ik ir:Nat)(il Zo p0 p1 p2 p3 p4 p5 p6 p7 p8 p9:Int)(th:Nat)(hk:(k:Int)%13=5)(k2 r2:Nat)(l2 s2 q0 q1 q2 q3 q4 q5 q6 q7 q8 q9:Int)(hn:Z9.YP ⟨k2,r2,il,Zo,[p0,p1,p2,p3,p4,p5,p6,p7,p8,p9]⟩)(lb er:Nat)(hin:YM t at_=(⟨k2,r2,l2,s2,[q0,q1,q2,q3,q4,q5,q6,q7,q8,q9]⟩,lb,er))(he:er=0)(hc2:(c:Int)%2=0):
  qai Tryz.prog 27 #[.pointer K.bv,.pointer K.bw,.agg (ZQ ⟨k,at_,lab,c,A,cap,bb,⟨ik,ir,il,Zo,[p0,p1,p2,p3,p4,p5,p6,p7,p8,p9]⟩,th⟩).toArray] w fun e w'=>∃v,e=.returned v/\Nx (K.two (Yc s at_ ⟨k2,r2,il,Zo,[p0,p1,p2,p3,p4,p5,p6,p7,p8,p9]⟩).1 (Yc t at_ ⟨k2,r2,il,Zo,[p0,p1,p2,p3,p4,p5,p6,p7,p8,p9]⟩).1) P w w':=by
 have HN:qak (Nx (star (K.two s t) (Bx w.heap.size 43 (ZQ ⟨k,at_,lab,c,A,cap,bb,⟨ik,ir,il,Zo,[p0,p1,p2,p3,p4,p5,p6,p7,p8,p9]⟩,th⟩))) P w (w.alloc (.cells (ZQ ⟨k,at_,lab,c,A,cap,bb,⟨ik,ir,il,Zo,[p0,p1,p2,p3,p4,p5,p6,p7,p8,p9]⟩,th⟩).toArray 43))):=χ ((Nx.same h hb).box (Zh K s t) (ZQ ⟨k,at_,lab,c,A,cap,bb,⟨ik,ir,il,Zo,[p0,p1,p2,p3,p4,p5,p6,p7,p8,p9]⟩,th⟩) 43)
 have HZ:qak (∀(D:TP)(u:qag),Nx (star D (Bx w.heap.size 43 (ZQ ⟨k,at_,lab,c,A,cap,bb,⟨ik,ir,il,Zo,[p0,p1,p2,p3,p4,p5,p6,p7,p8,p9]⟩,th⟩))) P w u->u.cell? ⟨w.heap.size,0,none⟩=some (.int .u8 k)/\u.cell? ⟨w.heap.size,1,none⟩=some (.int .i64 at_)/\u.cell? ⟨w.heap.size,2,none⟩=some (.int .u16 lab)/\u.cell? ⟨w.heap.size,3,none⟩=some (.int .u8 c)/\u.cell? ⟨w.heap.size,4,none⟩=some (.slice A bb.length cap)/\u.cell? ⟨w.heap.size,5,none⟩=some (.int .u8 ik)/\u.cell? ⟨w.heap.size,6,none⟩=some (.int .u8 ir)/\u.cell? ⟨w.heap.size,7,none⟩=some (.int .i64 il)/\u.cell? ⟨w.heap.size,8,none⟩=some (.int .i64 Zo)/\u.cell? ⟨w.heap.size,9,none⟩=some (.int .i64 p0)/\u.cell? ⟨w.heap.size,10,none⟩=some (.int .i64 p1)/\u.cell? ⟨w.heap.size,11,none⟩=some (.int .i64 p2)/\u.cell? ⟨w.heap.size,12,none⟩=some (.int .i64 p3)/\u.cell? ⟨w.heap.size,13,none⟩=some (.int .i64 p4)/\u.cell? ⟨w.heap.size,14,none⟩=some (.int .i64 p5)/\u.cell? ⟨w.heap.size,15,none⟩=some (.int .i64 p6)/\u.cell? ⟨w.heap.size,16,none⟩=some (.int .i64 p7)/\u.cell? ⟨w.heap.size,17,none⟩=some (.int .i64 p8)/\u.cell? ⟨w.heap.size,18,none⟩=some (.int .i64 p9)):=χ (fun D u hu=>⟨hu.cell.cell 0,hu.cell.cell 1,hu.cell.cell 2,hu.cell.cell 3,hu.cell.cell 4,hu.cell.cell 5,hu.cell.cell 6,hu.cell.cell 7,hu.cell.cell 8,hu.cell.cell 9,hu.cell.cell 10,hu.cell.cell 11,hu.cell.cell 12,hu.cell.cell 13,hu.cell.cell 14,hu.cell.cell 15,hu.cell.cell 16,hu.cell.cell 17,hu.cell.cell 18⟩)
 have iU:qak (∀u:qag,Nx (star (K.two s t) (star (Bx w.heap.size 43 (ZQ ⟨k,at_,lab,c,A,cap,bb,⟨ik,ir,il,Zo,[p0,p1,p2,p3,p4,p5,p6,p7,p8,p9]⟩,th⟩)) (Bx (w.alloc (.cells (ZQ ⟨k,at_,lab,c,A,cap,bb,⟨ik,ir,il,Zo,[p0,p1,p2,p3,p4,p5,p6,p7,p8,p9]⟩,th⟩).toArray 43)).heap.size 40 [.int .u8 ik,.int .u8 ir,il,Zo,p0,p1,p2,p3,p4,p5,p6,p7,p8,p9]))) P w u->qai Tryz.prog 29 #[.pointer K.bw,at_] u fun e w'=>e=.returned (.tuple #[.agg #[.int .u8 k2,.int .u8 r2,l2,s2,q0,q1,q2,q3,q4,q5,q6,q7,q8,q9],.int .u16 lb,er])/\Nx (star (K.two s t) (star (Bx w.heap.size 43 (ZQ ⟨k,at_,lab,c,A,cap,bb,⟨ik,ir,il,Zo,[p0,p1,p2,p3,p4,p5,p6,p7,p8,p9]⟩,th⟩)) (Bx (w.alloc (.cells (ZQ ⟨k,at_,lab,c,A,cap,bb,⟨ik,ir,il,Zo,[p0,p1,p2,p3,p4,p5,p6,p7,p8,p9]⟩,th⟩).toArray 43)).heap.size 40 [.int .u8 ik,.int .u8 ir,il,Zo,p0,p1,p2,p3,p4,p5,p6,p7,p8,p9]))) P w w'):=χ (fun u hu=>VV (XH.star (Zz ..) (Zz ..)) hu (fun P1 h1 _=>by
  have:=I7 h1 hq at_
  rw[hin]at this
  exact this))
 have HSV:qak (∀u:qag,Nx (star (K.two s t) (star (Bx w.heap.size 43 (ZQ ⟨k,at_,lab,c,A,cap,bb,⟨ik,ir,il,Zo,[p0,p1,p2,p3,p4,p5,p6,p7,p8,p9]⟩,th⟩)) (Bx (w.alloc (.cells (ZQ ⟨k,at_,lab,c,A,cap,bb,⟨ik,ir,il,Zo,[p0,p1,p2,p3,p4,p5,p6,p7,p8,p9]⟩,th⟩).toArray 43)).heap.size 40 [.int .u8 k2,.int .u8 r2,il,Zo,p0,p1,p2,p3,p4,p5,p6,p7,p8,p9]))) P w u->qai Tryz.prog 45 #[.pointer K.bv,at_,.agg #[.int .u8 k2,.int .u8 r2,il,Zo,p0,p1,p2,p3,p4,p5,p6,p7,p8,p9]] u fun e w'=>e=.returned (.int .i64 ((Yc s at_ ⟨k2,r2,il,Zo,[p0,p1,p2,p3,p4,p5,p6,p7,p8,p9]⟩).2:Int))/\Nx (star (K.two (Yc s at_ ⟨k2,r2,il,Zo,[p0,p1,p2,p3,p4,p5,p6,p7,p8,p9]⟩).1 t) (star (Bx w.heap.size 43 (ZQ ⟨k,at_,lab,c,A,cap,bb,⟨ik,ir,il,Zo,[p0,p1,p2,p3,p4,p5,p6,p7,p8,p9]⟩,th⟩)) (Bx (w.alloc (.cells (ZQ ⟨k,at_,lab,c,A,cap,bb,⟨ik,ir,il,Zo,[p0,p1,p2,p3,p4,p5,p6,p7,p8,p9]⟩,th⟩).toArray 43)).heap.size 40 [.int .u8 k2,.int .u8 r2,il,Zo,p0,p1,p2,p3,p4,p5,p6,p7,p8,p9]))) P w w'):=χ (fun u hu=>Ub (XH.star (Zz ..) (Zz ..)) hu (fun P1 h1 _=>pR h1 hp at_ ⟨k2,r2,il,Zo,[p0,p1,p2,p3,p4,p5,p6,p7,p8,p9]⟩ hn))
 have HSR:qak (∀u:qag,Nx (star (K.two (Yc s at_ ⟨k2,r2,il,Zo,[p0,p1,p2,p3,p4,p5,p6,p7,p8,p9]⟩).1 t) (star (Bx w.heap.size 43 (ZQ ⟨k,at_,lab,c,A,cap,bb,⟨ik,ir,il,Zo,[p0,p1,p2,p3,p4,p5,p6,p7,p8,p9]⟩,th⟩)) (Bx (w.alloc (.cells (ZQ ⟨k,at_,lab,c,A,cap,bb,⟨ik,ir,il,Zo,[p0,p1,p2,p3,p4,p5,p6,p7,p8,p9]⟩,th⟩).toArray 43)).heap.size 40 [.int .u8 k2,.int .u8 r2,il,Zo,p0,p1,p2,p3,p4,p5,p6,p7,p8,p9]))) P w u->qai Tryz.prog 89 #[.pointer K.bw,at_,.agg #[.int .u8 k2,.int .u8 r2,il,Zo,p0,p1,p2,p3,p4,p5,p6,p7,p8,p9]] u fun e w'=>e=.returned (.int .i64 ((Yc t at_ ⟨k2,r2,il,Zo,[p0,p1,p2,p3,p4,p5,p6,p7,p8,p9]⟩).2:Int))/\Nx (star (K.two (Yc s at_ ⟨k2,r2,il,Zo,[p0,p1,p2,p3,p4,p5,p6,p7,p8,p9]⟩).1 (Yc t at_ ⟨k2,r2,il,Zo,[p0,p1,p2,p3,p4,p5,p6,p7,p8,p9]⟩).1) (star (Bx w.heap.size 43 (ZQ ⟨k,at_,lab,c,A,cap,bb,⟨ik,ir,il,Zo,[p0,p1,p2,p3,p4,p5,p6,p7,p8,p9]⟩,th⟩)) (Bx (w.alloc (.cells (ZQ ⟨k,at_,lab,c,A,cap,bb,⟨ik,ir,il,Zo,[p0,p1,p2,p3,p4,p5,p6,p7,p8,p9]⟩,th⟩).toArray 43)).heap.size 40 [.int .u8 k2,.int .u8 r2,il,Zo,p0,p1,p2,p3,p4,p5,p6,p7,p8,p9]))) P w w'):=χ (fun u hu=>VV (XH.star (Zz ..) (Zz ..)) hu (fun P1 h1 _=>pQ h1 hq at_ ⟨k2,r2,il,Zo,[p0,p1,p2,p3,p4,p5,p6,p7,p8,p9]⟩ hn))
 generalize hsn:(Yc s at_ ⟨k2,r2,il,Zo,[p0,p1,p2,p3,p4,p5,p6,p7,p8,p9]⟩)=R at*
 clear hsn
 generalize hsn:(Yc t at_ ⟨k2,r2,il,Zo,[p0,p1,p2,p3,p4,p5,p6,p7,p8,p9]⟩)=R2 at*
 clear hsn
 have HGN:qak (w.heap.size<(w.alloc (.cells (ZQ ⟨k,at_,lab,c,A,cap,bb,⟨ik,ir,il,Zo,[p0,p1,p2,p3,p4,p5,p6,p7,p8,p9]⟩,th⟩).toArray 43)).heap.size):=χ (by simp)
 clear hp hq h hb hn hin
 obtain⟨z0,z1,z2,z3,z4,z5,z6,z7,z8,z9,YJ,YI,z12,XE,z14,z15,z16,z17,z18⟩:=HZ.out _ _ HN.out
 have HA1:qak (∀(u:qag)(q:Nat),Bk u q 43 (ZQ ⟨k,at_,lab,c,A,cap,bb,⟨ik,ir,il,Zo,[p0,p1,p2,p3,p4,p5,p6,p7,p8,p9]⟩,th⟩)->u.cell? ⟨q,1,none⟩=some (.int .i64 at_)):=χ (fun u q hu=>hu.cell 1)
 have I6:qak (∀(u:qag)(q:Nat),Bk u q 43 (ZQ ⟨k,at_,lab,c,A,cap,bb,⟨ik,ir,il,Zo,[p0,p1,p2,p3,p4,p5,p6,p7,p8,p9]⟩,th⟩)->u.cell? ⟨q,3,none⟩=some (.int .u8 c)):=χ (fun u q hu=>hu.cell 3)
 clear HZ
 generalize (ZQ ⟨k,at_,lab,c,A,cap,bb,⟨ik,ir,il,Zo,[p0,p1,p2,p3,p4,p5,p6,p7,p8,p9]⟩,th⟩)=ca at*
 go_enter Tryz.func27,Tryz.ntmps27
 go_upto_region 1 with fail
 generalize w.alloc (.cells ca.toArray 43)=u0 at*
 generalize w.heap.size=gx at*
 go_upto_region 18 with fail
 have Xr:qak (Nx (star (K.two s t) (star (Bx gx 43 ca) (Bx u0.heap.size 40 [.int .u8 ik,.int .u8 ir,il,Zo,p0,p1,p2,p3,p4,p5,p6,p7,p8,p9]))) P w (u0.alloc (.cells #[.int .u8 ik,.int .u8 ir,il,Zo,p0,p1,p2,p3,p4,p5,p6,p7,p8,p9] 40))):=χ ((HN.out.box (XH.star (Zh K s t) (Zz ..)) [.int .u8 ik,.int .u8 ir,il,Zo,p0,p1,p2,p3,p4,p5,p6,p7,p8,p9] 40).imp (fun _ h=>Uc h))
 clear HN z0 z1 z2 z3 z4 z5 z6 z7 z8 z9 YJ YI z12 XE z14 z15 z16 z17 z18
 generalize u0.alloc (.cells #[.int .u8 ik,.int .u8 ir,il,Zo,p0,p1,p2,p3,p4,p5,p6,p7,p8,p9] 40)=u1 at*
 generalize u0.heap.size=gn at*
 have z1:=HA1.out _ _ (cell1 Xr.out)
 go_upto_region 19 with(go_at_call 29;go_must (with_reducible refine(iU.out _ Xr.out).mono ?_);rintro e w1 ⟨he,hn⟩;obtain rfl:=he;have WX:=χ hn;clear hn z1)
 have Xj:qak (Nx (star (K.two s t) (star (Bx gx 43 ca) (Bx gn 40 [.int .u8 ik,.int .u8 ir,il,Zo,p0,p1,p2,p3,p4,p5,p6,p7,p8,p9]))) P w (w1.alloc (.cells #[.int .u8 k2,.int .u8 r2,l2,s2,q0,q1,q2,q3,q4,q5,q6,q7,q8,q9] 40))):=χ (WX.out.later (XH.star (Zh K s t) (XH.star (Zz ..) (Zz ..))) (Z0 _ _))
 have HM:qak (Bk (w1.alloc (.cells #[.int .u8 k2,.int .u8 r2,l2,s2,q0,q1,q2,q3,q4,q5,q6,q7,q8,q9] 40)) w1.heap.size 40 [.int .u8 k2,.int .u8 r2,l2,s2,q0,q1,q2,q3,q4,q5,q6,q7,q8,q9]):=χ (Bk.new _ _ _)
 clear Xr WX iU
 generalize w1.alloc (.cells #[.int .u8 k2,.int .u8 r2,l2,s2,q0,q1,q2,q3,q4,q5,q6,q7,q8,q9] 40)=u3 at*
 generalize w1.heap.size=gm at*
 have z1:=HA1.out _ _ (cell1 Xj.out)
 have z3:=I6.out _ _ (cell1 Xj.out)
 subst he
 have m0:u3.cell? ⟨gm,0,none⟩=some (.int .u8 k2):=HM.out.cell 0
 have m1:u3.cell? ⟨gm,1,none⟩=some (.int .u8 r2):=HM.out.cell 1
 have n0:u3.cell? ⟨gn,0,none⟩=some (.int .u8 ik):=(Ux Xj.out).cell 0
 have n1:u3.cell? ⟨gn,1,none⟩=some (.int .u8 ir):=(Ux Xj.out).cell 1
 have f0:=(Ux Xj.out).frozen 0
 have f1:=(Ux Xj.out).frozen 1
 have oD:=χ (set2 (set2 Xj.out (Zh K s t) (Zz ..) 0 (.int .u8 k2)) (Zh K s t) (Zz ..) 1 (.int .u8 r2))
 go_upto_region 20 with fail
 go_region
 clear m0 m1 n0 n1 f0 f1 z1 z3
 have iT:qak (Nx (star (K.two s t) (star (Bx gx 43 ca) (Bx gn 40 [.int .u8 k2,.int .u8 r2,il,Zo,p0,p1,p2,p3,p4,p5,p6,p7,p8,p9]))) P w ((u3.setCell ⟨gn,0,none⟩ (.int .u8 k2)).setCell ⟨gn,1,none⟩ (.int .u8 r2)).drew):=χ (oD.out.later (XH.star (Zh K s t) (XH.star (Zz ..) (Zz ..))) (qam _ _).drew)
 clear Xj oD
 generalize ((u3.setCell ⟨gn,0,none⟩ (.int .u8 k2)).setCell ⟨gn,1,none⟩ (.int .u8 r2)).drew=u4 at*
 go_upto_region 21 with fail
 have KE:=χ (iT.out.later (XH.star (Zh K s t) (XH.star (Zz ..) (Zz ..))) (qam _ u4).drew)
 have hS0:u4.drew.cell? ⟨gx,1,none⟩=some (.int .i64 at_)/\u4.drew.rangeAt gn 0 [.int .u8 k2,.int .u8 r2,il,Zo,p0,p1,p2,p3,p4,p5,p6,p7,p8,p9]:=⟨HA1.out _ _ (cell1 KE.out),Yo (Ux KE.out)⟩
 refine qah (S:=fun u=>u.cell? ⟨gx,1,none⟩=some (.int .i64 at_)/\u.rangeAt gn 0 [.int .u8 k2,.int .u8 r2,il,Zo,p0,p1,p2,p3,p4,p5,p6,p7,p8,p9]) (by kernel_rfl) hS0 (fun hHeld=>?_)
 clear iT hS0
 generalize hu0:u4.drew=vL at*
 clear hu0
 refine tk 0 ?_ (y:=.inl ⟨by rfl,?hya0⟩) (s:=by exact hHeld) (h:=?V6)
 case hya0=>exact zkq4
 try simp only[qad,qaa,qab,qac]
 refine tk 1 ?_ (y:=.inl ⟨by rfl,?hya1⟩) (s:=by exact hHeld) (h:=?V5)
 case hya1=>exact zkq4
 try simp only[qad,qaa,qab,qac]
 refine tk 2 ?_ (y:=.inl ⟨by rfl,?hya2⟩) (s:=by exact hHeld) (h:=?V4)
 case hya2=>exact zkq4
 try simp only[qad,qaa,qab,qac]
 refine tk 3 _ (y:=(qaj (by rfl) 40 _ rfl gn 0 rfl [.int .u8 k2,.int .u8 r2,il,Zo,p0,p1,p2,p3,p4,p5,p6,p7,p8,p9] _ (fun u hu=>hu.2) Tryz.underlying40 rfl Y9)) (s:=by exact hHeld) (h:=?_)
 try simp only[qad,qaa,qab,qac]
 refine tk 5 ?_ (y:=.inl ⟨by rfl,?hya5⟩) (s:=by exact hHeld) (h:=?Vi)
 case hya5=>exact zkq4
 try simp only[qad,qaa,qab,qac]
 refine tk 6 ?_ (y:=.inl ⟨by rfl,?hya6⟩) (s:=by exact hHeld) (h:=?UR)
 case hya6=>exact zkq4
 try simp only[qad,qaa,qab,qac]
 refine tk 7 ?_ (y:=.inl ⟨by rfl,?hya7⟩) (s:=by exact hHeld) (h:=?RU)
 case hya7=>exact zkq4
 try simp only[qad,qaa,qab,qac]
 refine tk 8 _ (y:=(qaj (by rfl) 40 _ rfl gn 0 rfl [.int .u8 k2,.int .u8 r2,il,Zo,p0,p1,p2,p3,p4,p5,p6,p7,p8,p9] _ (fun u hu=>hu.2) Tryz.underlying40 rfl Y9)) (s:=by exact hHeld) (h:=?_)
 try simp only[qad,qaa,qab,qac]
 refine rd 4 (h:=fun K_ hK=>?_)
 go_simp
 (with_reducible refine(HSV.out _ KE.out).mono ?_)
 rintro e w5 ⟨he,hn⟩;obtain rfl:=he
 have EX:=χ hn
 clear hn
 have hS:w5.cell? ⟨gx,1,none⟩=some (.int .i64 at_)/\w5.rangeAt gn 0 [.int .u8 k2,.int .u8 r2,il,Zo,p0,p1,p2,p3,p4,p5,p6,p7,p8,p9]:=⟨HA1.out _ _ (cell1 EX.out),Yo (Ux EX.out)⟩
 go_simp
 refine hK.out _ _ hS (fun Z5=>?_)
 clear hK K_ hHeld hS
 have hHeld:=Z5
 clear Z5
 try simp only[qad,qaa,qab,qac]
 refine rd 9 (h:=fun K_ hK=>?_)
 go_simp
 (with_reducible refine(HSR.out _ EX.out).mono ?_)
 rintro e w6 ⟨he,hn⟩;obtain rfl:=he
 have Ri:=χ hn
 clear hn
 have hS:w6.cell? ⟨gx,1,none⟩=some (.int .i64 at_)/\w6.rangeAt gn 0 [.int .u8 k2,.int .u8 r2,il,Zo,p0,p1,p2,p3,p4,p5,p6,p7,p8,p9]:=⟨HA1.out _ _ (cell1 Ri.out),Yo (Ux Ri.out)⟩
 go_simp
 refine hK.out _ _ hS (fun Z5=>?_)
 clear hK K_ hHeld hS
 have hHeld:=Z5
 clear Z5
 try simp only[qad,qaa,qab,qac]
 refine tk 10 ?_ (y:=.inl ⟨by rfl,?hya10⟩) (s:=by exact hHeld) (h:=?Vb)
 case hya10=>exact zkq4
 try simp only[qad,qaa,qab,qac]
 refine tk 11 ?_ (y:=.inl ⟨by rfl,?hya11⟩) (s:=by exact hHeld) (h:=?Rb)
 case hya11=>exact zkq4
 try simp only[qad,qaa,qab,qac]
 refine qal (by kernel_rfl) ?_ _
 clear hHeld
 exact zkq2
theorem abn(hp:Yb K.j K.i K.g K.pp s)(hq:Yb K.j K.i K.g K.pp t)(h:K.two s t P w)(hb:Bd P w)(k:Nat)(at_:Int)(lab c:Nat)(A:Option Addr)(cap:Nat)(bb:List UInt8)(ik ir:Nat)(il Zo p0 p1 p2 p3 p4 p5 p6 p7 p8 p9:Int)(th:Nat)(hk:(k:Int)%13=5)(k2 r2:Nat)(l2 s2 q0 q1 q2 q3 q4 q5 q6 q7 q8 q9:Int)(hn:Z9.YP ⟨ik,ir,il,Zo,[p0,p1,p2,p3,p4,p5,p6,p7,p8,p9]⟩)(lb er:Nat)(hin:YM t at_=(⟨k2,r2,l2,s2,[q0,q1,q2,q3,q4,q5,q6,q7,q8,q9]⟩,lb,er))(he:er≠0):
  qai Tryz.prog 27 #[.pointer K.bv,.pointer K.bw,.agg (ZQ ⟨k,at_,lab,c,A,cap,bb,⟨ik,ir,il,Zo,[p0,p1,p2,p3,p4,p5,p6,p7,p8,p9]⟩,th⟩).toArray] w fun e w'=>∃v,e=.returned v/\Nx (K.two (Yc s at_ ⟨ik,ir,il,Zo,[p0,p1,p2,p3,p4,p5,p6,p7,p8,p9]⟩).1 (Yc t at_ ⟨ik,ir,il,Zo,[p0,p1,p2,p3,p4,p5,p6,p7,p8,p9]⟩).1) P w w':=by
 have HN:qak (Nx (star (K.two s t) (Bx w.heap.size 43 (ZQ ⟨k,at_,lab,c,A,cap,bb,⟨ik,ir,il,Zo,[p0,p1,p2,p3,p4,p5,p6,p7,p8,p9]⟩,th⟩))) P w (w.alloc (.cells (ZQ ⟨k,at_,lab,c,A,cap,bb,⟨ik,ir,il,Zo,[p0,p1,p2,p3,p4,p5,p6,p7,p8,p9]⟩,th⟩).toArray 43))):=χ ((Nx.same h hb).box (Zh K s t) (ZQ ⟨k,at_,lab,c,A,cap,bb,⟨ik,ir,il,Zo,[p0,p1,p2,p3,p4,p5,p6,p7,p8,p9]⟩,th⟩) 43)
 have HZ:qak (∀(D:TP)(u:qag),Nx (star D (Bx w.heap.size 43 (ZQ ⟨k,at_,lab,c,A,cap,bb,⟨ik,ir,il,Zo,[p0,p1,p2,p3,p4,p5,p6,p7,p8,p9]⟩,th⟩))) P w u->u.cell? ⟨w.heap.size,0,none⟩=some (.int .u8 k)/\u.cell? ⟨w.heap.size,1,none⟩=some (.int .i64 at_)/\u.cell? ⟨w.heap.size,2,none⟩=some (.int .u16 lab)/\u.cell? ⟨w.heap.size,3,none⟩=some (.int .u8 c)/\u.cell? ⟨w.heap.size,4,none⟩=some (.slice A bb.length cap)/\u.cell? ⟨w.heap.size,5,none⟩=some (.int .u8 ik)/\u.cell? ⟨w.heap.size,6,none⟩=some (.int .u8 ir)/\u.cell? ⟨w.heap.size,7,none⟩=some (.int .i64 il)/\u.cell? ⟨w.heap.size,8,none⟩=some (.int .i64 Zo)/\u.cell? ⟨w.heap.size,9,none⟩=some (.int .i64 p0)/\u.cell? ⟨w.heap.size,10,none⟩=some (.int .i64 p1)/\u.cell? ⟨w.heap.size,11,none⟩=some (.int .i64 p2)/\u.cell? ⟨w.heap.size,12,none⟩=some (.int .i64 p3)/\u.cell? ⟨w.heap.size,13,none⟩=some (.int .i64 p4)/\u.cell? ⟨w.heap.size,14,none⟩=some (.int .i64 p5)/\u.cell? ⟨w.heap.size,15,none⟩=some (.int .i64 p6)/\u.cell? ⟨w.heap.size,16,none⟩=some (.int .i64 p7)/\u.cell? ⟨w.heap.size,17,none⟩=some (.int .i64 p8)/\u.cell? ⟨w.heap.size,18,none⟩=some (.int .i64 p9)):=χ (fun D u hu=>⟨hu.cell.cell 0,hu.cell.cell 1,hu.cell.cell 2,hu.cell.cell 3,hu.cell.cell 4,hu.cell.cell 5,hu.cell.cell 6,hu.cell.cell 7,hu.cell.cell 8,hu.cell.cell 9,hu.cell.cell 10,hu.cell.cell 11,hu.cell.cell 12,hu.cell.cell 13,hu.cell.cell 14,hu.cell.cell 15,hu.cell.cell 16,hu.cell.cell 17,hu.cell.cell 18⟩)
 have iU:qak (∀u:qag,Nx (star (K.two s t) (star (Bx w.heap.size 43 (ZQ ⟨k,at_,lab,c,A,cap,bb,⟨ik,ir,il,Zo,[p0,p1,p2,p3,p4,p5,p6,p7,p8,p9]⟩,th⟩)) (Bx (w.alloc (.cells (ZQ ⟨k,at_,lab,c,A,cap,bb,⟨ik,ir,il,Zo,[p0,p1,p2,p3,p4,p5,p6,p7,p8,p9]⟩,th⟩).toArray 43)).heap.size 40 [.int .u8 ik,.int .u8 ir,il,Zo,p0,p1,p2,p3,p4,p5,p6,p7,p8,p9]))) P w u->qai Tryz.prog 29 #[.pointer K.bw,at_] u fun e w'=>e=.returned (.tuple #[.agg #[.int .u8 k2,.int .u8 r2,l2,s2,q0,q1,q2,q3,q4,q5,q6,q7,q8,q9],.int .u16 lb,er])/\Nx (star (K.two s t) (star (Bx w.heap.size 43 (ZQ ⟨k,at_,lab,c,A,cap,bb,⟨ik,ir,il,Zo,[p0,p1,p2,p3,p4,p5,p6,p7,p8,p9]⟩,th⟩)) (Bx (w.alloc (.cells (ZQ ⟨k,at_,lab,c,A,cap,bb,⟨ik,ir,il,Zo,[p0,p1,p2,p3,p4,p5,p6,p7,p8,p9]⟩,th⟩).toArray 43)).heap.size 40 [.int .u8 ik,.int .u8 ir,il,Zo,p0,p1,p2,p3,p4,p5,p6,p7,p8,p9]))) P w w'):=χ (fun u hu=>VV (XH.star (Zz ..) (Zz ..)) hu (fun P1 h1 _=>by
  have:=I7 h1 hq at_
  rw[hin]at this
  exact this))
 have HSV:qak (∀u:qag,Nx (star (K.two s t) (star (Bx w.heap.size 43 (ZQ ⟨k,at_,lab,c,A,cap,bb,⟨ik,ir,il,Zo,[p0,p1,p2,p3,p4,p5,p6,p7,p8,p9]⟩,th⟩)) (Bx (w.alloc (.cells (ZQ ⟨k,at_,lab,c,A,cap,bb,⟨ik,ir,il,Zo,[p0,p1,p2,p3,p4,p5,p6,p7,p8,p9]⟩,th⟩).toArray 43)).heap.size 40 [.int .u8 ik,.int .u8 ir,il,Zo,p0,p1,p2,p3,p4,p5,p6,p7,p8,p9]))) P w u->qai Tryz.prog 45 #[.pointer K.bv,at_,.agg #[.int .u8 ik,.int .u8 ir,il,Zo,p0,p1,p2,p3,p4,p5,p6,p7,p8,p9]] u fun e w'=>e=.returned (.int .i64 ((Yc s at_ ⟨ik,ir,il,Zo,[p0,p1,p2,p3,p4,p5,p6,p7,p8,p9]⟩).2:Int))/\Nx (star (K.two (Yc s at_ ⟨ik,ir,il,Zo,[p0,p1,p2,p3,p4,p5,p6,p7,p8,p9]⟩).1 t) (star (Bx w.heap.size 43 (ZQ ⟨k,at_,lab,c,A,cap,bb,⟨ik,ir,il,Zo,[p0,p1,p2,p3,p4,p5,p6,p7,p8,p9]⟩,th⟩)) (Bx (w.alloc (.cells (ZQ ⟨k,at_,lab,c,A,cap,bb,⟨ik,ir,il,Zo,[p0,p1,p2,p3,p4,p5,p6,p7,p8,p9]⟩,th⟩).toArray 43)).heap.size 40 [.int .u8 ik,.int .u8 ir,il,Zo,p0,p1,p2,p3,p4,p5,p6,p7,p8,p9]))) P w w'):=χ (fun u hu=>Ub (XH.star (Zz ..) (Zz ..)) hu (fun P1 h1 _=>pR h1 hp at_ ⟨ik,ir,il,Zo,[p0,p1,p2,p3,p4,p5,p6,p7,p8,p9]⟩ hn))
 have HSR:qak (∀u:qag,Nx (star (K.two (Yc s at_ ⟨ik,ir,il,Zo,[p0,p1,p2,p3,p4,p5,p6,p7,p8,p9]⟩).1 t) (star (Bx w.heap.size 43 (ZQ ⟨k,at_,lab,c,A,cap,bb,⟨ik,ir,il,Zo,[p0,p1,p2,p3,p4,p5,p6,p7,p8,p9]⟩,th⟩)) (Bx (w.alloc (.cells (ZQ ⟨k,at_,lab,c,A,cap,bb,⟨ik,ir,il,Zo,[p0,p1,p2,p3,p4,p5,p6,p7,p8,p9]⟩,th⟩).toArray 43)).heap.size 40 [.int .u8 ik,.int .u8 ir,il,Zo,p0,p1,p2,p3,p4,p5,p6,p7,p8,p9]))) P w u->qai Tryz.prog 89 #[.pointer K.bw,at_,.agg #[.int .u8 ik,.int .u8 ir,il,Zo,p0,p1,p2,p3,p4,p5,p6,p7,p8,p9]] u fun e w'=>e=.returned (.int .i64 ((Yc t at_ ⟨ik,ir,il,Zo,[p0,p1,p2,p3,p4,p5,p6,p7,p8,p9]⟩).2:Int))/\Nx (star (K.two (Yc s at_ ⟨ik,ir,il,Zo,[p0,p1,p2,p3,p4,p5,p6,p7,p8,p9]⟩).1 (Yc t at_ ⟨ik,ir,il,Zo,[p0,p1,p2,p3,p4,p5,p6,p7,p8,p9]⟩).1) (star (Bx w.heap.size 43 (ZQ ⟨k,at_,lab,c,A,cap,bb,⟨ik,ir,il,Zo,[p0,p1,p2,p3,p4,p5,p6,p7,p8,p9]⟩,th⟩)) (Bx (w.alloc (.cells (ZQ ⟨k,at_,lab,c,A,cap,bb,⟨ik,ir,il,Zo,[p0,p1,p2,p3,p4,p5,p6,p7,p8,p9]⟩,th⟩).toArray 43)).heap.size 40 [.int .u8 ik,.int .u8 ir,il,Zo,p0,p1,p2,p3,p4,p5,p6,p7,p8,p9]))) P w w'):=χ (fun u hu=>VV (XH.star (Zz ..) (Zz ..)) hu (fun P1 h1 _=>pQ h1 hq at_ ⟨ik,ir,il,Zo,[p0,p1,p2,p3,p4,p5,p6,p7,p8,p9]⟩ hn))
 generalize hsn:(Yc s at_ ⟨ik,ir,il,Zo,[p0,p1,p2,p3,p4,p5,p6,p7,p8,p9]⟩)=R at*
 clear hsn
 generalize hsn:(Yc t at_ ⟨ik,ir,il,Zo,[p0,p1,p2,p3,p4,p5,p6,p7,p8,p9]⟩)=R2 at*
 clear hsn
 have HGN:qak (w.heap.size<(w.alloc (.cells (ZQ ⟨k,at_,lab,c,A,cap,bb,⟨ik,ir,il,Zo,[p0,p1,p2,p3,p4,p5,p6,p7,p8,p9]⟩,th⟩).toArray 43)).heap.size):=χ (by simp)
 clear hp hq h hb hn hin
 obtain⟨z0,z1,z2,z3,z4,z5,z6,z7,z8,z9,YJ,YI,z12,XE,z14,z15,z16,z17,z18⟩:=HZ.out _ _ HN.out
 have HA1:qak (∀(u:qag)(q:Nat),Bk u q 43 (ZQ ⟨k,at_,lab,c,A,cap,bb,⟨ik,ir,il,Zo,[p0,p1,p2,p3,p4,p5,p6,p7,p8,p9]⟩,th⟩)->u.cell? ⟨q,1,none⟩=some (.int .i64 at_)):=χ (fun u q hu=>hu.cell 1)
 have I6:qak (∀(u:qag)(q:Nat),Bk u q 43 (ZQ ⟨k,at_,lab,c,A,cap,bb,⟨ik,ir,il,Zo,[p0,p1,p2,p3,p4,p5,p6,p7,p8,p9]⟩,th⟩)->u.cell? ⟨q,3,none⟩=some (.int .u8 c)):=χ (fun u q hu=>hu.cell 3)
 clear HZ
 generalize (ZQ ⟨k,at_,lab,c,A,cap,bb,⟨ik,ir,il,Zo,[p0,p1,p2,p3,p4,p5,p6,p7,p8,p9]⟩,th⟩)=ca at*
 go_enter Tryz.func27,Tryz.ntmps27
 go_upto_region 1 with fail
 generalize w.alloc (.cells ca.toArray 43)=u0 at*
 generalize w.heap.size=gx at*
 go_upto_region 18 with fail
 have Xr:qak (Nx (star (K.two s t) (star (Bx gx 43 ca) (Bx u0.heap.size 40 [.int .u8 ik,.int .u8 ir,il,Zo,p0,p1,p2,p3,p4,p5,p6,p7,p8,p9]))) P w (u0.alloc (.cells #[.int .u8 ik,.int .u8 ir,il,Zo,p0,p1,p2,p3,p4,p5,p6,p7,p8,p9] 40))):=χ ((HN.out.box (XH.star (Zh K s t) (Zz ..)) [.int .u8 ik,.int .u8 ir,il,Zo,p0,p1,p2,p3,p4,p5,p6,p7,p8,p9] 40).imp (fun _ h=>Uc h))
 clear HN z0 z1 z2 z3 z4 z5 z6 z7 z8 z9 YJ YI z12 XE z14 z15 z16 z17 z18
 generalize u0.alloc (.cells #[.int .u8 ik,.int .u8 ir,il,Zo,p0,p1,p2,p3,p4,p5,p6,p7,p8,p9] 40)=u1 at*
 generalize u0.heap.size=gn at*
 have z1:=HA1.out _ _ (cell1 Xr.out)
 go_upto_region 19 with(go_at_call 29;go_must (with_reducible refine(iU.out _ Xr.out).mono ?_);rintro e w1 ⟨he,hn⟩;obtain rfl:=he;have WX:=χ hn;clear hn z1)
 have Xj:qak (Nx (star (K.two s t) (star (Bx gx 43 ca) (Bx gn 40 [.int .u8 ik,.int .u8 ir,il,Zo,p0,p1,p2,p3,p4,p5,p6,p7,p8,p9]))) P w (w1.alloc (.cells #[.int .u8 k2,.int .u8 r2,l2,s2,q0,q1,q2,q3,q4,q5,q6,q7,q8,q9] 40))):=χ (WX.out.later (XH.star (Zh K s t) (XH.star (Zz ..) (Zz ..))) (Z0 _ _))
 have HM:qak (Bk (w1.alloc (.cells #[.int .u8 k2,.int .u8 r2,l2,s2,q0,q1,q2,q3,q4,q5,q6,q7,q8,q9] 40)) w1.heap.size 40 [.int .u8 k2,.int .u8 r2,l2,s2,q0,q1,q2,q3,q4,q5,q6,q7,q8,q9]):=χ (Bk.new _ _ _)
 clear Xr WX iU
 generalize w1.alloc (.cells #[.int .u8 k2,.int .u8 r2,l2,s2,q0,q1,q2,q3,q4,q5,q6,q7,q8,q9] 40)=u3 at*
 generalize w1.heap.size=gm at*
 have z1:=HA1.out _ _ (cell1 Xj.out)
 have z3:=I6.out _ _ (cell1 Xj.out)
 have e1:((er:Int)==0)=false:=by simp;omega
 have e2:¬ (er:Int)=0:=by omega
 have iT:=Xj
 clear Xj he HM
 exact zkq0
theorem abm(hp:Yb K.j K.i K.g K.pp s)(hq:Yb K.j K.i K.g K.pp t)(h:K.two s t P w)(hb:Bd P w)(k:Nat)(at_:Int)(lab c:Nat)(A:Option Addr)(cap:Nat)(bb:List UInt8)(ik ir:Nat)(il Zo p0 p1 p2 p3 p4 p5 p6 p7 p8 p9:Int)(th:Nat)(hk:(k:Int)%13=5)(k2 r2:Nat)(l2 s2 q0 q1 q2 q3 q4 q5 q6 q7 q8 q9:Int)(hn:Z9.YP ⟨ik,ir,il,Zo,[p0,p1,p2,p3,p4,p5,p6,p7,p8,p9]⟩)(lb er:Nat)(hin:YM t at_=(⟨k2,r2,l2,s2,[q0,q1,q2,q3,q4,q5,q6,q7,q8,q9]⟩,lb,er))(he:er=0)(hc2:((c:Int)%2==0)=false):
  qai Tryz.prog 27 #[.pointer K.bv,.pointer K.bw,.agg (ZQ ⟨k,at_,lab,c,A,cap,bb,⟨ik,ir,il,Zo,[p0,p1,p2,p3,p4,p5,p6,p7,p8,p9]⟩,th⟩).toArray] w fun e w'=>∃v,e=.returned v/\Nx (K.two (Yc s at_ ⟨ik,ir,il,Zo,[p0,p1,p2,p3,p4,p5,p6,p7,p8,p9]⟩).1 (Yc t at_ ⟨ik,ir,il,Zo,[p0,p1,p2,p3,p4,p5,p6,p7,p8,p9]⟩).1) P w w':=by
 have HN:qak (Nx (star (K.two s t) (Bx w.heap.size 43 (ZQ ⟨k,at_,lab,c,A,cap,bb,⟨ik,ir,il,Zo,[p0,p1,p2,p3,p4,p5,p6,p7,p8,p9]⟩,th⟩))) P w (w.alloc (.cells (ZQ ⟨k,at_,lab,c,A,cap,bb,⟨ik,ir,il,Zo,[p0,p1,p2,p3,p4,p5,p6,p7,p8,p9]⟩,th⟩).toArray 43))):=χ ((Nx.same h hb).box (Zh K s t) (ZQ ⟨k,at_,lab,c,A,cap,bb,⟨ik,ir,il,Zo,[p0,p1,p2,p3,p4,p5,p6,p7,p8,p9]⟩,th⟩) 43)
 have HZ:qak (∀(D:TP)(u:qag),Nx (star D (Bx w.heap.size 43 (ZQ ⟨k,at_,lab,c,A,cap,bb,⟨ik,ir,il,Zo,[p0,p1,p2,p3,p4,p5,p6,p7,p8,p9]⟩,th⟩))) P w u->u.cell? ⟨w.heap.size,0,none⟩=some (.int .u8 k)/\u.cell? ⟨w.heap.size,1,none⟩=some (.int .i64 at_)/\u.cell? ⟨w.heap.size,2,none⟩=some (.int .u16 lab)/\u.cell? ⟨w.heap.size,3,none⟩=some (.int .u8 c)/\u.cell? ⟨w.heap.size,4,none⟩=some (.slice A bb.length cap)/\u.cell? ⟨w.heap.size,5,none⟩=some (.int .u8 ik)/\u.cell? ⟨w.heap.size,6,none⟩=some (.int .u8 ir)/\u.cell? ⟨w.heap.size,7,none⟩=some (.int .i64 il)/\u.cell? ⟨w.heap.size,8,none⟩=some (.int .i64 Zo)/\u.cell? ⟨w.heap.size,9,none⟩=some (.int .i64 p0)/\u.cell? ⟨w.heap.size,10,none⟩=some (.int .i64 p1)/\u.cell? ⟨w.heap.size,11,none⟩=some (.int .i64 p2)/\u.cell? ⟨w.heap.size,12,none⟩=some (.int .i64 p3)/\u.cell? ⟨w.heap.size,13,none⟩=some (.int .i64 p4)/\u.cell? ⟨w.heap.size,14,none⟩=some (.int .i64 p5)/\u.cell? ⟨w.heap.size,15,none⟩=some (.int .i64 p6)/\u.cell? ⟨w.heap.size,16,none⟩=some (.int .i64 p7)/\u.cell? ⟨w.heap.size,17,none⟩=some (.int .i64 p8)/\u.cell? ⟨w.heap.size,18,none⟩=some (.int .i64 p9)):=χ (fun D u hu=>⟨hu.cell.cell 0,hu.cell.cell 1,hu.cell.cell 2,hu.cell.cell 3,hu.cell.cell 4,hu.cell.cell 5,hu.cell.cell 6,hu.cell.cell 7,hu.cell.cell 8,hu.cell.cell 9,hu.cell.cell 10,hu.cell.cell 11,hu.cell.cell 12,hu.cell.cell 13,hu.cell.cell 14,hu.cell.cell 15,hu.cell.cell 16,hu.cell.cell 17,hu.cell.cell 18⟩)
 have iU:qak (∀u:qag,Nx (star (K.two s t) (star (Bx w.heap.size 43 (ZQ ⟨k,at_,lab,c,A,cap,bb,⟨ik,ir,il,Zo,[p0,p1,p2,p3,p4,p5,p6,p7,p8,p9]⟩,th⟩)) (Bx (w.alloc (.cells (ZQ ⟨k,at_,lab,c,A,cap,bb,⟨ik,ir,il,Zo,[p0,p1,p2,p3,p4,p5,p6,p7,p8,p9]⟩,th⟩).toArray 43)).heap.size 40 [.int .u8 ik,.int .u8 ir,il,Zo,p0,p1,p2,p3,p4,p5,p6,p7,p8,p9]))) P w u->qai Tryz.prog 29 #[.pointer K.bw,at_] u fun e w'=>e=.returned (.tuple #[.agg #[.int .u8 k2,.int .u8 r2,l2,s2,q0,q1,q2,q3,q4,q5,q6,q7,q8,q9],.int .u16 lb,er])/\Nx (star (K.two s t) (star (Bx w.heap.size 43 (ZQ ⟨k,at_,lab,c,A,cap,bb,⟨ik,ir,il,Zo,[p0,p1,p2,p3,p4,p5,p6,p7,p8,p9]⟩,th⟩)) (Bx (w.alloc (.cells (ZQ ⟨k,at_,lab,c,A,cap,bb,⟨ik,ir,il,Zo,[p0,p1,p2,p3,p4,p5,p6,p7,p8,p9]⟩,th⟩).toArray 43)).heap.size 40 [.int .u8 ik,.int .u8 ir,il,Zo,p0,p1,p2,p3,p4,p5,p6,p7,p8,p9]))) P w w'):=χ (fun u hu=>VV (XH.star (Zz ..) (Zz ..)) hu (fun P1 h1 _=>by
  have:=I7 h1 hq at_
  rw[hin]at this
  exact this))
 have HSV:qak (∀u:qag,Nx (star (K.two s t) (star (Bx w.heap.size 43 (ZQ ⟨k,at_,lab,c,A,cap,bb,⟨ik,ir,il,Zo,[p0,p1,p2,p3,p4,p5,p6,p7,p8,p9]⟩,th⟩)) (Bx (w.alloc (.cells (ZQ ⟨k,at_,lab,c,A,cap,bb,⟨ik,ir,il,Zo,[p0,p1,p2,p3,p4,p5,p6,p7,p8,p9]⟩,th⟩).toArray 43)).heap.size 40 [.int .u8 ik,.int .u8 ir,il,Zo,p0,p1,p2,p3,p4,p5,p6,p7,p8,p9]))) P w u->qai Tryz.prog 45 #[.pointer K.bv,at_,.agg #[.int .u8 ik,.int .u8 ir,il,Zo,p0,p1,p2,p3,p4,p5,p6,p7,p8,p9]] u fun e w'=>e=.returned (.int .i64 ((Yc s at_ ⟨ik,ir,il,Zo,[p0,p1,p2,p3,p4,p5,p6,p7,p8,p9]⟩).2:Int))/\Nx (star (K.two (Yc s at_ ⟨ik,ir,il,Zo,[p0,p1,p2,p3,p4,p5,p6,p7,p8,p9]⟩).1 t) (star (Bx w.heap.size 43 (ZQ ⟨k,at_,lab,c,A,cap,bb,⟨ik,ir,il,Zo,[p0,p1,p2,p3,p4,p5,p6,p7,p8,p9]⟩,th⟩)) (Bx (w.alloc (.cells (ZQ ⟨k,at_,lab,c,A,cap,bb,⟨ik,ir,il,Zo,[p0,p1,p2,p3,p4,p5,p6,p7,p8,p9]⟩,th⟩).toArray 43)).heap.size 40 [.int .u8 ik,.int .u8 ir,il,Zo,p0,p1,p2,p3,p4,p5,p6,p7,p8,p9]))) P w w'):=χ (fun u hu=>Ub (XH.star (Zz ..) (Zz ..)) hu (fun P1 h1 _=>pR h1 hp at_ ⟨ik,ir,il,Zo,[p0,p1,p2,p3,p4,p5,p6,p7,p8,p9]⟩ hn))
 have HSR:qak (∀u:qag,Nx (star (K.two (Yc s at_ ⟨ik,ir,il,Zo,[p0,p1,p2,p3,p4,p5,p6,p7,p8,p9]⟩).1 t) (star (Bx w.heap.size 43 (ZQ ⟨k,at_,lab,c,A,cap,bb,⟨ik,ir,il,Zo,[p0,p1,p2,p3,p4,p5,p6,p7,p8,p9]⟩,th⟩)) (Bx (w.alloc (.cells (ZQ ⟨k,at_,lab,c,A,cap,bb,⟨ik,ir,il,Zo,[p0,p1,p2,p3,p4,p5,p6,p7,p8,p9]⟩,th⟩).toArray 43)).heap.size 40 [.int .u8 ik,.int .u8 ir,il,Zo,p0,p1,p2,p3,p4,p5,p6,p7,p8,p9]))) P w u->qai Tryz.prog 89 #[.pointer K.bw,at_,.agg #[.int .u8 ik,.int .u8 ir,il,Zo,p0,p1,p2,p3,p4,p5,p6,p7,p8,p9]] u fun e w'=>e=.returned (.int .i64 ((Yc t at_ ⟨ik,ir,il,Zo,[p0,p1,p2,p3,p4,p5,p6,p7,p8,p9]⟩).2:Int))/\Nx (star (K.two (Yc s at_ ⟨ik,ir,il,Zo,[p0,p1,p2,p3,p4,p5,p6,p7,p8,p9]⟩).1 (Yc t at_ ⟨ik,ir,il,Zo,[p0,p1,p2,p3,p4,p5,p6,p7,p8,p9]⟩).1) (star (Bx w.heap.size 43 (ZQ ⟨k,at_,lab,c,A,cap,bb,⟨ik,ir,il,Zo,[p0,p1,p2,p3,p4,p5,p6,p7,p8,p9]⟩,th⟩)) (Bx (w.alloc (.cells (ZQ ⟨k,at_,lab,c,A,cap,bb,⟨ik,ir,il,Zo,[p0,p1,p2,p3,p4,p5,p6,p7,p8,p9]⟩,th⟩).toArray 43)).heap.size 40 [.int .u8 ik,.int .u8 ir,il,Zo,p0,p1,p2,p3,p4,p5,p6,p7,p8,p9]))) P w w'):=χ (fun u hu=>VV (XH.star (Zz ..) (Zz ..)) hu (fun P1 h1 _=>pQ h1 hq at_ ⟨ik,ir,il,Zo,[p0,p1,p2,p3,p4,p5,p6,p7,p8,p9]⟩ hn))
 generalize hsn:(Yc s at_ ⟨ik,ir,il,Zo,[p0,p1,p2,p3,p4,p5,p6,p7,p8,p9]⟩)=R at*
 clear hsn
 generalize hsn:(Yc t at_ ⟨ik,ir,il,Zo,[p0,p1,p2,p3,p4,p5,p6,p7,p8,p9]⟩)=R2 at*
 clear hsn
 have HGN:qak (w.heap.size<(w.alloc (.cells (ZQ ⟨k,at_,lab,c,A,cap,bb,⟨ik,ir,il,Zo,[p0,p1,p2,p3,p4,p5,p6,p7,p8,p9]⟩,th⟩).toArray 43)).heap.size):=χ (by simp)
 clear hp hq h hb hn hin
 obtain⟨z0,z1,z2,z3,z4,z5,z6,z7,z8,z9,YJ,YI,z12,XE,z14,z15,z16,z17,z18⟩:=HZ.out _ _ HN.out
 have HA1:qak (∀(u:qag)(q:Nat),Bk u q 43 (ZQ ⟨k,at_,lab,c,A,cap,bb,⟨ik,ir,il,Zo,[p0,p1,p2,p3,p4,p5,p6,p7,p8,p9]⟩,th⟩)->u.cell? ⟨q,1,none⟩=some (.int .i64 at_)):=χ (fun u q hu=>hu.cell 1)
 have I6:qak (∀(u:qag)(q:Nat),Bk u q 43 (ZQ ⟨k,at_,lab,c,A,cap,bb,⟨ik,ir,il,Zo,[p0,p1,p2,p3,p4,p5,p6,p7,p8,p9]⟩,th⟩)->u.cell? ⟨q,3,none⟩=some (.int .u8 c)):=χ (fun u q hu=>hu.cell 3)
 clear HZ
 generalize (ZQ ⟨k,at_,lab,c,A,cap,bb,⟨ik,ir,il,Zo,[p0,p1,p2,p3,p4,p5,p6,p7,p8,p9]⟩,th⟩)=ca at*
 go_enter Tryz.func27,Tryz.ntmps27
 go_upto_region 1 with fail
 generalize w.alloc (.cells ca.toArray 43)=u0 at*
 generalize w.heap.size=gx at*
 go_upto_region 18 with fail
 have Xr:qak (Nx (star (K.two s t) (star (Bx gx 43 ca) (Bx u0.heap.size 40 [.int .u8 ik,.int .u8 ir,il,Zo,p0,p1,p2,p3,p4,p5,p6,p7,p8,p9]))) P w (u0.alloc (.cells #[.int .u8 ik,.int .u8 ir,il,Zo,p0,p1,p2,p3,p4,p5,p6,p7,p8,p9] 40))):=χ ((HN.out.box (XH.star (Zh K s t) (Zz ..)) [.int .u8 ik,.int .u8 ir,il,Zo,p0,p1,p2,p3,p4,p5,p6,p7,p8,p9] 40).imp (fun _ h=>Uc h))
 clear HN z0 z1 z2 z3 z4 z5 z6 z7 z8 z9 YJ YI z12 XE z14 z15 z16 z17 z18
 generalize u0.alloc (.cells #[.int .u8 ik,.int .u8 ir,il,Zo,p0,p1,p2,p3,p4,p5,p6,p7,p8,p9] 40)=u1 at*
 generalize u0.heap.size=gn at*
 have z1:=HA1.out _ _ (cell1 Xr.out)
 go_upto_region 19 with(go_at_call 29;go_must (with_reducible refine(iU.out _ Xr.out).mono ?_);rintro e w1 ⟨he,hn⟩;obtain rfl:=he;have WX:=χ hn;clear hn z1)
 have Xj:qak (Nx (star (K.two s t) (star (Bx gx 43 ca) (Bx gn 40 [.int .u8 ik,.int .u8 ir,il,Zo,p0,p1,p2,p3,p4,p5,p6,p7,p8,p9]))) P w (w1.alloc (.cells #[.int .u8 k2,.int .u8 r2,l2,s2,q0,q1,q2,q3,q4,q5,q6,q7,q8,q9] 40))):=χ (WX.out.later (XH.star (Zh K s t) (XH.star (Zz ..) (Zz ..))) (Z0 _ _))
 have HM:qak (Bk (w1.alloc (.cells #[.int .u8 k2,.int .u8 r2,l2,s2,q0,q1,q2,q3,q4,q5,q6,q7,q8,q9] 40)) w1.heap.size 40 [.int .u8 k2,.int .u8 r2,l2,s2,q0,q1,q2,q3,q4,q5,q6,q7,q8,q9]):=χ (Bk.new _ _ _)
 clear Xr WX iU
 generalize w1.alloc (.cells #[.int .u8 k2,.int .u8 r2,l2,s2,q0,q1,q2,q3,q4,q5,q6,q7,q8,q9] 40)=u3 at*
 generalize w1.heap.size=gm at*
 have z1:=HA1.out _ _ (cell1 Xj.out)
 have z3:=I6.out _ _ (cell1 Xj.out)
 subst he
 have iT:=Xj
 clear Xj HM
 exact zkq0
end
end Go.Proofs.YtmehhgfbnfbnaaaGreat.Zl

namespace Go.Proofs.YtmehhgfbnfbnaaaGreat.Zl
open Go.RowKit Zq Meta Apart
theorem abo{K:VK}{s t:PS}{P:Nat->Prop}{w:qag}(Za:VG K.j K.i K.g K.pp)(hp:Yb K.j K.i K.g K.pp s)(hq:Yb K.j K.i K.g K.pp t)(h:K.two s t P w)(hb:Bd P w)(a:VA)(hk:(a.k:Int)%13=12)(hl:a.b.length<=200)(hrd:Rd w w.heap.size a.A (Z6 a.b))(hna:a.b=[]\/∀x,a.A=some x->¬ P x.block):
  qai Tryz.prog 27 #[.pointer K.bv,.pointer K.bw,.agg (ZQ a).toArray] w fun e w'=>∃v,e=.returned v/\Nx (K.two (YW K.g K.pp s a.at_ a.b).1 (YW K.g K.pp t a.at_ a.b).1) P w w':=by
 have HN:qak (Nx (star (K.two s t) (Bx w.heap.size 43 (ZQ a))) P w (w.alloc (.cells (ZQ a).toArray 43))):=χ ((Nx.same h hb).box (Zh K s t) (ZQ a) 43)
 have HZ:qak (∀(u:qag)(q:Nat),Bk u q 43 (ZQ a)->u.cell? ⟨q,0,none⟩=some (.int .u8 a.k)/\u.cell? ⟨q,1,none⟩=some (.int .i64 a.at_)/\u.cell? ⟨q,4,none⟩=some (.slice a.A a.b.length a.cap)):=χ (fun u q hu=>⟨hu.cell 0,hu.cell 1,hu.cell 4⟩)
 have uX:qak (∀(D:TP)(u:qag),Nx D P w u->Rd u u.heap.size a.A (Z6 a.b)):=χ (fun D u hu=>hna.elim (fun h=>.inl (by rw[h];rfl)) (AL hrd (AJ hu)))
 have HWV:qak (∀(u:qag)(A2:Option Addr)(c2:Nat),Nx (star (K.two s t) (star (Bx w.heap.size 43 (ZQ a)) (Ow 5 1 (.slice A2 a.b.length c2) a.b.length (Z6 a.b)))) P w u->qai Tryz.prog 43 #[.pointer K.bv,a.at_,.slice A2 a.b.length c2] u fun e w'=>e=.returned (.int .i64 ((YW K.g K.pp s a.at_ a.b).2:Int))/\Nx (star (K.two (YW K.g K.pp s a.at_ a.b).1 t) (star (Bx w.heap.size 43 (ZQ a)) (Ow 5 1 (.slice A2 a.b.length c2) a.b.length (Z6 a.b)))) P w w'):=χ (fun u A2 c2 hu=>by
  have hr:=JZ (I8 hu)
  exact Ub (XH.star (Zz ..) (CK ..)) hu (fun P1 h1 _=>AB Za h1 hp a.at_ _ _ _ _ rfl hr))
 have jE:qak (∀(u:qag)(A2:Option Addr)(c2:Nat),Nx (star (K.two (YW K.g K.pp s a.at_ a.b).1 t) (star (Bx w.heap.size 43 (ZQ a)) (Ow 5 1 (.slice A2 a.b.length c2) a.b.length (Z6 a.b)))) P w u->qai Tryz.prog 86 #[.pointer K.bw,a.at_,.slice a.A a.b.length a.cap] u fun e w'=>e=.returned (.int .i64 ((YW K.g K.pp t a.at_ a.b).2:Int))/\Nx (star (K.two (YW K.g K.pp s a.at_ a.b).1 (YW K.g K.pp t a.at_ a.b).1) (star (Bx w.heap.size 43 (ZQ a)) (Ow 5 1 (.slice A2 a.b.length c2) a.b.length (Z6 a.b)))) P w w'):=χ (fun u A2 c2 hu=>VV (XH.star (Zz ..) (CK ..)) hu (fun P1 h1 h2=>AA h1 h2 hq a.at_ _ _ _ _ rfl (hna.elim (fun h=>.inl (by rw[h];rfl)) (AL hrd (AJ hu)))))
 generalize (YW K.g K.pp s a.at_ a.b)=R at*
 generalize (YW K.g K.pp t a.at_ a.b)=R2 at*
 clear Za hp hq h hb hrd hna
 obtain⟨k,at_,lab,c,A,cap,bb,m,th⟩:=a
 simp only at hk HZ uX HWV jE hl
 generalize (ZQ ⟨k,at_,lab,c,A,cap,bb,m,th⟩)=ca at*
 obtain⟨z0,z1,z4⟩:=HZ.out _ _ HN.out.cell
 go_enter Tryz.func27,Tryz.ntmps27
 go_upto_region 1 with fail
 generalize w.alloc (.cells ca.toArray 43)=u0 at*
 generalize w.heap.size=gx at*
 have ha1:=Z0 u0 (.cells #[] 5)
 have Xr:=χ (HN.out.later (XH.star (Zh K s t) (Zz ..)) ha1)
 obtain⟨i0,hi,hz0,hz1,hz2⟩:=info_parts info5
 have hown:(u0.alloc (.cells #[] 5)).ownsRow u0.heap.size 5 1 (.slice u0.heap.size 0 0) 0 []:=(Bk.new u0 5 []).own 0 rfl (Nat.le_refl _) (Nat.zero_le _)
 obtain⟨v1,w1,hrun,hv1,hg1⟩:=U6 (P:=Tryz.prog) (u0.alloc (.cells #[] 5)) u0.heap.size 37 37 5 i0 _ 1 Tryz.underlying37 hi hz0 hz1 hz2 rfl _ 0 _ hown _ A bb.length cap (Z6 bb) (by rw[Z4]) (uX.out _ _ Xr.out) (YC _) (by simp only[maxLen];omega) (by omega) (by simp)
 have Sm:=χ hrun
 have hbl:Below u0.heap.size u0 w1:=ha1.trans ((Kept.Y4 (S:=(· =u0.heap.size)) hg1 (fun k hk=>by cases hk;rfl)).below (fun i hi=>by have hi:i=u0.heap.size:=hi;omega) ha1.size)
 rw[List.nil_append,Nat.zero_add]at hv1
 obtain⟨A2,c2,rfl,-⟩:=YT hv1
 have WX:qak (Nx (star (K.two s t) (star (Bx gx 43 ca) (Ow 5 1 (.slice A2 bb.length c2) bb.length (Z6 bb)))) P w w1):=χ ((dh HN.out (XH.star (Zh K s t) (Zz ..)) hbl hv1 (Nat.le_refl _)).imp (fun _ h=>Uc h))
 obtain⟨y0,y1,y4⟩:=HZ.out _ _ Xr.out.cell
 clear hrun hv1 hg1 hown hi hz0 hz1 hz2 ha1 Xr hbl
 go_upto_region 23 with fail
 go_upto_region 24 with(refine MG rfl (.tmp 155) (.tmp 157) 37 rfl (.slice u0.heap.size 0 0) (.slice A bb.length cap) rfl rfl (.slice A2 bb.length c2) w1 Sm.out ?_)
 clear z0 z1 z4 y0 y1 y4 Sm HN
 have KE:=χ (WX.out.later (XH.star (Zh K s t) (XH.star (Zz ..) (CK ..))) (qam _ w1).drew)
 obtain⟨y0,y1,y4⟩:=HZ.out _ _ (cell1 KE.out)
 refine qah (S:=fun u=>u.cell? ⟨gx,1,none⟩=some (.int .i64 at_)/\u.cell? ⟨gx,4,none⟩=some (.slice A bb.length cap)) (by kernel_rfl) ⟨y1,y4⟩ (fun hHeld=>?_)
 clear WX y0 y1 y4
 generalize hu0:w1.drew=vL at*
 clear hu0
 refine tk 0 ?_ (y:=.inl ⟨by rfl,?hya0⟩) (s:=by exact hHeld) (h:=?V6)
 case hya0=>exact zkq6
 try simp only[qad,qaa,qab,qac]
 refine tk 1 ?_ (y:=.inl ⟨by rfl,?hya1⟩) (s:=by exact hHeld) (h:=?V5)
 case hya1=>exact zkq6
 try simp only[qad,qaa,qab,qac]
 refine tk 2 ?_ (y:=.inl ⟨by rfl,?hya2⟩) (s:=by exact hHeld) (h:=?V4)
 case hya2=>exact zkq6
 try simp only[qad,qaa,qab,qac]
 refine tk 3 ?_ (y:=.inl ⟨by rfl,?hya3⟩) (s:=by exact hHeld) (h:=?TD)
 case hya3=>exact zkq6
 try simp only[qad,qaa,qab,qac]
 refine tk 5 ?_ (y:=.inl ⟨by rfl,?hya5⟩) (s:=by exact hHeld) (h:=?Vi)
 case hya5=>exact zkq6
 try simp only[qad,qaa,qab,qac]
 refine tk 6 ?_ (y:=.inl ⟨by rfl,?hya6⟩) (s:=by exact hHeld) (h:=?UR)
 case hya6=>exact zkq6
 try simp only[qad,qaa,qab,qac]
 refine tk 7 ?_ (y:=.inl ⟨by rfl,?hya7⟩) (s:=by exact hHeld) (h:=?RU)
 case hya7=>exact zkq6
 try simp only[qad,qaa,qab,qac]
 refine tk 8 ?_ (y:=.inl ⟨by rfl,?hya8⟩) (s:=by exact hHeld) (h:=?RS)
 case hya8=>exact zkq6
 try simp only[qad,qaa,qab,qac]
 refine tk 9 ?_ (y:=.inl ⟨by rfl,?hya9⟩) (s:=by exact hHeld) (h:=?OW)
 case hya9=>exact zkq6
 try simp only[qad,qaa,qab,qac]
 refine rd 4 (h:=fun K_ hK=>?_)
 go_simp
 (with_reducible refine(HWV.out _ _ _ KE.out).mono ?_)
 rintro e w5 ⟨he,hn⟩;obtain rfl:=he
 have EX:=χ hn
 clear hn
 obtain⟨y0,y1,y4⟩:=HZ.out _ _ (cell1 EX.out)
 go_simp
 refine hK.out _ _ ⟨y1,y4⟩ (fun Z5=>?_)
 clear hK K_ hHeld y0 y1 y4
 have hHeld:=Z5
 clear Z5
 try simp only[qad,qaa,qab,qac]
 refine rd 10 (h:=fun K_ hK=>?_)
 go_simp
 (with_reducible refine(jE.out _ _ _ EX.out).mono ?_)
 rintro e w6 ⟨he,hn⟩;obtain rfl:=he
 have Ri:=χ hn
 clear hn
 obtain⟨y0,y1,y4⟩:=HZ.out _ _ (cell1 Ri.out)
 go_simp
 refine hK.out _ _ ⟨y1,y4⟩ (fun Z5=>?_)
 clear hK K_ hHeld y0 y1 y4
 have hHeld:=Z5
 clear Z5
 try simp only[qad,qaa,qab,qac]
 refine tk 11 ?_ (y:=.inl ⟨by rfl,?hya11⟩) (s:=by exact hHeld) (h:=?Rb)
 case hya11=>exact zkq6
 try simp only[qad,qaa,qab,qac]
 refine tk 12 ?_ (y:=.inl ⟨by rfl,?hya12⟩) (s:=by exact hHeld) (h:=?Ra)
 case hya12=>exact zkq6
 try simp only[qad,qaa,qab,qac]
 refine qal (by kernel_rfl) ?_ _
 clear hHeld
 obtain⟨y0,y1,y4⟩:=HZ.out _ _ (cell1 Ri.out)
 clear y0 y1 y4
 go_upto_region 25 with fail
 have hrow:=I8 Ri.out
 rcases hrow.2 with⟨hv0,hn0⟩|⟨g2,cap2,JF,hv0,-⟩
 ·have hA:=(qan hv0).1
  have hbl:=(qan hv0).2.1
  subst hA
  rw[hbl]at Ri⊢
  clear hv0 hn0 hrow HWV jE uX
  go_wp2
  go_loopw [21,173] (fun _ kc wr=>kc=.int .i64 0/\qak (wr=w6)) (fun _ _ _=>0)
  case atStart=>exact⟨rfl,χ rfl⟩
  case round=>
   obtain⟨rfl,HW⟩:=hrel
   have hw:=HW.out
   subst hw
   exact zkq2
 ·have hA:=(qan hv0).1
  subst hA
  clear hv0 hrow HWV jE uX
  go_wp2
  go_loopw [21,173] (fun _ kc wr=>∃q:Nat,kc=.int .i64 q/\q<=bb.length/\qak (∃xs:List UInt8,xs.length=bb.length/\Nx (star (K.two R.1 R2.1) (star (Bx gx 43 ca) (Ow 5 1 (.slice g2 bb.length c2) bb.length (Z6 xs)))) P w wr)) (fun _ kc _=>bb.length-(intOf kc).toNat)
  case atStart=>exact⟨0,rfl,Nat.zero_le _,χ ⟨bb,rfl,Ri.out⟩⟩
  case round=>
   clear Ri
   obtain⟨q,rfl,hq,HX⟩:=hrel
   obtain⟨xs,hxl,hN⟩:=HX.out
   have Ri:=χ hN
   have HXL:=χ hxl
   clear HX hN hxl
   by_cases hlt:q<bb.length
   ·have V7:(q:Int)<(bb.length:Int):=by omega
    have h00:(0:Int)<=(q:Int):=by omega
    have hwk:IntKind.i64.wrap ((q:Int)+1)=((q+1:Nat):Int):=by rw[IntKind.wrap_i64];omega
    obtain⟨x,hx⟩:∃x,xs[q]? =some x:=⟨_,List.getElem?_eq_getElem (by rw[HXL.out];exact hlt)⟩
    have hcell:wr.cell? ⟨g2,q,none⟩=some (.int .u8 x.toNat):=by
     have:=(I8 Ri.out).cellAt q (by omega)
     rw[this]
     unfold Z6
     rw[List.getElem?_map,hx]
     rfl
    have hfz:=(I8 Ri.out).frozenAt q
    have aev:=gH x
    have HN7:qak (∃xs:List UInt8,xs.length=bb.length/\Nx (star (K.two R.1 R2.1) (star (Bx gx 43 ca) (Ow 5 1 (.slice g2 bb.length c2) bb.length (Z6 xs)))) P w (wr.setCell ⟨g2,q,none⟩ (.int .u8 ((x.toNat^^^85:Nat):Int)))):=χ ⟨xs.set q (x^^^85),by rw[List.length_set];exact HXL.out,by
     rw[<-show(x^^^85).toNat=x.toNat^^^85 from UInt8.toNat_xor x 85]
     have:=kK Ri.out (Zh K R.1 R2.1) (Zz ..) q (.int .u8 ((x^^^85).toNat:Int))
     rwa[LA]at this⟩
    clear hx Ri HXL
    go_wp2
    generalize wr.setCell ⟨g2,q,none⟩ (.int .u8 ((x.toNat^^^85:Nat):Int))=w9 at*
    go_roundw
    case rel=>exact⟨q+1,by first|rfl|(congr 1),hlt,HN7⟩
    case measure=>simp[intOf];omega
   ·obtain rfl:q=bb.length:=by omega
    exact zkq2
end Go.Proofs.YtmehhgfbnfbnaaaGreat.Zl

namespace Go.Proofs.YtmehhgfbnfbnaaaGreat.Zl
open Go.RowKit Zq Meta Apart
section
variable {s t:PS}{K:VK}{w:qag}{P:Nat->Prop}
noncomputable def Px(g pp:Nat)(s t:PS)(a:VA):PS:=if a.k%13=5 then(Yc s a.at_ (asked t a)).1 else Qs g pp s a
theorem Yb.Px {j i g pp:Nat}(hp:Yb j i g pp s)(hq:Yb j i g pp t){a:VA}(hl:a.lab<65536)(hm:Z9.YP a.m):Yb j i g pp (Px g pp s t a):=by
 unfold Zl.Px
 split
 ·exact hp.set _ _ (PD hq hm)
 ·exact hp.does hl hm
theorem kL(h:K.two s t P w)(hb:Bd P w)(a:VA)(r:Nat)(hk:(a.k:Int)%13=(r:Int))(hr:6<=r/\r<=11):
  qai Tryz.prog 27 #[.pointer K.bv,.pointer K.bw,.agg (ZQ a).toArray] w fun e w'=>∃v,e=.returned v/\Nx (K.two s t) P w w':=by
 have HN:qak (Nx (K.two s t) P w (w.alloc (.cells (ZQ a).toArray 43))):=χ (Nx.below h (Zh K s t) hb (Z0 _ _))
 have z0:(w.alloc (.cells (ZQ a).toArray 43)).cell? ⟨w.heap.size,0,none⟩=some (.int .u8 a.k):=(Bk.new w 43 (ZQ a)).cell 0
 have e0:((r:Int)==0)=false:=by simp;omega
 have e1:((r:Int)==1)=false:=by simp;omega
 have e2:((r:Int)==2)=false:=by simp;omega
 have e3:((r:Int)==3)=false:=by simp;omega
 have e4:((r:Int)==4)=false:=by simp;omega
 have e5:((r:Int)==5)=false:=by simp;omega
 have e6:((r:Int)==12)=false:=by simp;omega
 have f0:¬ (r:Int)=0:=by omega
 have f1:¬ (r:Int)=1:=by omega
 have f2:¬ (r:Int)=2:=by omega
 have f3:¬ (r:Int)=3:=by omega
 have f4:¬ (r:Int)=4:=by omega
 have f5:¬ (r:Int)=5:=by omega
 have f6:¬ (r:Int)=12:=by omega
 clear h hb hr
 obtain⟨k,at_,lab,c,A,cap,bb,m,th⟩:=a
 simp only at hk z0
 generalize (ZQ ⟨k,at_,lab,c,A,cap,bb,m,th⟩)=ca at*
 go_enter Tryz.func27,Tryz.ntmps27
 go_upto_region 1 with fail
 generalize w.alloc (.cells ca.toArray 43)=u0 at*
 go_wp2
 go_ret
 exact⟨_,rfl,HN.out⟩
theorem di(Za:VG K.j K.i K.g K.pp)(hp:Yb K.j K.i K.g K.pp s)(hq:Yb K.j K.i K.g K.pp t)(h:K.two s t P w)(hb:Bd P w)(a:VA)(hc:a.c<256)(hm:Z9.YP a.m)(hl:a.b.length<=200)(hrd:Rd w w.heap.size a.A (Z6 a.b))(hna:a.b=[]\/∀x,a.A=some x->¬ P x.block):
  qai Tryz.prog 27 #[.pointer K.bv,.pointer K.bw,.agg (ZQ a).toArray] w fun e w'=>∃v,e=.returned v/\Nx (K.two (Px K.g K.pp s t a) (Qs K.g K.pp t a)) P w w':=by
 have hi:∀r:Nat,a.k%13=r->(a.k:Int)%13=(r:Int):=fun r h=>by omega
 have hlt:a.k%13<13:=Nat.mod_lt _ (by decide)
 by_cases hk:a.k%13=5
 ·have e1:Px K.g K.pp s t a=(Yc s a.at_ (asked t a)).1:=if_pos hk
  have e2:Qs K.g K.pp t a=(Yc t a.at_ (asked t a)).1:=by unfold Qs;simp only[hk]
  rw[e1,e2]
  clear e1 e2
  have hk5:=hi 5 hk
  have hok:=Fs hq a.at_
  have hao:=PD hq (a:=a) hm
  unfold asked at hao⊢
  obtain⟨k,at_,lab,c,A,cap,bb,⟨ik,ir,il,iz,p⟩,th⟩:=a
  simp only at hm hk5 hok hc hao⊢
  obtain⟨p0,p1,p2,p3,p4,p5,p6,p7,p8,p9,MH⟩:=Z9.Xh hm.len
  simp only at MH
  subst MH
  obtain⟨⟨⟨k2,r2,l2,s2,q⟩,lb,er⟩,hin⟩:∃R,YM t at_=R:=⟨_,rfl⟩
  rw[hin]at hok hao⊢
  simp only at hok hao⊢
  obtain⟨q0,q1,q2,q3,q4,q5,q6,q7,q8,q9,abk⟩:=Z9.Xh hok.len
  simp only at abk
  subst abk
  by_cases he:er=0
  ·by_cases hc2:c%2=0
   ·rw[if_pos ⟨he,hc2⟩]at hao⊢
    exact abl hp hq h hb k at_ lab c A cap bb ik ir il iz p0 p1 p2 p3 p4 p5 p6 p7 p8 p9 th hk5 k2 r2 l2 s2 q0 q1 q2 q3 q4 q5 q6 q7 q8 q9 hao lb er hin he (by omega)
   ·rw[if_neg (fun e=>hc2 e.2)]
    exact abm hp hq h hb k at_ lab c A cap bb ik ir il iz p0 p1 p2 p3 p4 p5 p6 p7 p8 p9 th hk5 k2 r2 l2 s2 q0 q1 q2 q3 q4 q5 q6 q7 q8 q9 hm lb er hin he (by simp;omega)
  ·rw[if_neg (fun e=>he e.1)]
   exact abn hp hq h hb k at_ lab c A cap bb ik ir il iz p0 p1 p2 p3 p4 p5 p6 p7 p8 p9 th hk5 k2 r2 l2 s2 q0 q1 q2 q3 q4 q5 q6 q7 q8 q9 hm lb er hin he
 ·rw[show Px K.g K.pp s t a=Qs K.g K.pp s a from if_neg hk]
  have hk0:a.k%13=0\/a.k%13=1\/a.k%13=2\/a.k%13=3\/a.k%13=4\/a.k%13=12\/(6<=a.k%13/\a.k%13<=11):=by omega
  unfold Qs
  rcases hk0 with h0|h0|h0|h0|h0|h0|h0
  ·rw[h0];exact acJ Za hp hq h hb a hc (hi 0 h0)
  ·rw[h0];exact acK Za hp hq h hb a hc (hi 1 h0)
  ·rw[h0];exact acL Za hp hq h hb a hc (hi 2 h0)
  ·rw[h0];exact acM Za hp hq h hb a hc (hi 3 h0)
  ·rw[h0];exact acN Za hp hq h hb a hc (hi 4 h0)
  ·rw[h0];exact abo Za hp hq h hb a (hi 12 h0) hl hrd hna
  ·have h6:a.k%13=6\/a.k%13=7\/a.k%13=8\/a.k%13=9\/a.k%13=10\/a.k%13=11:=by omega
   have hu:=kL h hb a (a.k%13) (hi _ rfl) h0
   rcases h6 with h6|h6|h6|h6|h6|h6<;>(rw[h6];exact hu)
theorem iF{E:TP}{B:Nat}(Za:VG K.j K.i K.g K.pp)(hp:Yb K.j K.i K.g K.pp s)(hq:Yb K.j K.i K.g K.pp t)(hE:XH E)(h:Now B (star (K.two s t) E) w)(hB:B<=w.heap.size)(a:VA)(hc:a.c<256)(hm:Z9.YP a.m)(hl:a.b.length<=200)(hrd:Rd w w.heap.size a.A (Z6 a.b))(hna:a.b=[]\/∀x,a.A=some x->x.block<B):
  qai Tryz.prog 27 #[.pointer K.bv,.pointer K.bw,.agg (ZQ a).toArray] w fun e w'=>∃v,e=.returned v/\Now B (star (K.two (Px K.g K.pp s t a) (Qs K.g K.pp t a)) E) w'/\Below B w w':=by
 have h':Now B (star (fun Q u=>K.two s t Q u/\∀i,Q i->B<=i) E) w:=by
  obtain⟨P,⟨P1,P2,h1,h2,h3,h4⟩,h5⟩:=h
  exact⟨P,⟨P1,P2,⟨h1,fun i hi=>(h5 i ((h3 i).2 (.inl hi))).1⟩,h2,h3,h4⟩,h5⟩
 refine(Now.call (R:=fun e=>∃v,e=.returned v) h' hB (fun P h1 h2=>VN hE h1 h2 (fun P1 h3 h4=>(di Za hp hq h3.1 h4 a hc hm hl hrd (hna.imp id (fun hna x hx hP=>by
  have:=hna x hx
  have:=h3.2 _ hP
  omega))).mono (fun e w' ⟨b,h6,h7⟩=>⟨⟨b,h6⟩,h7⟩)))).mono ?_
 rintro e w' ⟨⟨b,h6⟩,h7⟩
 exact⟨b,h6,h7⟩
end
end Go.Proofs.YtmehhgfbnfbnaaaGreat.Zl
