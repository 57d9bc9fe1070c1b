import Derived.Test.YtmehhgfbnfbnaaaGreatQVolO
import Derived.Test.YtmehhgfbnfbnaaaGreatQTk
import Derived.Test.YtmehhgfbnfbnaaaGreatQVolM
set_option maxRecDepth 100000
set_option maxHeartbeats 25600000
open List renaming setIfInBounds_toArray->qaa,set_cons_zero->qab,set_cons_succ->qac,replicate->qae,getElem?_eq_getElem->qan,length_append->qaq
open Go.Act renaming put->qad
open UInt8 renaming ofNat->qaf
open Go renaming World->qag,Calls->qah,wp_region_held_drew->qai,yieldsIf_load_mid->qaj,wpAnyH_done->qal,Value->qao
open Go.RowKit renaming Hid->qak
open Go.RowKit.Below renaming refl->qam
open Nat renaming zero_le->qap
open Go.Value.slice renaming inj->qar
namespace Go.Proofs.YtmehhgfbnfbnaaaGreat.Y7
open Go.RowKit Zc Meta Apart
structure VK where
 (j i g pp bv b bj bm bw c:Nat)
 be:qao
 A:Option Addr
 dead:Bool
 base:Nat->List UInt8
def VK.mH (K:VK)(s:PS):TL:=Vl K.j K.i K.g K.pp K.bv K.b K.bj K.bm K.be K.A K.c K.dead K.base s
def VK.ref (K:VK)(s:PS):TL:=Rl K.j K.i K.g K.pp K.bw s
def VK.two (K:VK)(s t:PS):TL:=star (K.mH s) (K.ref t)
theorem QG(K:VK)(s:PS):XP (K.mH s):=qz ..
theorem QE(K:VK)(s:PS):XP (K.ref s):=qy ..
theorem Zq(K:VK)(s t:PS):XP (K.two s t):=XP.star (QG K s) (QE K t)
section
variable {K:VK}{s s' t t':PS}{D:TL}{P:Nat->Prop}{w u:qag}{F:FuncId}{args:Array qao}{R:Ending->Prop}
theorem Vh(hD:XP D)(h:Nx (star (K.two s t) D) P w u)(hc:∀P1,K.mH s P1 u->Bd P1 u->qah Tryz.prog F args u fun e w'=>R e/\Nx (K.mH s') P1 u w'):qah Tryz.prog F args u fun e w'=>R e/\Nx (star (K.two s' t) D) P w w':=
 h.call (fun _ h1 h2=>XO hD h1 h2 (fun _ h3 h4=>XO (QE K t) h3 h4 hc))
theorem WI(hD:XP D)(h:Nx (star (K.two s t) D) P w u)(hc:∀P1,K.ref t P1 u->Bd P1 u->qah Tryz.prog F args u fun e w'=>R e/\Nx (K.ref t') P1 u w'):qah Tryz.prog F args u fun e w'=>R e/\Nx (star (K.two s t') D) P w w':=
 h.call (fun _ h1 h2=>XO hD h1 h2 (fun _ h3 h4=>IK (QG K s) h3 h4 hc))
end
section
variable {K:VK}{s:PS}{P:Nat->Prop}{w:qag}
theorem qI(Y8:VG K.j K.i K.g K.pp)(hp:XF K.j K.i K.g K.pp s)(h:K.two s s P w)(hb:Bd P w)(a:VA)(hc:a.c<256)(hk:(a.k:Int)%13=0):
  qah Tryz.prog 27 #[.pointer K.bv,.pointer K.bw,.agg (ZQ a).toArray] w fun e w'=>e=.returned (.bool true)/\Nx (K.two (ZC K.pp s a.lab).1 (ZC K.pp s a.lab).1) P w w':=by
 have HN:qak (Nx (star (K.two s s) (Bx w.heap.size 43 (ZQ a))) P w (w.alloc (.cells (ZQ a).toArray 43))):=χ ((Nx.same h hb).box (Zq K s s) (ZQ a) 43)
 have HZ:qak (∀(t1 t2:PS)(u:qag),Nx (star (K.two t1 t2) (Bx w.heap.size 43 (ZQ a))) P w u->u.cell? ⟨w.heap.size,0,none⟩=some (.int .u8 a.k)/\u.cell? ⟨w.heap.size,1,none⟩=some (.int .i64 a.at_)/\u.cell? ⟨w.heap.size,2,none⟩=some (.int .u16 a.lab)/\u.cell? ⟨w.heap.size,3,none⟩=some (.int .u8 a.c)/\u.cell? ⟨w.heap.size,4,none⟩=some (.slice a.A a.b.length a.cap)):=χ (fun t1 t2 u hu=>⟨hu.cell.cell 0,hu.cell.cell 1,hu.cell.cell 2,hu.cell.cell 3,hu.cell.cell 4⟩)
 have sD:=χ Y8
 have HP:=χ hp
 have HD:=ZA w.heap.size 43 (ZQ a)
 have H1:qak (∀u:qag,Nx (star (K.two s s) (Bx w.heap.size 43 (ZQ a))) P w u->qah Tryz.prog 39 #[.pointer K.bv,.int .u16 a.lab] u fun e w'=>e=.returned (.tuple #[.int .i64 ((ZC K.pp s a.lab).2.1:Int),.int .i64 ((ZC K.pp s a.lab).2.2:Int)])/\Nx (star (K.two (ZC K.pp s a.lab).1 s) (Bx w.heap.size 43 (ZQ a))) P w w'):=χ (fun u hu=>Vh HD hu (fun P1 h1 _=>FK sD.out h1 HP.out a.lab))
 have H2:qak (∀u:qag,Nx (star (K.two (ZC K.pp s a.lab).1 s) (Bx w.heap.size 43 (ZQ a))) P w u->qah Tryz.prog 84 #[.pointer K.bw,.int .u16 a.lab] u fun e w'=>e=.returned (.tuple #[.int .i64 ((ZC K.pp s a.lab).2.1:Int),.int .i64 ((ZC K.pp s a.lab).2.2:Int)])/\Nx (star (K.two (ZC K.pp s a.lab).1 (ZC K.pp s a.lab).1) (Bx w.heap.size 43 (ZQ a))) P w w'):=χ (fun u hu=>WI HD hu (fun P1 h1 _=>vT h1 HP.out a.lab))
 generalize (ZC K.pp s a.lab)=R at*
 obtain⟨k,at_,lab,c,A,cap,bb,m,th⟩:=a
 simp only at hk HZ hc
 generalize (ZQ ⟨k,at_,lab,c,A,cap,bb,m,th⟩)=ca at*
 clear Y8 hp h hb HD
 obtain⟨z0,z1,z2,z3,z4⟩:=HZ.out _ _ _ HN.out
 go_enter Tryz.func27,Tryz.ntmps27
 go_upto_region 1 with fail
 generalize w.alloc (.cells ca.toArray 43)=u0 at*
 generalize w.heap.size=gx at*
 go_wp2_with (first|(go_at_call 39;go_must (with_reducible refine(H1.out _ HN.out).mono ?_);rintro e w1 ⟨he,hn⟩;obtain rfl:=he;have XG:=χ hn;clear hn z0 z1 z2 z3 z4;obtain⟨z0,z1,z2,z3,z4⟩:=HZ.out _ _ _ XG.out)|(go_at_call 84;go_must (with_reducible refine(H2.out _ XG.out).mono ?_);rintro e w2 ⟨he,hn⟩;obtain rfl:=he;have Xd:=χ hn;clear hn z0 z1 z2 z3 z4;obtain⟨z0,z1,z2,z3,z4⟩:=HZ.out _ _ _ Xd.out))
 go_ret
 exact⟨rfl,Xd.out.drop⟩
theorem qF(Y8:VG K.j K.i K.g K.pp)(hp:XF K.j K.i K.g K.pp s)(h:K.two s s P w)(hb:Bd P w)(a:VA)(hc:a.c<256)(hk:(a.k:Int)%13=3):
  qah Tryz.prog 27 #[.pointer K.bv,.pointer K.bw,.agg (ZQ a).toArray] w fun e w'=>e=.returned (.bool true)/\Nx (K.two (Y5 s a.c a.lab).1 (Y5 s a.c a.lab).1) P w w':=by
 have HN:qak (Nx (star (K.two s s) (Bx w.heap.size 43 (ZQ a))) P w (w.alloc (.cells (ZQ a).toArray 43))):=χ ((Nx.same h hb).box (Zq K s s) (ZQ a) 43)
 have HZ:qak (∀(t1 t2:PS)(u:qag),Nx (star (K.two t1 t2) (Bx w.heap.size 43 (ZQ a))) P w u->u.cell? ⟨w.heap.size,0,none⟩=some (.int .u8 a.k)/\u.cell? ⟨w.heap.size,1,none⟩=some (.int .i64 a.at_)/\u.cell? ⟨w.heap.size,2,none⟩=some (.int .u16 a.lab)/\u.cell? ⟨w.heap.size,3,none⟩=some (.int .u8 a.c)/\u.cell? ⟨w.heap.size,4,none⟩=some (.slice a.A a.b.length a.cap)):=χ (fun t1 t2 u hu=>⟨hu.cell.cell 0,hu.cell.cell 1,hu.cell.cell 2,hu.cell.cell 3,hu.cell.cell 4⟩)
 have sD:=χ Y8
 have HP:=χ hp
 have HD:=ZA w.heap.size 43 (ZQ a)
 have H1:qak (∀u:qag,Nx (star (K.two s s) (Bx w.heap.size 43 (ZQ a))) P w u->qah Tryz.prog 40 #[.pointer K.bv,.int .u8 a.c,.int .u16 a.lab] u fun e w'=>e=.returned (.tuple #[.int .i64 ((Y5 s a.c a.lab).2.1:Int),.int .i64 ((Y5 s a.c a.lab).2.2:Int)])/\Nx (star (K.two (Y5 s a.c a.lab).1 s) (Bx w.heap.size 43 (ZQ a))) P w w'):=χ (fun u hu=>Vh HD hu (fun P1 h1 _=>qx h1 HP.out a.c a.lab))
 have H2:qak (∀u:qag,Nx (star (K.two (Y5 s a.c a.lab).1 s) (Bx w.heap.size 43 (ZQ a))) P w u->qah Tryz.prog 87 #[.pointer K.bw,.int .u8 a.c,.int .u16 a.lab] u fun e w'=>e=.returned (.tuple #[.int .i64 ((Y5 s a.c a.lab).2.1:Int),.int .i64 ((Y5 s a.c a.lab).2.2:Int)])/\Nx (star (K.two (Y5 s a.c a.lab).1 (Y5 s a.c a.lab).1) (Bx w.heap.size 43 (ZQ a))) P w w'):=χ (fun u hu=>WI HD hu (fun P1 h1 h2=>qw h1 h2 HP.out a.c a.lab))
 generalize (Y5 s a.c a.lab)=R at*
 obtain⟨k,at_,lab,c,A,cap,bb,m,th⟩:=a
 simp only at hk HZ hc
 generalize (ZQ ⟨k,at_,lab,c,A,cap,bb,m,th⟩)=ca at*
 clear Y8 hp h hb HD
 obtain⟨z0,z1,z2,z3,z4⟩:=HZ.out _ _ _ HN.out
 go_enter Tryz.func27,Tryz.ntmps27
 go_upto_region 1 with fail
 generalize w.alloc (.cells ca.toArray 43)=u0 at*
 generalize w.heap.size=gx at*
 go_wp2_with (first|(go_at_call 40;go_must (with_reducible refine(H1.out _ HN.out).mono ?_);rintro e w1 ⟨he,hn⟩;obtain rfl:=he;have XG:=χ hn;clear hn z0 z1 z2 z3 z4;obtain⟨z0,z1,z2,z3,z4⟩:=HZ.out _ _ _ XG.out)|(go_at_call 87;go_must (with_reducible refine(H2.out _ XG.out).mono ?_);rintro e w2 ⟨he,hn⟩;obtain rfl:=he;have Xd:=χ hn;clear hn z0 z1 z2 z3 z4;obtain⟨z0,z1,z2,z3,z4⟩:=HZ.out _ _ _ Xd.out))
 go_ret
 exact⟨rfl,Xd.out.drop⟩
theorem qH(Y8:VG K.j K.i K.g K.pp)(hp:XF K.j K.i K.g K.pp s)(h:K.two s s P w)(hb:Bd P w)(a:VA)(hc:a.c<256)(hk:(a.k:Int)%13=1):
  qah Tryz.prog 27 #[.pointer K.bv,.pointer K.bw,.agg (ZQ a).toArray] w fun e w'=>e=.returned (.bool true)/\Nx (K.two (Xe K.g K.pp s a.at_).1 (Xe K.g K.pp s a.at_).1) P w w':=by
 have HN:qak (Nx (star (K.two s s) (Bx w.heap.size 43 (ZQ a))) P w (w.alloc (.cells (ZQ a).toArray 43))):=χ ((Nx.same h hb).box (Zq K s s) (ZQ a) 43)
 have HZ:qak (∀(t1 t2:PS)(u:qag),Nx (star (K.two t1 t2) (Bx w.heap.size 43 (ZQ a))) P w u->u.cell? ⟨w.heap.size,0,none⟩=some (.int .u8 a.k)/\u.cell? ⟨w.heap.size,1,none⟩=some (.int .i64 a.at_)/\u.cell? ⟨w.heap.size,2,none⟩=some (.int .u16 a.lab)/\u.cell? ⟨w.heap.size,3,none⟩=some (.int .u8 a.c)/\u.cell? ⟨w.heap.size,4,none⟩=some (.slice a.A a.b.length a.cap)):=χ (fun t1 t2 u hu=>⟨hu.cell.cell 0,hu.cell.cell 1,hu.cell.cell 2,hu.cell.cell 3,hu.cell.cell 4⟩)
 have sD:=χ Y8
 have HP:=χ hp
 have HD:=ZA w.heap.size 43 (ZQ a)
 have H1:qak (∀u:qag,Nx (star (K.two s s) (Bx w.heap.size 43 (ZQ a))) P w u->qah Tryz.prog 42 #[.pointer K.bv,a.at_] u fun e w'=>e=.returned (.int .i64 ((Xe K.g K.pp s a.at_).2:Int))/\Nx (star (K.two (Xe K.g K.pp s a.at_).1 s) (Bx w.heap.size 43 (ZQ a))) P w w'):=χ (fun u hu=>Vh HD hu (fun P1 h1 _=>qp sD.out h1 HP.out a.at_))
 have H2:qak (∀u:qag,Nx (star (K.two (Xe K.g K.pp s a.at_).1 s) (Bx w.heap.size 43 (ZQ a))) P w u->qah Tryz.prog 85 #[.pointer K.bw,a.at_] u fun e w'=>e=.returned (.int .i64 ((Xe K.g K.pp s a.at_).2:Int))/\Nx (star (K.two (Xe K.g K.pp s a.at_).1 (Xe K.g K.pp s a.at_).1) (Bx w.heap.size 43 (ZQ a))) P w w'):=χ (fun u hu=>WI HD hu (fun P1 h1 h2=>qo h1 h2 HP.out a.at_))
 have AY:=χ HD
 generalize (Xe K.g K.pp s a.at_)=R at*
 obtain⟨k,at_,lab,c,A,cap,bb,m,th⟩:=a
 simp only at hk HZ hc
 generalize (ZQ ⟨k,at_,lab,c,A,cap,bb,m,th⟩)=ca at*
 clear Y8 hp h hb HD
 obtain⟨z0,z1,z2,z3,z4⟩:=HZ.out _ _ _ HN.out
 go_enter Tryz.func27,Tryz.ntmps27
 go_upto_region 1 with fail
 generalize w.alloc (.cells ca.toArray 43)=u0 at*
 generalize w.heap.size=gx at*
 go_upto_region 7 with fail
 have NZ:=χ (HN.out.later (XP.star (Zq K s s) AY.out) (qam _ u0).drew)
 refine qai (S:=fun u=>u.cell? ⟨gx,1,none⟩=some (.int .i64 at_)) (by kernel_rfl) z1 (fun hHeld=>?_)
 clear HN z0 z1 z2 z3 z4
 generalize hu0:u0.drew=mq at*
 clear hu0
 refine tk 0 ?_ (y:=.inl ⟨by rfl,?hya0⟩) (s:=by exact hHeld) (h:=?V4)
 case hya0=>(intro u hu;(try dsimp only at hu);go_simp<;>with_reducible rfl)
 try simp only[qad,qaa,qab,qac]
 refine tk 1 ?_ (y:=.inl ⟨by rfl,?hya1⟩) (s:=by exact hHeld) (h:=?Wn)
 case hya1=>(intro u hu;(try dsimp only at hu);go_simp<;>with_reducible rfl)
 try simp only[qad,qaa,qab,qac]
 refine tk 2 ?_ (y:=.inl ⟨by rfl,?hya2⟩) (s:=by exact hHeld) (h:=?Wm)
 case hya2=>(intro u hu;(try dsimp only at hu);go_simp<;>with_reducible rfl)
 try simp only[qad,qaa,qab,qac]
 refine tk 4 ?_ (y:=.inl ⟨by rfl,?hya4⟩) (s:=by exact hHeld) (h:=?TJ)
 case hya4=>(intro u hu;(try dsimp only at hu);go_simp<;>with_reducible rfl)
 try simp only[qad,qaa,qab,qac]
 refine tk 5 ?_ (y:=.inl ⟨by rfl,?hya5⟩) (s:=by exact hHeld) (h:=?Vw)
 case hya5=>(intro u hu;(try dsimp only at hu);go_simp<;>with_reducible rfl)
 try simp only[qad,qaa,qab,qac]
 refine tk 6 ?_ (y:=.inl ⟨by rfl,?hya6⟩) (s:=by exact hHeld) (h:=?Vg)
 case hya6=>(intro u hu;(try dsimp only at hu);go_simp<;>with_reducible rfl)
 try simp only[qad,qaa,qab,qac]
 refine rd 3 (h:=fun K_ hK=>?_)
 go_simp
 (with_reducible refine(H1.out _ NZ.out).mono ?_)
 rintro e w1 ⟨he,hn⟩;obtain rfl:=he
 have XG:=χ hn
 clear hn
 obtain⟨z0,z1,z2,z3,z4⟩:=HZ.out _ _ _ XG.out
 go_simp
 refine hK.out _ _ z1 (fun Z4=>?_)
 clear hK K_ hHeld z0 z1 z2 z3 z4
 have hHeld:=Z4
 clear Z4
 try simp only[qad,qaa,qab,qac]
 refine rd 7 (h:=fun K_ hK=>?_)
 go_simp
 (with_reducible refine(H2.out _ XG.out).mono ?_)
 rintro e w2 ⟨he,hn⟩;obtain rfl:=he
 have Xd:=χ hn
 clear hn
 obtain⟨z0,z1,z2,z3,z4⟩:=HZ.out _ _ _ Xd.out
 go_simp
 refine hK.out _ _ z1 (fun Z4=>?_)
 clear hK K_ hHeld z0 z1 z2 z3 z4
 have hHeld:=Z4
 clear Z4
 try simp only[qad,qaa,qab,qac]
 refine tk 8 ?_ (y:=.inl ⟨by rfl,?hya8⟩) (s:=by exact hHeld) (h:=?RJ)
 case hya8=>(intro u hu;(try dsimp only at hu);go_simp<;>with_reducible rfl)
 try simp only[qad,qaa,qab,qac]
 refine tk 9 ?_ (y:=.inl ⟨by rfl,?hya9⟩) (s:=by exact hHeld) (h:=?Qg)
 case hya9=>(intro u hu;(try dsimp only at hu);go_simp<;>with_reducible rfl)
 try simp only[qad,qaa,qab,qac]
 refine qal (by kernel_rfl) ?_ _
 clear hHeld
 go_wp2
 go_ret
 exact⟨rfl,Xd.out.drop⟩
theorem qE(Y8:VG K.j K.i K.g K.pp)(hp:XF K.j K.i K.g K.pp s)(h:K.two s s P w)(hb:Bd P w)(a:VA)(hc:a.c<256)(hk:(a.k:Int)%13=4):
  qah Tryz.prog 27 #[.pointer K.bv,.pointer K.bw,.agg (ZQ a).toArray] w fun e w'=>e=.returned (.bool true)/\Nx (K.two (YF s a.at_).1 (YF s a.at_).1) P w w':=by
 have HN:qak (Nx (star (K.two s s) (Bx w.heap.size 43 (ZQ a))) P w (w.alloc (.cells (ZQ a).toArray 43))):=χ ((Nx.same h hb).box (Zq K s s) (ZQ a) 43)
 have HZ:qak (∀(t1 t2:PS)(u:qag),Nx (star (K.two t1 t2) (Bx w.heap.size 43 (ZQ a))) P w u->u.cell? ⟨w.heap.size,0,none⟩=some (.int .u8 a.k)/\u.cell? ⟨w.heap.size,1,none⟩=some (.int .i64 a.at_)/\u.cell? ⟨w.heap.size,2,none⟩=some (.int .u16 a.lab)/\u.cell? ⟨w.heap.size,3,none⟩=some (.int .u8 a.c)/\u.cell? ⟨w.heap.size,4,none⟩=some (.slice a.A a.b.length a.cap)):=χ (fun t1 t2 u hu=>⟨hu.cell.cell 0,hu.cell.cell 1,hu.cell.cell 2,hu.cell.cell 3,hu.cell.cell 4⟩)
 have sD:=χ Y8
 have HP:=χ hp
 have HD:=ZA w.heap.size 43 (ZQ a)
 have H1:qak (∀u:qag,Nx (star (K.two s s) (Bx w.heap.size 43 (ZQ a))) P w u->qah Tryz.prog 44 #[.pointer K.bv,a.at_] u fun e w'=>e=.returned (.int .i64 ((YF s a.at_).2:Int))/\Nx (star (K.two (YF s a.at_).1 s) (Bx w.heap.size 43 (ZQ a))) P w w'):=χ (fun u hu=>Vh HD hu (fun P1 h1 _=>AX h1 HP.out a.at_))
 have H2:qak (∀u:qag,Nx (star (K.two (YF s a.at_).1 s) (Bx w.heap.size 43 (ZQ a))) P w u->qah Tryz.prog 88 #[.pointer K.bw,a.at_] u fun e w'=>e=.returned (.int .i64 ((YF s a.at_).2:Int))/\Nx (star (K.two (YF s a.at_).1 (YF s a.at_).1) (Bx w.heap.size 43 (ZQ a))) P w w'):=χ (fun u hu=>WI HD hu (fun P1 h1 h2=>AV h1 h2 HP.out a.at_))
 have AY:=χ HD
 generalize (YF s a.at_)=R at*
 obtain⟨k,at_,lab,c,A,cap,bb,m,th⟩:=a
 simp only at hk HZ hc
 generalize (ZQ ⟨k,at_,lab,c,A,cap,bb,m,th⟩)=ca at*
 clear Y8 hp h hb HD
 obtain⟨z0,z1,z2,z3,z4⟩:=HZ.out _ _ _ HN.out
 go_enter Tryz.func27,Tryz.ntmps27
 go_upto_region 1 with fail
 generalize w.alloc (.cells ca.toArray 43)=u0 at*
 generalize w.heap.size=gx at*
 go_upto_region 15 with fail
 have NZ:=χ (HN.out.later (XP.star (Zq K s s) AY.out) (qam _ u0).drew)
 refine qai (S:=fun u=>u.cell? ⟨gx,1,none⟩=some (.int .i64 at_)) (by kernel_rfl) z1 (fun hHeld=>?_)
 clear HN z0 z1 z2 z3 z4
 generalize hu0:u0.drew=mq at*
 clear hu0
 refine tk 0 ?_ (y:=.inl ⟨by rfl,?hya0⟩) (s:=by exact hHeld) (h:=?V4)
 case hya0=>(intro u hu;(try dsimp only at hu);go_simp<;>with_reducible rfl)
 try simp only[qad,qaa,qab,qac]
 refine tk 1 ?_ (y:=.inl ⟨by rfl,?hya1⟩) (s:=by exact hHeld) (h:=?Wn)
 case hya1=>(intro u hu;(try dsimp only at hu);go_simp<;>with_reducible rfl)
 try simp only[qad,qaa,qab,qac]
 refine tk 2 ?_ (y:=.inl ⟨by rfl,?hya2⟩) (s:=by exact hHeld) (h:=?Wm)
 case hya2=>(intro u hu;(try dsimp only at hu);go_simp<;>with_reducible rfl)
 try simp only[qad,qaa,qab,qac]
 refine tk 4 ?_ (y:=.inl ⟨by rfl,?hya4⟩) (s:=by exact hHeld) (h:=?TJ)
 case hya4=>(intro u hu;(try dsimp only at hu);go_simp<;>with_reducible rfl)
 try simp only[qad,qaa,qab,qac]
 refine tk 5 ?_ (y:=.inl ⟨by rfl,?hya5⟩) (s:=by exact hHeld) (h:=?Vw)
 case hya5=>(intro u hu;(try dsimp only at hu);go_simp<;>with_reducible rfl)
 try simp only[qad,qaa,qab,qac]
 refine tk 6 ?_ (y:=.inl ⟨by rfl,?hya6⟩) (s:=by exact hHeld) (h:=?Vg)
 case hya6=>(intro u hu;(try dsimp only at hu);go_simp<;>with_reducible rfl)
 try simp only[qad,qaa,qab,qac]
 refine rd 3 (h:=fun K_ hK=>?_)
 go_simp
 (with_reducible refine(H1.out _ NZ.out).mono ?_)
 rintro e w1 ⟨he,hn⟩;obtain rfl:=he
 have XG:=χ hn
 clear hn
 obtain⟨z0,z1,z2,z3,z4⟩:=HZ.out _ _ _ XG.out
 go_simp
 refine hK.out _ _ z1 (fun Z4=>?_)
 clear hK K_ hHeld z0 z1 z2 z3 z4
 have hHeld:=Z4
 clear Z4
 try simp only[qad,qaa,qab,qac]
 refine rd 7 (h:=fun K_ hK=>?_)
 go_simp
 (with_reducible refine(H2.out _ XG.out).mono ?_)
 rintro e w2 ⟨he,hn⟩;obtain rfl:=he
 have Xd:=χ hn
 clear hn
 obtain⟨z0,z1,z2,z3,z4⟩:=HZ.out _ _ _ Xd.out
 go_simp
 refine hK.out _ _ z1 (fun Z4=>?_)
 clear hK K_ hHeld z0 z1 z2 z3 z4
 have hHeld:=Z4
 clear Z4
 try simp only[qad,qaa,qab,qac]
 refine tk 8 ?_ (y:=.inl ⟨by rfl,?hya8⟩) (s:=by exact hHeld) (h:=?RJ)
 case hya8=>(intro u hu;(try dsimp only at hu);go_simp<;>with_reducible rfl)
 try simp only[qad,qaa,qab,qac]
 refine tk 9 ?_ (y:=.inl ⟨by rfl,?hya9⟩) (s:=by exact hHeld) (h:=?Qg)
 case hya9=>(intro u hu;(try dsimp only at hu);go_simp<;>with_reducible rfl)
 try simp only[qad,qaa,qab,qac]
 refine qal (by kernel_rfl) ?_ _
 clear hHeld
 go_wp2
 go_ret
 exact⟨rfl,Xd.out.drop⟩
theorem qG(Y8:VG K.j K.i K.g K.pp)(hp:XF K.j K.i K.g K.pp s)(h:K.two s s P w)(hb:Bd P w)(a:VA)(hc:a.c<256)(hk:(a.k:Int)%13=2):
  qah Tryz.prog 27 #[.pointer K.bv,.pointer K.bw,.agg (ZQ a).toArray] w fun e w'=>e=.returned (.bool true)/\Nx (K.two (Za K.g K.pp s a.at_ (qae 64 (qaf a.c))).1 (Za K.g K.pp s a.at_ (qae 64 (qaf a.c))).1) P w w':=by
 have HN:qak (Nx (star (K.two s s) (Bx w.heap.size 43 (ZQ a))) P w (w.alloc (.cells (ZQ a).toArray 43))):=χ ((Nx.same h hb).box (Zq K s s) (ZQ a) 43)
 have HZ:qak (∀(t1 t2:PS)(u:qag),Nx (star (K.two t1 t2) (Bx w.heap.size 43 (ZQ a))) P w u->u.cell? ⟨w.heap.size,0,none⟩=some (.int .u8 a.k)/\u.cell? ⟨w.heap.size,1,none⟩=some (.int .i64 a.at_)/\u.cell? ⟨w.heap.size,2,none⟩=some (.int .u16 a.lab)/\u.cell? ⟨w.heap.size,3,none⟩=some (.int .u8 a.c)/\u.cell? ⟨w.heap.size,4,none⟩=some (.slice a.A a.b.length a.cap)):=χ (fun t1 t2 u hu=>⟨hu.cell.cell 0,hu.cell.cell 1,hu.cell.cell 2,hu.cell.cell 3,hu.cell.cell 4⟩)
 have sD:=χ Y8
 have HP:=χ hp
 have HD:=ZA w.heap.size 43 (ZQ a)
 have hrd:∀(u:qag)(q:Nat),Bk u q 5 (Z7 (qae 64 (qaf a.c)))->Rd u u.heap.size (some ⟨q,0,none⟩) (Z7 (qae 64 (qaf a.c))):=fun u q hq=>by
  have:=hq.rd 64 0
  rwa[List.drop_zero,List.take_of_length_le (by rw[Z5];simp)]at this
 have H1:qak (∀(u:qag)(q:Nat),Nx (star (K.two s s) (Bx w.heap.size 43 (ZQ a))) P w u->Bk u q 5 (Z7 (qae 64 (qaf a.c)))->qah Tryz.prog 43 #[.pointer K.bv,a.at_,.slice q 64 64] u fun e w'=>e=.returned (.int .i64 ((Za K.g K.pp s a.at_ (qae 64 (qaf a.c))).2:Int))/\Nx (star (K.two (Za K.g K.pp s a.at_ (qae 64 (qaf a.c))).1 s) (Bx w.heap.size 43 (ZQ a))) P w w'):=χ (fun u q hu hq=>Vh HD hu (fun P1 h1 _=>MU sD.out h1 HP.out a.at_ _ 64 64 _ (by simp) (hrd u q hq)))
 have H2:qak (∀(u:qag)(q:Nat),Nx (star (K.two (Za K.g K.pp s a.at_ (qae 64 (qaf a.c))).1 s) (Bx w.heap.size 43 (ZQ a))) P w u->Bk u q 5 (Z7 (qae 64 (qaf a.c)))->qah Tryz.prog 86 #[.pointer K.bw,a.at_,.slice q 64 64] u fun e w'=>e=.returned (.int .i64 ((Za K.g K.pp s a.at_ (qae 64 (qaf a.c))).2:Int))/\Nx (star (K.two (Za K.g K.pp s a.at_ (qae 64 (qaf a.c))).1 (Za K.g K.pp s a.at_ (qae 64 (qaf a.c))).1) (Bx w.heap.size 43 (ZQ a))) P w w'):=χ (fun u q hu hq=>WI HD hu (fun P1 h1 h2=>FH h1 h2 HP.out a.at_ _ 64 64 _ (by simp) (hrd u q hq)))
 have mD:qak (∀u:qag,qah Tryz.prog 37 #[.int .u8 a.c] u fun e w'=>∃g,e=.returned (.slice (some ⟨g,0,none⟩) 64 64)/\Bk w' g 5 (Z7 (qae 64 (qaf a.c)))/\u.heap.size<=g/\Below u.heap.size u w'):=χ (fun u=>by
  have:=Tt (qaf a.c) u
  rwa[UInt8.toNat_ofNat_of_lt' (by exact hc)]at this)
 have AY:=χ HD
 generalize (Za K.g K.pp s a.at_ (qae 64 (qaf a.c)))=R at*
 generalize qae 64 (qaf a.c)=lc at*
 clear hrd
 obtain⟨k,at_,lab,c,A,cap,bb,m,th⟩:=a
 simp only at hk HZ hc
 generalize (ZQ ⟨k,at_,lab,c,A,cap,bb,m,th⟩)=ca at*
 clear Y8 hp h hb HD
 obtain⟨z0,z1,z2,z3,z4⟩:=HZ.out _ _ _ HN.out
 go_enter Tryz.func27,Tryz.ntmps27
 go_upto_region 1 with fail
 generalize w.alloc (.cells ca.toArray 43)=u0 at*
 generalize w.heap.size=gx at*
 go_upto_region 9 with fail
 have NZ:=χ (HN.out.later (XP.star (Zq K s s) AY.out) (qam _ u0).drew)
 refine qai (S:=fun u=>u.cell? ⟨gx,1,none⟩=some (.int .i64 at_)/\u.cell? ⟨gx,3,none⟩=some (.int .u8 c)) (by kernel_rfl) ⟨z1,z3⟩ (fun hHeld=>?_)
 clear HN z0 z1 z2 z3 z4
 generalize hu0:u0.drew=mq at*
 clear hu0
 refine tk 0 ?_ (y:=.inl ⟨by rfl,?hyb0⟩) (s:=by exact hHeld) (h:=?AU)
 case hyb0=>(rintro u ⟨z1,z3⟩;go_simp<;>with_reducible rfl)
 try simp only[qad,qaa,qab,qac]
 refine tk 1 ?_ (y:=.inl ⟨by rfl,?hyb1⟩) (s:=by exact hHeld) (h:=?AR)
 case hyb1=>(rintro u ⟨z1,z3⟩;go_simp<;>with_reducible rfl)
 try simp only[qad,qaa,qab,qac]
 refine tk 2 ?_ (y:=.inl ⟨by rfl,?hyb2⟩) (s:=by exact hHeld) (h:=?AQ)
 case hyb2=>(rintro u ⟨z1,z3⟩;go_simp<;>with_reducible rfl)
 try simp only[qad,qaa,qab,qac]
 refine tk 3 ?_ (y:=.inl ⟨by rfl,?hyb3⟩) (s:=by exact hHeld) (h:=?AP)
 case hyb3=>(rintro u ⟨z1,z3⟩;go_simp<;>with_reducible rfl)
 try simp only[qad,qaa,qab,qac]
 refine tk 4 ?_ (y:=.inl ⟨by rfl,?hyb4⟩) (s:=by exact hHeld) (h:=?AO)
 case hyb4=>(rintro u ⟨z1,z3⟩;go_simp<;>with_reducible rfl)
 try simp only[qad,qaa,qab,qac]
 refine tk 7 ?_ (y:=.inl ⟨by rfl,?hyb7⟩) (s:=by exact hHeld) (h:=?vS)
 case hyb7=>(rintro u ⟨z1,z3⟩;go_simp<;>with_reducible rfl)
 try simp only[qad,qaa,qab,qac]
 refine tk 8 ?_ (y:=.inl ⟨by rfl,?hyb8⟩) (s:=by exact hHeld) (h:=?qm)
 case hyb8=>(rintro u ⟨z1,z3⟩;go_simp<;>with_reducible rfl)
 try simp only[qad,qaa,qab,qac]
 refine tk 9 ?_ (y:=.inl ⟨by rfl,?hyb9⟩) (s:=by exact hHeld) (h:=?vR)
 case hyb9=>(rintro u ⟨z1,z3⟩;go_simp<;>with_reducible rfl)
 try simp only[qad,qaa,qab,qac]
 refine tk 10 ?_ (y:=.inl ⟨by rfl,?hyb10⟩) (s:=by exact hHeld) (h:=?FE)
 case hyb10=>(rintro u ⟨z1,z3⟩;go_simp<;>with_reducible rfl)
 try simp only[qad,qaa,qab,qac]
 refine tk 11 ?_ (y:=.inl ⟨by rfl,?hyb11⟩) (s:=by exact hHeld) (h:=?FD)
 case hyb11=>(rintro u ⟨z1,z3⟩;go_simp<;>with_reducible rfl)
 try simp only[qad,qaa,qab,qac]
 refine rd 5 (h:=fun K_ hK=>?_)
 go_simp
 (with_reducible refine(mD.out _).mono ?_)
 rintro e w1 ⟨qw1,he,hq,_,hb⟩;obtain rfl:=he
 have XG:=χ (NZ.out.later (XP.star (Zq K s s) AY.out) hb)
 have fJ:=χ hq
 clear hq hb
 obtain⟨z0,z1,z2,z3,z4⟩:=HZ.out _ _ _ XG.out
 go_simp
 refine hK.out _ _ ⟨z1,z3⟩ (fun Z4=>?_)
 clear hK K_ hHeld z0 z1 z2 z3 z4
 have hHeld:=Z4
 clear Z4
 try simp only[qad,qaa,qab,qac]
 refine rd 6 (h:=fun K_ hK=>?_)
 go_simp
 (with_reducible refine(H1.out _ _ XG.out fJ.out).mono ?_)
 rintro e w2 ⟨he,hn⟩;obtain rfl:=he
 have Wy:=χ hn
 clear hn
 obtain⟨z0,z1,z2,z3,z4⟩:=HZ.out _ _ _ Wy.out
 go_simp
 refine hK.out _ _ ⟨z1,z3⟩ (fun Z4=>?_)
 clear hK K_ hHeld z0 z1 z2 z3 z4
 have hHeld:=Z4
 clear Z4
 try simp only[qad,qaa,qab,qac]
 refine rd 12 (h:=fun K_ hK=>?_)
 go_simp
 (with_reducible refine(mD.out _).mono ?_)
 rintro e w3 ⟨qw3,he,hq,_,hb⟩;obtain rfl:=he
 have wM:=χ (Wy.out.later (XP.star (Zq K _ _) AY.out) hb)
 have fI:=χ hq
 clear hq hb
 obtain⟨z0,z1,z2,z3,z4⟩:=HZ.out _ _ _ wM.out
 go_simp
 refine hK.out _ _ ⟨z1,z3⟩ (fun Z4=>?_)
 clear hK K_ hHeld z0 z1 z2 z3 z4
 have hHeld:=Z4
 clear Z4
 try simp only[qad,qaa,qab,qac]
 refine rd 13 (h:=fun K_ hK=>?_)
 go_simp
 (with_reducible refine(H2.out _ _ wM.out fI.out).mono ?_)
 rintro e w4 ⟨he,hn⟩;obtain rfl:=he
 have Xd:=χ hn
 clear hn
 obtain⟨z0,z1,z2,z3,z4⟩:=HZ.out _ _ _ Xd.out
 go_simp
 refine hK.out _ _ ⟨z1,z3⟩ (fun Z4=>?_)
 clear hK K_ hHeld z0 z1 z2 z3 z4
 have hHeld:=Z4
 clear Z4
 try simp only[qad,qaa,qab,qac]
 refine tk 14 ?_ (y:=.inl ⟨by rfl,?hyb14⟩) (s:=by exact hHeld) (h:=?sw)
 case hyb14=>(rintro u ⟨z1,z3⟩;go_simp<;>with_reducible rfl)
 try simp only[qad,qaa,qab,qac]
 refine tk 15 ?_ (y:=.inl ⟨by rfl,?hyb15⟩) (s:=by exact hHeld) (h:=?kU)
 case hyb15=>(rintro u ⟨z1,z3⟩;go_simp<;>with_reducible rfl)
 try simp only[qad,qaa,qab,qac]
 refine qal (by kernel_rfl) ?_ _
 clear hHeld
 go_wp2
 go_ret
 exact⟨rfl,Xd.out.drop⟩
end
end Go.Proofs.YtmehhgfbnfbnaaaGreat.Y7

namespace Go.Proofs.YtmehhgfbnfbnaaaGreat.Y7
open Go.RowKit Zc Meta Apart
section
variable {P:Nat->Prop}{w u:qag}{g:Nat}{s:PS}{A C:TL}{e:TypeId}{xs:List qao}{K:VK}
theorem cell1(h:Nx (star A (star (Bx g e xs) C)) P w u):Bk u g e xs:=by
 obtain⟨P',⟨P1,P2,-,⟨P3,P4,h2,-⟩,-,-⟩,-⟩:=h
 exact h2.1
theorem Vv(h:Nx (star A (star C (Bx g e xs))) P w u):Bk u g e xs:=by
 obtain⟨P',⟨P1,P2,-,⟨P3,P4,-,h2,-⟩,-,-⟩,-⟩:=h
 exact h2.1
theorem set2(h:Nx (star A (star C (Bx g e xs))) P w u)(hA:XP A)(hC:XP C)(i:Nat)(v:qao):Nx (star A (star C (Bx g e (xs.set i v)))) P w (u.setCell ⟨g,i,none⟩ v):=
 h.step (fun _ h1 h2=>Nx.right hA h1 h2 (fun _ h3 h4=>Nx.right hC h3 h4 (fun _ h5 h6=>qA h5 h6 i v)))
theorem KX{j i pp:Nat}(hp:XF j i g pp s)(a:Int):Z9.YS (YV s a).1:=by
 unfold YV
 split
 ·cases h:s.m.ino[a.toNat]? with
  |none=>exact Z9.YS.z
  |some n=>
   simp only
   split
   ·exact Z9.YS.z
   ·exact hp.ord.UT.ino n (List.mem_of_getElem? h)
 ·exact Z9.YS.z
theorem vZ(hp:XF K.j K.i K.g K.pp s)(h:K.two s s P w)(hb:Bd P w)(k:Nat)(at_:Int)(lab c:Nat)(A:Option Addr)(cap:Nat)(bb:List UInt8)(ik ir:Nat)(il Zt p0 p1 p2 p3 p4 p5 p6 p7 p8 p9:Int)(th:Nat)(hk:(k:Int)%13=5)(k2 r2:Nat)(l2 s2 q0 q1 q2 q3 q4 q5 q6 q7 q8 q9:Int)(hn:Z9.YS ⟨k2,r2,il,Zt,[p0,p1,p2,p3,p4,p5,p6,p7,p8,p9]⟩)(lb er:Nat)(hin:YV s at_=(⟨k2,r2,l2,s2,[q0,q1,q2,q3,q4,q5,q6,q7,q8,q9]⟩,lb,er))(he:er=0)(hc2:(c:Int)%2=0):
  qah Tryz.prog 27 #[.pointer K.bv,.pointer K.bw,.agg (ZQ ⟨k,at_,lab,c,A,cap,bb,⟨ik,ir,il,Zt,[p0,p1,p2,p3,p4,p5,p6,p7,p8,p9]⟩,th⟩).toArray] w fun e w'=>e=.returned (.bool true)/\Nx (K.two (XY s at_ ⟨k2,r2,il,Zt,[p0,p1,p2,p3,p4,p5,p6,p7,p8,p9]⟩).1 (XY s at_ ⟨k2,r2,il,Zt,[p0,p1,p2,p3,p4,p5,p6,p7,p8,p9]⟩).1) P w w':=by
 have HN:qak (Nx (star (K.two s s) (Bx w.heap.size 43 (ZQ ⟨k,at_,lab,c,A,cap,bb,⟨ik,ir,il,Zt,[p0,p1,p2,p3,p4,p5,p6,p7,p8,p9]⟩,th⟩))) P w (w.alloc (.cells (ZQ ⟨k,at_,lab,c,A,cap,bb,⟨ik,ir,il,Zt,[p0,p1,p2,p3,p4,p5,p6,p7,p8,p9]⟩,th⟩).toArray 43))):=χ ((Nx.same h hb).box (Zq K s s) (ZQ ⟨k,at_,lab,c,A,cap,bb,⟨ik,ir,il,Zt,[p0,p1,p2,p3,p4,p5,p6,p7,p8,p9]⟩,th⟩) 43)
 have HZ:qak (∀(D:TL)(u:qag),Nx (star D (Bx w.heap.size 43 (ZQ ⟨k,at_,lab,c,A,cap,bb,⟨ik,ir,il,Zt,[p0,p1,p2,p3,p4,p5,p6,p7,p8,p9]⟩,th⟩))) P w u->u.cell? ⟨w.heap.size,0,none⟩=some (.int .u8 k)/\u.cell? ⟨w.heap.size,1,none⟩=some (.int .i64 at_)/\u.cell? ⟨w.heap.size,2,none⟩=some (.int .u16 lab)/\u.cell? ⟨w.heap.size,3,none⟩=some (.int .u8 c)/\u.cell? ⟨w.heap.size,4,none⟩=some (.slice A bb.length cap)/\u.cell? ⟨w.heap.size,5,none⟩=some (.int .u8 ik)/\u.cell? ⟨w.heap.size,6,none⟩=some (.int .u8 ir)/\u.cell? ⟨w.heap.size,7,none⟩=some (.int .i64 il)/\u.cell? ⟨w.heap.size,8,none⟩=some (.int .i64 Zt)/\u.cell? ⟨w.heap.size,9,none⟩=some (.int .i64 p0)/\u.cell? ⟨w.heap.size,10,none⟩=some (.int .i64 p1)/\u.cell? ⟨w.heap.size,11,none⟩=some (.int .i64 p2)/\u.cell? ⟨w.heap.size,12,none⟩=some (.int .i64 p3)/\u.cell? ⟨w.heap.size,13,none⟩=some (.int .i64 p4)/\u.cell? ⟨w.heap.size,14,none⟩=some (.int .i64 p5)/\u.cell? ⟨w.heap.size,15,none⟩=some (.int .i64 p6)/\u.cell? ⟨w.heap.size,16,none⟩=some (.int .i64 p7)/\u.cell? ⟨w.heap.size,17,none⟩=some (.int .i64 p8)/\u.cell? ⟨w.heap.size,18,none⟩=some (.int .i64 p9)):=χ (fun D u hu=>⟨hu.cell.cell 0,hu.cell.cell 1,hu.cell.cell 2,hu.cell.cell 3,hu.cell.cell 4,hu.cell.cell 5,hu.cell.cell 6,hu.cell.cell 7,hu.cell.cell 8,hu.cell.cell 9,hu.cell.cell 10,hu.cell.cell 11,hu.cell.cell 12,hu.cell.cell 13,hu.cell.cell 14,hu.cell.cell 15,hu.cell.cell 16,hu.cell.cell 17,hu.cell.cell 18⟩)
 have sG:qak (∀u:qag,Nx (star (K.two s s) (star (Bx w.heap.size 43 (ZQ ⟨k,at_,lab,c,A,cap,bb,⟨ik,ir,il,Zt,[p0,p1,p2,p3,p4,p5,p6,p7,p8,p9]⟩,th⟩)) (Bx (w.alloc (.cells (ZQ ⟨k,at_,lab,c,A,cap,bb,⟨ik,ir,il,Zt,[p0,p1,p2,p3,p4,p5,p6,p7,p8,p9]⟩,th⟩).toArray 43)).heap.size 40 [.int .u8 ik,.int .u8 ir,il,Zt,p0,p1,p2,p3,p4,p5,p6,p7,p8,p9]))) P w u->qah Tryz.prog 29 #[.pointer K.bw,at_] u fun e w'=>e=.returned (.tuple #[.agg #[.int .u8 k2,.int .u8 r2,l2,s2,q0,q1,q2,q3,q4,q5,q6,q7,q8,q9],.int .u16 lb,er])/\Nx (star (K.two s s) (star (Bx w.heap.size 43 (ZQ ⟨k,at_,lab,c,A,cap,bb,⟨ik,ir,il,Zt,[p0,p1,p2,p3,p4,p5,p6,p7,p8,p9]⟩,th⟩)) (Bx (w.alloc (.cells (ZQ ⟨k,at_,lab,c,A,cap,bb,⟨ik,ir,il,Zt,[p0,p1,p2,p3,p4,p5,p6,p7,p8,p9]⟩,th⟩).toArray 43)).heap.size 40 [.int .u8 ik,.int .u8 ir,il,Zt,p0,p1,p2,p3,p4,p5,p6,p7,p8,p9]))) P w w'):=χ (fun u hu=>WI (XP.star (ZA ..) (ZA ..)) hu (fun P1 h1 _=>by
  have:=MO h1 hp at_
  rw[hin]at this
  exact this))
 have lg:qak (∀u:qag,Nx (star (K.two s s) (star (Bx w.heap.size 43 (ZQ ⟨k,at_,lab,c,A,cap,bb,⟨ik,ir,il,Zt,[p0,p1,p2,p3,p4,p5,p6,p7,p8,p9]⟩,th⟩)) (Bx (w.alloc (.cells (ZQ ⟨k,at_,lab,c,A,cap,bb,⟨ik,ir,il,Zt,[p0,p1,p2,p3,p4,p5,p6,p7,p8,p9]⟩,th⟩).toArray 43)).heap.size 40 [.int .u8 k2,.int .u8 r2,il,Zt,p0,p1,p2,p3,p4,p5,p6,p7,p8,p9]))) P w u->qah Tryz.prog 45 #[.pointer K.bv,at_,.agg #[.int .u8 k2,.int .u8 r2,il,Zt,p0,p1,p2,p3,p4,p5,p6,p7,p8,p9]] u fun e w'=>e=.returned (.int .i64 ((XY s at_ ⟨k2,r2,il,Zt,[p0,p1,p2,p3,p4,p5,p6,p7,p8,p9]⟩).2:Int))/\Nx (star (K.two (XY s at_ ⟨k2,r2,il,Zt,[p0,p1,p2,p3,p4,p5,p6,p7,p8,p9]⟩).1 s) (star (Bx w.heap.size 43 (ZQ ⟨k,at_,lab,c,A,cap,bb,⟨ik,ir,il,Zt,[p0,p1,p2,p3,p4,p5,p6,p7,p8,p9]⟩,th⟩)) (Bx (w.alloc (.cells (ZQ ⟨k,at_,lab,c,A,cap,bb,⟨ik,ir,il,Zt,[p0,p1,p2,p3,p4,p5,p6,p7,p8,p9]⟩,th⟩).toArray 43)).heap.size 40 [.int .u8 k2,.int .u8 r2,il,Zt,p0,p1,p2,p3,p4,p5,p6,p7,p8,p9]))) P w w'):=χ (fun u hu=>Vh (XP.star (ZA ..) (ZA ..)) hu (fun P1 h1 _=>Ba h1 hp at_ ⟨k2,r2,il,Zt,[p0,p1,p2,p3,p4,p5,p6,p7,p8,p9]⟩ hn))
 have kZ:qak (∀u:qag,Nx (star (K.two (XY s at_ ⟨k2,r2,il,Zt,[p0,p1,p2,p3,p4,p5,p6,p7,p8,p9]⟩).1 s) (star (Bx w.heap.size 43 (ZQ ⟨k,at_,lab,c,A,cap,bb,⟨ik,ir,il,Zt,[p0,p1,p2,p3,p4,p5,p6,p7,p8,p9]⟩,th⟩)) (Bx (w.alloc (.cells (ZQ ⟨k,at_,lab,c,A,cap,bb,⟨ik,ir,il,Zt,[p0,p1,p2,p3,p4,p5,p6,p7,p8,p9]⟩,th⟩).toArray 43)).heap.size 40 [.int .u8 k2,.int .u8 r2,il,Zt,p0,p1,p2,p3,p4,p5,p6,p7,p8,p9]))) P w u->qah Tryz.prog 89 #[.pointer K.bw,at_,.agg #[.int .u8 k2,.int .u8 r2,il,Zt,p0,p1,p2,p3,p4,p5,p6,p7,p8,p9]] u fun e w'=>e=.returned (.int .i64 ((XY s at_ ⟨k2,r2,il,Zt,[p0,p1,p2,p3,p4,p5,p6,p7,p8,p9]⟩).2:Int))/\Nx (star (K.two (XY s at_ ⟨k2,r2,il,Zt,[p0,p1,p2,p3,p4,p5,p6,p7,p8,p9]⟩).1 (XY s at_ ⟨k2,r2,il,Zt,[p0,p1,p2,p3,p4,p5,p6,p7,p8,p9]⟩).1) (star (Bx w.heap.size 43 (ZQ ⟨k,at_,lab,c,A,cap,bb,⟨ik,ir,il,Zt,[p0,p1,p2,p3,p4,p5,p6,p7,p8,p9]⟩,th⟩)) (Bx (w.alloc (.cells (ZQ ⟨k,at_,lab,c,A,cap,bb,⟨ik,ir,il,Zt,[p0,p1,p2,p3,p4,p5,p6,p7,p8,p9]⟩,th⟩).toArray 43)).heap.size 40 [.int .u8 k2,.int .u8 r2,il,Zt,p0,p1,p2,p3,p4,p5,p6,p7,p8,p9]))) P w w'):=χ (fun u hu=>WI (XP.star (ZA ..) (ZA ..)) hu (fun P1 h1 _=>AZ h1 hp at_ ⟨k2,r2,il,Zt,[p0,p1,p2,p3,p4,p5,p6,p7,p8,p9]⟩ hn))
 generalize hsn:(XY s at_ ⟨k2,r2,il,Zt,[p0,p1,p2,p3,p4,p5,p6,p7,p8,p9]⟩)=R at*
 clear hsn
 have HGN:qak (w.heap.size<(w.alloc (.cells (ZQ ⟨k,at_,lab,c,A,cap,bb,⟨ik,ir,il,Zt,[p0,p1,p2,p3,p4,p5,p6,p7,p8,p9]⟩,th⟩).toArray 43)).heap.size):=χ (by simp)
 clear hp h hb hn hin
 obtain⟨z0,z1,z2,z3,z4,z5,z6,z7,z8,z9,X5,X4,z12,X3,kY,kX,kW,z17,kV⟩:=HZ.out _ _ HN.out
 have HA1:qak (∀(u:qag)(q:Nat),Bk u q 43 (ZQ ⟨k,at_,lab,c,A,cap,bb,⟨ik,ir,il,Zt,[p0,p1,p2,p3,p4,p5,p6,p7,p8,p9]⟩,th⟩)->u.cell? ⟨q,1,none⟩=some (.int .i64 at_)):=χ (fun u q hu=>hu.cell 1)
 have MN:qak (∀(u:qag)(q:Nat),Bk u q 43 (ZQ ⟨k,at_,lab,c,A,cap,bb,⟨ik,ir,il,Zt,[p0,p1,p2,p3,p4,p5,p6,p7,p8,p9]⟩,th⟩)->u.cell? ⟨q,3,none⟩=some (.int .u8 c)):=χ (fun u q hu=>hu.cell 3)
 clear HZ
 generalize (ZQ ⟨k,at_,lab,c,A,cap,bb,⟨ik,ir,il,Zt,[p0,p1,p2,p3,p4,p5,p6,p7,p8,p9]⟩,th⟩)=ca at*
 go_enter Tryz.func27,Tryz.ntmps27
 go_upto_region 1 with fail
 generalize w.alloc (.cells ca.toArray 43)=u0 at*
 generalize w.heap.size=gx at*
 go_upto_region 18 with fail
 have XG:qak (Nx (star (K.two s s) (star (Bx gx 43 ca) (Bx u0.heap.size 40 [.int .u8 ik,.int .u8 ir,il,Zt,p0,p1,p2,p3,p4,p5,p6,p7,p8,p9]))) P w (u0.alloc (.cells #[.int .u8 ik,.int .u8 ir,il,Zt,p0,p1,p2,p3,p4,p5,p6,p7,p8,p9] 40))):=χ ((HN.out.box (XP.star (Zq K s s) (ZA ..)) [.int .u8 ik,.int .u8 ir,il,Zt,p0,p1,p2,p3,p4,p5,p6,p7,p8,p9] 40).imp (fun _ h=>Wo h))
 clear HN z0 z1 z2 z3 z4 z5 z6 z7 z8 z9 X5 X4 z12 X3 kY kX kW z17 kV
 generalize u0.alloc (.cells #[.int .u8 ik,.int .u8 ir,il,Zt,p0,p1,p2,p3,p4,p5,p6,p7,p8,p9] 40)=u1 at*
 generalize u0.heap.size=gn at*
 have z1:=HA1.out _ _ (cell1 XG.out)
 go_upto_region 19 with(go_at_call 29;go_must (with_reducible refine(sG.out _ XG.out).mono ?_);rintro e w1 ⟨he,hn⟩;obtain rfl:=he;have Xd:=χ hn;clear hn z1)
 have Wy:qak (Nx (star (K.two s s) (star (Bx gx 43 ca) (Bx gn 40 [.int .u8 ik,.int .u8 ir,il,Zt,p0,p1,p2,p3,p4,p5,p6,p7,p8,p9]))) P w (w1.alloc (.cells #[.int .u8 k2,.int .u8 r2,l2,s2,q0,q1,q2,q3,q4,q5,q6,q7,q8,q9] 40))):=χ (Xd.out.later (XP.star (Zq K s s) (XP.star (ZA ..) (ZA ..))) (ZZ _ _))
 have HM:qak (Bk (w1.alloc (.cells #[.int .u8 k2,.int .u8 r2,l2,s2,q0,q1,q2,q3,q4,q5,q6,q7,q8,q9] 40)) w1.heap.size 40 [.int .u8 k2,.int .u8 r2,l2,s2,q0,q1,q2,q3,q4,q5,q6,q7,q8,q9]):=χ (Bk.new _ _ _)
 clear XG Xd sG
 generalize w1.alloc (.cells #[.int .u8 k2,.int .u8 r2,l2,s2,q0,q1,q2,q3,q4,q5,q6,q7,q8,q9] 40)=u3 at*
 generalize w1.heap.size=gm at*
 have z1:=HA1.out _ _ (cell1 Wy.out)
 have z3:=MN.out _ _ (cell1 Wy.out)
 subst he
 have m0:u3.cell? ⟨gm,0,none⟩=some (.int .u8 k2):=HM.out.cell 0
 have m1:u3.cell? ⟨gm,1,none⟩=some (.int .u8 r2):=HM.out.cell 1
 have n0:u3.cell? ⟨gn,0,none⟩=some (.int .u8 ik):=(Vv Wy.out).cell 0
 have n1:u3.cell? ⟨gn,1,none⟩=some (.int .u8 ir):=(Vv Wy.out).cell 1
 have f0:=(Vv Wy.out).frozen 0
 have f1:=(Vv Wy.out).frozen 1
 have wM:=χ (set2 (set2 Wy.out (Zq K s s) (ZA ..) 0 (.int .u8 k2)) (Zq K s s) (ZA ..) 1 (.int .u8 r2))
 go_upto_region 20 with fail
 go_region
 clear m0 m1 n0 n1 f0 f1 z1 z3
 have sF:qak (Nx (star (K.two s s) (star (Bx gx 43 ca) (Bx gn 40 [.int .u8 k2,.int .u8 r2,il,Zt,p0,p1,p2,p3,p4,p5,p6,p7,p8,p9]))) P w ((u3.setCell ⟨gn,0,none⟩ (.int .u8 k2)).setCell ⟨gn,1,none⟩ (.int .u8 r2)).drew):=χ (wM.out.later (XP.star (Zq K s s) (XP.star (ZA ..) (ZA ..))) (qam _ _).drew)
 clear Wy wM
 generalize ((u3.setCell ⟨gn,0,none⟩ (.int .u8 k2)).setCell ⟨gn,1,none⟩ (.int .u8 r2)).drew=u4 at*
 go_upto_region 21 with fail
 have NZ:=χ (sF.out.later (XP.star (Zq K s s) (XP.star (ZA ..) (ZA ..))) (qam _ u4).drew)
 have hS0:u4.drew.cell? ⟨gx,1,none⟩=some (.int .i64 at_)/\u4.drew.rangeAt gn 0 [.int .u8 k2,.int .u8 r2,il,Zt,p0,p1,p2,p3,p4,p5,p6,p7,p8,p9]:=⟨HA1.out _ _ (cell1 NZ.out),Yp (Vv NZ.out)⟩
 refine qai (S:=fun u=>u.cell? ⟨gx,1,none⟩=some (.int .i64 at_)/\u.rangeAt gn 0 [.int .u8 k2,.int .u8 r2,il,Zt,p0,p1,p2,p3,p4,p5,p6,p7,p8,p9]) (by kernel_rfl) hS0 (fun hHeld=>?_)
 clear sF hS0
 generalize hu0:u4.drew=mq at*
 clear hu0
 refine tk 0 ?_ (y:=.inl ⟨by rfl,?hya0⟩) (s:=by exact hHeld) (h:=?V4)
 case hya0=>(rintro u ⟨z1,zr⟩;clear zr;go_simp<;>with_reducible rfl)
 try simp only[qad,qaa,qab,qac]
 refine tk 1 ?_ (y:=.inl ⟨by rfl,?hya1⟩) (s:=by exact hHeld) (h:=?Wn)
 case hya1=>(rintro u ⟨z1,zr⟩;clear zr;go_simp<;>with_reducible rfl)
 try simp only[qad,qaa,qab,qac]
 refine tk 2 ?_ (y:=.inl ⟨by rfl,?hya2⟩) (s:=by exact hHeld) (h:=?Wm)
 case hya2=>(rintro u ⟨z1,zr⟩;clear zr;go_simp<;>with_reducible rfl)
 try simp only[qad,qaa,qab,qac]
 refine tk 3 _ (y:=(qaj (by rfl) 40 _ rfl gn 0 rfl [.int .u8 k2,.int .u8 r2,il,Zt,p0,p1,p2,p3,p4,p5,p6,p7,p8,p9] _ (fun u hu=>hu.2) Tryz.underlying40 rfl Zj)) (s:=by exact hHeld) (h:=?_)
 try simp only[qad,qaa,qab,qac]
 refine tk 5 ?_ (y:=.inl ⟨by rfl,?hya5⟩) (s:=by exact hHeld) (h:=?Vw)
 case hya5=>(rintro u ⟨z1,zr⟩;clear zr;go_simp<;>with_reducible rfl)
 try simp only[qad,qaa,qab,qac]
 refine tk 6 ?_ (y:=.inl ⟨by rfl,?hya6⟩) (s:=by exact hHeld) (h:=?Vg)
 case hya6=>(rintro u ⟨z1,zr⟩;clear zr;go_simp<;>with_reducible rfl)
 try simp only[qad,qaa,qab,qac]
 refine tk 7 ?_ (y:=.inl ⟨by rfl,?hya7⟩) (s:=by exact hHeld) (h:=?QQ)
 case hya7=>(rintro u ⟨z1,zr⟩;clear zr;go_simp<;>with_reducible rfl)
 try simp only[qad,qaa,qab,qac]
 refine tk 8 _ (y:=(qaj (by rfl) 40 _ rfl gn 0 rfl [.int .u8 k2,.int .u8 r2,il,Zt,p0,p1,p2,p3,p4,p5,p6,p7,p8,p9] _ (fun u hu=>hu.2) Tryz.underlying40 rfl Zj)) (s:=by exact hHeld) (h:=?_)
 try simp only[qad,qaa,qab,qac]
 refine rd 4 (h:=fun K_ hK=>?_)
 go_simp
 (with_reducible refine(lg.out _ NZ.out).mono ?_)
 rintro e w5 ⟨he,hn⟩;obtain rfl:=he
 have I9:=χ hn
 clear hn
 have hS:w5.cell? ⟨gx,1,none⟩=some (.int .i64 at_)/\w5.rangeAt gn 0 [.int .u8 k2,.int .u8 r2,il,Zt,p0,p1,p2,p3,p4,p5,p6,p7,p8,p9]:=⟨HA1.out _ _ (cell1 I9.out),Yp (Vv I9.out)⟩
 go_simp
 refine hK.out _ _ hS (fun Z4=>?_)
 clear hK K_ hHeld hS
 have hHeld:=Z4
 clear Z4
 try simp only[qad,qaa,qab,qac]
 refine rd 9 (h:=fun K_ hK=>?_)
 go_simp
 (with_reducible refine(kZ.out _ I9.out).mono ?_)
 rintro e w6 ⟨he,hn⟩;obtain rfl:=he
 have QP:=χ hn
 clear hn
 have hS:w6.cell? ⟨gx,1,none⟩=some (.int .i64 at_)/\w6.rangeAt gn 0 [.int .u8 k2,.int .u8 r2,il,Zt,p0,p1,p2,p3,p4,p5,p6,p7,p8,p9]:=⟨HA1.out _ _ (cell1 QP.out),Yp (Vv QP.out)⟩
 go_simp
 refine hK.out _ _ hS (fun Z4=>?_)
 clear hK K_ hHeld hS
 have hHeld:=Z4
 clear Z4
 try simp only[qad,qaa,qab,qac]
 refine tk 10 ?_ (y:=.inl ⟨by rfl,?hya10⟩) (s:=by exact hHeld) (h:=?UG)
 case hya10=>(rintro u ⟨z1,zr⟩;clear zr;go_simp<;>with_reducible rfl)
 try simp only[qad,qaa,qab,qac]
 refine tk 11 ?_ (y:=.inl ⟨by rfl,?hya11⟩) (s:=by exact hHeld) (h:=?Rf)
 case hya11=>(rintro u ⟨z1,zr⟩;clear zr;go_simp<;>with_reducible rfl)
 try simp only[qad,qaa,qab,qac]
 refine qal (by kernel_rfl) ?_ _
 clear hHeld
 go_wp2
 go_ret
 exact⟨rfl,QP.out.drop⟩
theorem vX(hp:XF K.j K.i K.g K.pp s)(h:K.two s s P w)(hb:Bd P w)(k:Nat)(at_:Int)(lab c:Nat)(A:Option Addr)(cap:Nat)(bb:List UInt8)(ik ir:Nat)(il Zt p0 p1 p2 p3 p4 p5 p6 p7 p8 p9:Int)(th:Nat)(hk:(k:Int)%13=5)(k2 r2:Nat)(l2 s2 q0 q1 q2 q3 q4 q5 q6 q7 q8 q9:Int)(hn:Z9.YS ⟨ik,ir,il,Zt,[p0,p1,p2,p3,p4,p5,p6,p7,p8,p9]⟩)(lb er:Nat)(hin:YV s at_=(⟨k2,r2,l2,s2,[q0,q1,q2,q3,q4,q5,q6,q7,q8,q9]⟩,lb,er))(he:er≠0):
  qah Tryz.prog 27 #[.pointer K.bv,.pointer K.bw,.agg (ZQ ⟨k,at_,lab,c,A,cap,bb,⟨ik,ir,il,Zt,[p0,p1,p2,p3,p4,p5,p6,p7,p8,p9]⟩,th⟩).toArray] w fun e w'=>e=.returned (.bool true)/\Nx (K.two (XY s at_ ⟨ik,ir,il,Zt,[p0,p1,p2,p3,p4,p5,p6,p7,p8,p9]⟩).1 (XY s at_ ⟨ik,ir,il,Zt,[p0,p1,p2,p3,p4,p5,p6,p7,p8,p9]⟩).1) P w w':=by
 have HN:qak (Nx (star (K.two s s) (Bx w.heap.size 43 (ZQ ⟨k,at_,lab,c,A,cap,bb,⟨ik,ir,il,Zt,[p0,p1,p2,p3,p4,p5,p6,p7,p8,p9]⟩,th⟩))) P w (w.alloc (.cells (ZQ ⟨k,at_,lab,c,A,cap,bb,⟨ik,ir,il,Zt,[p0,p1,p2,p3,p4,p5,p6,p7,p8,p9]⟩,th⟩).toArray 43))):=χ ((Nx.same h hb).box (Zq K s s) (ZQ ⟨k,at_,lab,c,A,cap,bb,⟨ik,ir,il,Zt,[p0,p1,p2,p3,p4,p5,p6,p7,p8,p9]⟩,th⟩) 43)
 have HZ:qak (∀(D:TL)(u:qag),Nx (star D (Bx w.heap.size 43 (ZQ ⟨k,at_,lab,c,A,cap,bb,⟨ik,ir,il,Zt,[p0,p1,p2,p3,p4,p5,p6,p7,p8,p9]⟩,th⟩))) P w u->u.cell? ⟨w.heap.size,0,none⟩=some (.int .u8 k)/\u.cell? ⟨w.heap.size,1,none⟩=some (.int .i64 at_)/\u.cell? ⟨w.heap.size,2,none⟩=some (.int .u16 lab)/\u.cell? ⟨w.heap.size,3,none⟩=some (.int .u8 c)/\u.cell? ⟨w.heap.size,4,none⟩=some (.slice A bb.length cap)/\u.cell? ⟨w.heap.size,5,none⟩=some (.int .u8 ik)/\u.cell? ⟨w.heap.size,6,none⟩=some (.int .u8 ir)/\u.cell? ⟨w.heap.size,7,none⟩=some (.int .i64 il)/\u.cell? ⟨w.heap.size,8,none⟩=some (.int .i64 Zt)/\u.cell? ⟨w.heap.size,9,none⟩=some (.int .i64 p0)/\u.cell? ⟨w.heap.size,10,none⟩=some (.int .i64 p1)/\u.cell? ⟨w.heap.size,11,none⟩=some (.int .i64 p2)/\u.cell? ⟨w.heap.size,12,none⟩=some (.int .i64 p3)/\u.cell? ⟨w.heap.size,13,none⟩=some (.int .i64 p4)/\u.cell? ⟨w.heap.size,14,none⟩=some (.int .i64 p5)/\u.cell? ⟨w.heap.size,15,none⟩=some (.int .i64 p6)/\u.cell? ⟨w.heap.size,16,none⟩=some (.int .i64 p7)/\u.cell? ⟨w.heap.size,17,none⟩=some (.int .i64 p8)/\u.cell? ⟨w.heap.size,18,none⟩=some (.int .i64 p9)):=χ (fun D u hu=>⟨hu.cell.cell 0,hu.cell.cell 1,hu.cell.cell 2,hu.cell.cell 3,hu.cell.cell 4,hu.cell.cell 5,hu.cell.cell 6,hu.cell.cell 7,hu.cell.cell 8,hu.cell.cell 9,hu.cell.cell 10,hu.cell.cell 11,hu.cell.cell 12,hu.cell.cell 13,hu.cell.cell 14,hu.cell.cell 15,hu.cell.cell 16,hu.cell.cell 17,hu.cell.cell 18⟩)
 have sG:qak (∀u:qag,Nx (star (K.two s s) (star (Bx w.heap.size 43 (ZQ ⟨k,at_,lab,c,A,cap,bb,⟨ik,ir,il,Zt,[p0,p1,p2,p3,p4,p5,p6,p7,p8,p9]⟩,th⟩)) (Bx (w.alloc (.cells (ZQ ⟨k,at_,lab,c,A,cap,bb,⟨ik,ir,il,Zt,[p0,p1,p2,p3,p4,p5,p6,p7,p8,p9]⟩,th⟩).toArray 43)).heap.size 40 [.int .u8 ik,.int .u8 ir,il,Zt,p0,p1,p2,p3,p4,p5,p6,p7,p8,p9]))) P w u->qah Tryz.prog 29 #[.pointer K.bw,at_] u fun e w'=>e=.returned (.tuple #[.agg #[.int .u8 k2,.int .u8 r2,l2,s2,q0,q1,q2,q3,q4,q5,q6,q7,q8,q9],.int .u16 lb,er])/\Nx (star (K.two s s) (star (Bx w.heap.size 43 (ZQ ⟨k,at_,lab,c,A,cap,bb,⟨ik,ir,il,Zt,[p0,p1,p2,p3,p4,p5,p6,p7,p8,p9]⟩,th⟩)) (Bx (w.alloc (.cells (ZQ ⟨k,at_,lab,c,A,cap,bb,⟨ik,ir,il,Zt,[p0,p1,p2,p3,p4,p5,p6,p7,p8,p9]⟩,th⟩).toArray 43)).heap.size 40 [.int .u8 ik,.int .u8 ir,il,Zt,p0,p1,p2,p3,p4,p5,p6,p7,p8,p9]))) P w w'):=χ (fun u hu=>WI (XP.star (ZA ..) (ZA ..)) hu (fun P1 h1 _=>by
  have:=MO h1 hp at_
  rw[hin]at this
  exact this))
 have lg:qak (∀u:qag,Nx (star (K.two s s) (star (Bx w.heap.size 43 (ZQ ⟨k,at_,lab,c,A,cap,bb,⟨ik,ir,il,Zt,[p0,p1,p2,p3,p4,p5,p6,p7,p8,p9]⟩,th⟩)) (Bx (w.alloc (.cells (ZQ ⟨k,at_,lab,c,A,cap,bb,⟨ik,ir,il,Zt,[p0,p1,p2,p3,p4,p5,p6,p7,p8,p9]⟩,th⟩).toArray 43)).heap.size 40 [.int .u8 ik,.int .u8 ir,il,Zt,p0,p1,p2,p3,p4,p5,p6,p7,p8,p9]))) P w u->qah Tryz.prog 45 #[.pointer K.bv,at_,.agg #[.int .u8 ik,.int .u8 ir,il,Zt,p0,p1,p2,p3,p4,p5,p6,p7,p8,p9]] u fun e w'=>e=.returned (.int .i64 ((XY s at_ ⟨ik,ir,il,Zt,[p0,p1,p2,p3,p4,p5,p6,p7,p8,p9]⟩).2:Int))/\Nx (star (K.two (XY s at_ ⟨ik,ir,il,Zt,[p0,p1,p2,p3,p4,p5,p6,p7,p8,p9]⟩).1 s) (star (Bx w.heap.size 43 (ZQ ⟨k,at_,lab,c,A,cap,bb,⟨ik,ir,il,Zt,[p0,p1,p2,p3,p4,p5,p6,p7,p8,p9]⟩,th⟩)) (Bx (w.alloc (.cells (ZQ ⟨k,at_,lab,c,A,cap,bb,⟨ik,ir,il,Zt,[p0,p1,p2,p3,p4,p5,p6,p7,p8,p9]⟩,th⟩).toArray 43)).heap.size 40 [.int .u8 ik,.int .u8 ir,il,Zt,p0,p1,p2,p3,p4,p5,p6,p7,p8,p9]))) P w w'):=χ (fun u hu=>Vh (XP.star (ZA ..) (ZA ..)) hu (fun P1 h1 _=>Ba h1 hp at_ ⟨ik,ir,il,Zt,[p0,p1,p2,p3,p4,p5,p6,p7,p8,p9]⟩ hn))
 have kZ:qak (∀u:qag,Nx (star (K.two (XY s at_ ⟨ik,ir,il,Zt,[p0,p1,p2,p3,p4,p5,p6,p7,p8,p9]⟩).1 s) (star (Bx w.heap.size 43 (ZQ ⟨k,at_,lab,c,A,cap,bb,⟨ik,ir,il,Zt,[p0,p1,p2,p3,p4,p5,p6,p7,p8,p9]⟩,th⟩)) (Bx (w.alloc (.cells (ZQ ⟨k,at_,lab,c,A,cap,bb,⟨ik,ir,il,Zt,[p0,p1,p2,p3,p4,p5,p6,p7,p8,p9]⟩,th⟩).toArray 43)).heap.size 40 [.int .u8 ik,.int .u8 ir,il,Zt,p0,p1,p2,p3,p4,p5,p6,p7,p8,p9]))) P w u->qah Tryz.prog 89 #[.pointer K.bw,at_,.agg #[.int .u8 ik,.int .u8 ir,il,Zt,p0,p1,p2,p3,p4,p5,p6,p7,p8,p9]] u fun e w'=>e=.returned (.int .i64 ((XY s at_ ⟨ik,ir,il,Zt,[p0,p1,p2,p3,p4,p5,p6,p7,p8,p9]⟩).2:Int))/\Nx (star (K.two (XY s at_ ⟨ik,ir,il,Zt,[p0,p1,p2,p3,p4,p5,p6,p7,p8,p9]⟩).1 (XY s at_ ⟨ik,ir,il,Zt,[p0,p1,p2,p3,p4,p5,p6,p7,p8,p9]⟩).1) (star (Bx w.heap.size 43 (ZQ ⟨k,at_,lab,c,A,cap,bb,⟨ik,ir,il,Zt,[p0,p1,p2,p3,p4,p5,p6,p7,p8,p9]⟩,th⟩)) (Bx (w.alloc (.cells (ZQ ⟨k,at_,lab,c,A,cap,bb,⟨ik,ir,il,Zt,[p0,p1,p2,p3,p4,p5,p6,p7,p8,p9]⟩,th⟩).toArray 43)).heap.size 40 [.int .u8 ik,.int .u8 ir,il,Zt,p0,p1,p2,p3,p4,p5,p6,p7,p8,p9]))) P w w'):=χ (fun u hu=>WI (XP.star (ZA ..) (ZA ..)) hu (fun P1 h1 _=>AZ h1 hp at_ ⟨ik,ir,il,Zt,[p0,p1,p2,p3,p4,p5,p6,p7,p8,p9]⟩ hn))
 generalize hsn:(XY s at_ ⟨ik,ir,il,Zt,[p0,p1,p2,p3,p4,p5,p6,p7,p8,p9]⟩)=R at*
 clear hsn
 have HGN:qak (w.heap.size<(w.alloc (.cells (ZQ ⟨k,at_,lab,c,A,cap,bb,⟨ik,ir,il,Zt,[p0,p1,p2,p3,p4,p5,p6,p7,p8,p9]⟩,th⟩).toArray 43)).heap.size):=χ (by simp)
 clear hp h hb hn hin
 obtain⟨z0,z1,z2,z3,z4,z5,z6,z7,z8,z9,X5,X4,z12,X3,kY,kX,kW,z17,kV⟩:=HZ.out _ _ HN.out
 have HA1:qak (∀(u:qag)(q:Nat),Bk u q 43 (ZQ ⟨k,at_,lab,c,A,cap,bb,⟨ik,ir,il,Zt,[p0,p1,p2,p3,p4,p5,p6,p7,p8,p9]⟩,th⟩)->u.cell? ⟨q,1,none⟩=some (.int .i64 at_)):=χ (fun u q hu=>hu.cell 1)
 have MN:qak (∀(u:qag)(q:Nat),Bk u q 43 (ZQ ⟨k,at_,lab,c,A,cap,bb,⟨ik,ir,il,Zt,[p0,p1,p2,p3,p4,p5,p6,p7,p8,p9]⟩,th⟩)->u.cell? ⟨q,3,none⟩=some (.int .u8 c)):=χ (fun u q hu=>hu.cell 3)
 clear HZ
 generalize (ZQ ⟨k,at_,lab,c,A,cap,bb,⟨ik,ir,il,Zt,[p0,p1,p2,p3,p4,p5,p6,p7,p8,p9]⟩,th⟩)=ca at*
 go_enter Tryz.func27,Tryz.ntmps27
 go_upto_region 1 with fail
 generalize w.alloc (.cells ca.toArray 43)=u0 at*
 generalize w.heap.size=gx at*
 go_upto_region 18 with fail
 have XG:qak (Nx (star (K.two s s) (star (Bx gx 43 ca) (Bx u0.heap.size 40 [.int .u8 ik,.int .u8 ir,il,Zt,p0,p1,p2,p3,p4,p5,p6,p7,p8,p9]))) P w (u0.alloc (.cells #[.int .u8 ik,.int .u8 ir,il,Zt,p0,p1,p2,p3,p4,p5,p6,p7,p8,p9] 40))):=χ ((HN.out.box (XP.star (Zq K s s) (ZA ..)) [.int .u8 ik,.int .u8 ir,il,Zt,p0,p1,p2,p3,p4,p5,p6,p7,p8,p9] 40).imp (fun _ h=>Wo h))
 clear HN z0 z1 z2 z3 z4 z5 z6 z7 z8 z9 X5 X4 z12 X3 kY kX kW z17 kV
 generalize u0.alloc (.cells #[.int .u8 ik,.int .u8 ir,il,Zt,p0,p1,p2,p3,p4,p5,p6,p7,p8,p9] 40)=u1 at*
 generalize u0.heap.size=gn at*
 have z1:=HA1.out _ _ (cell1 XG.out)
 go_upto_region 19 with(go_at_call 29;go_must (with_reducible refine(sG.out _ XG.out).mono ?_);rintro e w1 ⟨he,hn⟩;obtain rfl:=he;have Xd:=χ hn;clear hn z1)
 have Wy:qak (Nx (star (K.two s s) (star (Bx gx 43 ca) (Bx gn 40 [.int .u8 ik,.int .u8 ir,il,Zt,p0,p1,p2,p3,p4,p5,p6,p7,p8,p9]))) P w (w1.alloc (.cells #[.int .u8 k2,.int .u8 r2,l2,s2,q0,q1,q2,q3,q4,q5,q6,q7,q8,q9] 40))):=χ (Xd.out.later (XP.star (Zq K s s) (XP.star (ZA ..) (ZA ..))) (ZZ _ _))
 have HM:qak (Bk (w1.alloc (.cells #[.int .u8 k2,.int .u8 r2,l2,s2,q0,q1,q2,q3,q4,q5,q6,q7,q8,q9] 40)) w1.heap.size 40 [.int .u8 k2,.int .u8 r2,l2,s2,q0,q1,q2,q3,q4,q5,q6,q7,q8,q9]):=χ (Bk.new _ _ _)
 clear XG Xd sG
 generalize w1.alloc (.cells #[.int .u8 k2,.int .u8 r2,l2,s2,q0,q1,q2,q3,q4,q5,q6,q7,q8,q9] 40)=u3 at*
 generalize w1.heap.size=gm at*
 have z1:=HA1.out _ _ (cell1 Wy.out)
 have z3:=MN.out _ _ (cell1 Wy.out)
 have e1:((er:Int)==0)=false:=by simp;omega
 have e2:¬ (er:Int)=0:=by omega
 have sF:=Wy
 clear Wy he HM
 go_upto_region 21 with fail
 clear z1 z3
 have NZ:=χ (sF.out.later (XP.star (Zq K s s) (XP.star (ZA ..) (ZA ..))) (qam _ u3).drew)
 have hS0:u3.drew.cell? ⟨gx,1,none⟩=some (.int .i64 at_)/\u3.drew.rangeAt gn 0 [.int .u8 ik,.int .u8 ir,il,Zt,p0,p1,p2,p3,p4,p5,p6,p7,p8,p9]:=⟨HA1.out _ _ (cell1 NZ.out),Yp (Vv NZ.out)⟩
 refine qai (S:=fun u=>u.cell? ⟨gx,1,none⟩=some (.int .i64 at_)/\u.rangeAt gn 0 [.int .u8 ik,.int .u8 ir,il,Zt,p0,p1,p2,p3,p4,p5,p6,p7,p8,p9]) (by kernel_rfl) hS0 (fun hHeld=>?_)
 clear sF hS0
 generalize hu0:u3.drew=mq at*
 clear hu0
 refine tk 0 ?_ (y:=.inl ⟨by rfl,?hya0⟩) (s:=by exact hHeld) (h:=?V4)
 case hya0=>(rintro u ⟨z1,zr⟩;clear zr;go_simp<;>with_reducible rfl)
 try simp only[qad,qaa,qab,qac]
 refine tk 1 ?_ (y:=.inl ⟨by rfl,?hya1⟩) (s:=by exact hHeld) (h:=?Wn)
 case hya1=>(rintro u ⟨z1,zr⟩;clear zr;go_simp<;>with_reducible rfl)
 try simp only[qad,qaa,qab,qac]
 refine tk 2 ?_ (y:=.inl ⟨by rfl,?hya2⟩) (s:=by exact hHeld) (h:=?Wm)
 case hya2=>(rintro u ⟨z1,zr⟩;clear zr;go_simp<;>with_reducible rfl)
 try simp only[qad,qaa,qab,qac]
 refine tk 3 _ (y:=(qaj (by rfl) 40 _ rfl gn 0 rfl [.int .u8 ik,.int .u8 ir,il,Zt,p0,p1,p2,p3,p4,p5,p6,p7,p8,p9] _ (fun u hu=>hu.2) Tryz.underlying40 rfl Zj)) (s:=by exact hHeld) (h:=?_)
 try simp only[qad,qaa,qab,qac]
 refine tk 5 ?_ (y:=.inl ⟨by rfl,?hya5⟩) (s:=by exact hHeld) (h:=?Vw)
 case hya5=>(rintro u ⟨z1,zr⟩;clear zr;go_simp<;>with_reducible rfl)
 try simp only[qad,qaa,qab,qac]
 refine tk 6 ?_ (y:=.inl ⟨by rfl,?hya6⟩) (s:=by exact hHeld) (h:=?Vg)
 case hya6=>(rintro u ⟨z1,zr⟩;clear zr;go_simp<;>with_reducible rfl)
 try simp only[qad,qaa,qab,qac]
 refine tk 7 ?_ (y:=.inl ⟨by rfl,?hya7⟩) (s:=by exact hHeld) (h:=?QQ)
 case hya7=>(rintro u ⟨z1,zr⟩;clear zr;go_simp<;>with_reducible rfl)
 try simp only[qad,qaa,qab,qac]
 refine tk 8 _ (y:=(qaj (by rfl) 40 _ rfl gn 0 rfl [.int .u8 ik,.int .u8 ir,il,Zt,p0,p1,p2,p3,p4,p5,p6,p7,p8,p9] _ (fun u hu=>hu.2) Tryz.underlying40 rfl Zj)) (s:=by exact hHeld) (h:=?_)
 try simp only[qad,qaa,qab,qac]
 refine rd 4 (h:=fun K_ hK=>?_)
 go_simp
 (with_reducible refine(lg.out _ NZ.out).mono ?_)
 rintro e w5 ⟨he,hn⟩;obtain rfl:=he
 have I9:=χ hn
 clear hn
 have hS:w5.cell? ⟨gx,1,none⟩=some (.int .i64 at_)/\w5.rangeAt gn 0 [.int .u8 ik,.int .u8 ir,il,Zt,p0,p1,p2,p3,p4,p5,p6,p7,p8,p9]:=⟨HA1.out _ _ (cell1 I9.out),Yp (Vv I9.out)⟩
 go_simp
 refine hK.out _ _ hS (fun Z4=>?_)
 clear hK K_ hHeld hS
 have hHeld:=Z4
 clear Z4
 try simp only[qad,qaa,qab,qac]
 refine rd 9 (h:=fun K_ hK=>?_)
 go_simp
 (with_reducible refine(kZ.out _ I9.out).mono ?_)
 rintro e w6 ⟨he,hn⟩;obtain rfl:=he
 have QP:=χ hn
 clear hn
 have hS:w6.cell? ⟨gx,1,none⟩=some (.int .i64 at_)/\w6.rangeAt gn 0 [.int .u8 ik,.int .u8 ir,il,Zt,p0,p1,p2,p3,p4,p5,p6,p7,p8,p9]:=⟨HA1.out _ _ (cell1 QP.out),Yp (Vv QP.out)⟩
 go_simp
 refine hK.out _ _ hS (fun Z4=>?_)
 clear hK K_ hHeld hS
 have hHeld:=Z4
 clear Z4
 try simp only[qad,qaa,qab,qac]
 refine tk 10 ?_ (y:=.inl ⟨by rfl,?hya10⟩) (s:=by exact hHeld) (h:=?UG)
 case hya10=>(rintro u ⟨z1,zr⟩;clear zr;go_simp<;>with_reducible rfl)
 try simp only[qad,qaa,qab,qac]
 refine tk 11 ?_ (y:=.inl ⟨by rfl,?hya11⟩) (s:=by exact hHeld) (h:=?Rf)
 case hya11=>(rintro u ⟨z1,zr⟩;clear zr;go_simp<;>with_reducible rfl)
 try simp only[qad,qaa,qab,qac]
 refine qal (by kernel_rfl) ?_ _
 clear hHeld
 go_wp2
 go_ret
 exact⟨rfl,QP.out.drop⟩
theorem vY(hp:XF K.j K.i K.g K.pp s)(h:K.two s s P w)(hb:Bd P w)(k:Nat)(at_:Int)(lab c:Nat)(A:Option Addr)(cap:Nat)(bb:List UInt8)(ik ir:Nat)(il Zt p0 p1 p2 p3 p4 p5 p6 p7 p8 p9:Int)(th:Nat)(hk:(k:Int)%13=5)(k2 r2:Nat)(l2 s2 q0 q1 q2 q3 q4 q5 q6 q7 q8 q9:Int)(hn:Z9.YS ⟨ik,ir,il,Zt,[p0,p1,p2,p3,p4,p5,p6,p7,p8,p9]⟩)(lb er:Nat)(hin:YV s at_=(⟨k2,r2,l2,s2,[q0,q1,q2,q3,q4,q5,q6,q7,q8,q9]⟩,lb,er))(he:er=0)(hc2:((c:Int)%2==0)=false):
  qah Tryz.prog 27 #[.pointer K.bv,.pointer K.bw,.agg (ZQ ⟨k,at_,lab,c,A,cap,bb,⟨ik,ir,il,Zt,[p0,p1,p2,p3,p4,p5,p6,p7,p8,p9]⟩,th⟩).toArray] w fun e w'=>e=.returned (.bool true)/\Nx (K.two (XY s at_ ⟨ik,ir,il,Zt,[p0,p1,p2,p3,p4,p5,p6,p7,p8,p9]⟩).1 (XY s at_ ⟨ik,ir,il,Zt,[p0,p1,p2,p3,p4,p5,p6,p7,p8,p9]⟩).1) P w w':=by
 have HN:qak (Nx (star (K.two s s) (Bx w.heap.size 43 (ZQ ⟨k,at_,lab,c,A,cap,bb,⟨ik,ir,il,Zt,[p0,p1,p2,p3,p4,p5,p6,p7,p8,p9]⟩,th⟩))) P w (w.alloc (.cells (ZQ ⟨k,at_,lab,c,A,cap,bb,⟨ik,ir,il,Zt,[p0,p1,p2,p3,p4,p5,p6,p7,p8,p9]⟩,th⟩).toArray 43))):=χ ((Nx.same h hb).box (Zq K s s) (ZQ ⟨k,at_,lab,c,A,cap,bb,⟨ik,ir,il,Zt,[p0,p1,p2,p3,p4,p5,p6,p7,p8,p9]⟩,th⟩) 43)
 have HZ:qak (∀(D:TL)(u:qag),Nx (star D (Bx w.heap.size 43 (ZQ ⟨k,at_,lab,c,A,cap,bb,⟨ik,ir,il,Zt,[p0,p1,p2,p3,p4,p5,p6,p7,p8,p9]⟩,th⟩))) P w u->u.cell? ⟨w.heap.size,0,none⟩=some (.int .u8 k)/\u.cell? ⟨w.heap.size,1,none⟩=some (.int .i64 at_)/\u.cell? ⟨w.heap.size,2,none⟩=some (.int .u16 lab)/\u.cell? ⟨w.heap.size,3,none⟩=some (.int .u8 c)/\u.cell? ⟨w.heap.size,4,none⟩=some (.slice A bb.length cap)/\u.cell? ⟨w.heap.size,5,none⟩=some (.int .u8 ik)/\u.cell? ⟨w.heap.size,6,none⟩=some (.int .u8 ir)/\u.cell? ⟨w.heap.size,7,none⟩=some (.int .i64 il)/\u.cell? ⟨w.heap.size,8,none⟩=some (.int .i64 Zt)/\u.cell? ⟨w.heap.size,9,none⟩=some (.int .i64 p0)/\u.cell? ⟨w.heap.size,10,none⟩=some (.int .i64 p1)/\u.cell? ⟨w.heap.size,11,none⟩=some (.int .i64 p2)/\u.cell? ⟨w.heap.size,12,none⟩=some (.int .i64 p3)/\u.cell? ⟨w.heap.size,13,none⟩=some (.int .i64 p4)/\u.cell? ⟨w.heap.size,14,none⟩=some (.int .i64 p5)/\u.cell? ⟨w.heap.size,15,none⟩=some (.int .i64 p6)/\u.cell? ⟨w.heap.size,16,none⟩=some (.int .i64 p7)/\u.cell? ⟨w.heap.size,17,none⟩=some (.int .i64 p8)/\u.cell? ⟨w.heap.size,18,none⟩=some (.int .i64 p9)):=χ (fun D u hu=>⟨hu.cell.cell 0,hu.cell.cell 1,hu.cell.cell 2,hu.cell.cell 3,hu.cell.cell 4,hu.cell.cell 5,hu.cell.cell 6,hu.cell.cell 7,hu.cell.cell 8,hu.cell.cell 9,hu.cell.cell 10,hu.cell.cell 11,hu.cell.cell 12,hu.cell.cell 13,hu.cell.cell 14,hu.cell.cell 15,hu.cell.cell 16,hu.cell.cell 17,hu.cell.cell 18⟩)
 have sG:qak (∀u:qag,Nx (star (K.two s s) (star (Bx w.heap.size 43 (ZQ ⟨k,at_,lab,c,A,cap,bb,⟨ik,ir,il,Zt,[p0,p1,p2,p3,p4,p5,p6,p7,p8,p9]⟩,th⟩)) (Bx (w.alloc (.cells (ZQ ⟨k,at_,lab,c,A,cap,bb,⟨ik,ir,il,Zt,[p0,p1,p2,p3,p4,p5,p6,p7,p8,p9]⟩,th⟩).toArray 43)).heap.size 40 [.int .u8 ik,.int .u8 ir,il,Zt,p0,p1,p2,p3,p4,p5,p6,p7,p8,p9]))) P w u->qah Tryz.prog 29 #[.pointer K.bw,at_] u fun e w'=>e=.returned (.tuple #[.agg #[.int .u8 k2,.int .u8 r2,l2,s2,q0,q1,q2,q3,q4,q5,q6,q7,q8,q9],.int .u16 lb,er])/\Nx (star (K.two s s) (star (Bx w.heap.size 43 (ZQ ⟨k,at_,lab,c,A,cap,bb,⟨ik,ir,il,Zt,[p0,p1,p2,p3,p4,p5,p6,p7,p8,p9]⟩,th⟩)) (Bx (w.alloc (.cells (ZQ ⟨k,at_,lab,c,A,cap,bb,⟨ik,ir,il,Zt,[p0,p1,p2,p3,p4,p5,p6,p7,p8,p9]⟩,th⟩).toArray 43)).heap.size 40 [.int .u8 ik,.int .u8 ir,il,Zt,p0,p1,p2,p3,p4,p5,p6,p7,p8,p9]))) P w w'):=χ (fun u hu=>WI (XP.star (ZA ..) (ZA ..)) hu (fun P1 h1 _=>by
  have:=MO h1 hp at_
  rw[hin]at this
  exact this))
 have lg:qak (∀u:qag,Nx (star (K.two s s) (star (Bx w.heap.size 43 (ZQ ⟨k,at_,lab,c,A,cap,bb,⟨ik,ir,il,Zt,[p0,p1,p2,p3,p4,p5,p6,p7,p8,p9]⟩,th⟩)) (Bx (w.alloc (.cells (ZQ ⟨k,at_,lab,c,A,cap,bb,⟨ik,ir,il,Zt,[p0,p1,p2,p3,p4,p5,p6,p7,p8,p9]⟩,th⟩).toArray 43)).heap.size 40 [.int .u8 ik,.int .u8 ir,il,Zt,p0,p1,p2,p3,p4,p5,p6,p7,p8,p9]))) P w u->qah Tryz.prog 45 #[.pointer K.bv,at_,.agg #[.int .u8 ik,.int .u8 ir,il,Zt,p0,p1,p2,p3,p4,p5,p6,p7,p8,p9]] u fun e w'=>e=.returned (.int .i64 ((XY s at_ ⟨ik,ir,il,Zt,[p0,p1,p2,p3,p4,p5,p6,p7,p8,p9]⟩).2:Int))/\Nx (star (K.two (XY s at_ ⟨ik,ir,il,Zt,[p0,p1,p2,p3,p4,p5,p6,p7,p8,p9]⟩).1 s) (star (Bx w.heap.size 43 (ZQ ⟨k,at_,lab,c,A,cap,bb,⟨ik,ir,il,Zt,[p0,p1,p2,p3,p4,p5,p6,p7,p8,p9]⟩,th⟩)) (Bx (w.alloc (.cells (ZQ ⟨k,at_,lab,c,A,cap,bb,⟨ik,ir,il,Zt,[p0,p1,p2,p3,p4,p5,p6,p7,p8,p9]⟩,th⟩).toArray 43)).heap.size 40 [.int .u8 ik,.int .u8 ir,il,Zt,p0,p1,p2,p3,p4,p5,p6,p7,p8,p9]))) P w w'):=χ (fun u hu=>Vh (XP.star (ZA ..) (ZA ..)) hu (fun P1 h1 _=>Ba h1 hp at_ ⟨ik,ir,il,Zt,[p0,p1,p2,p3,p4,p5,p6,p7,p8,p9]⟩ hn))
 have kZ:qak (∀u:qag,Nx (star (K.two (XY s at_ ⟨ik,ir,il,Zt,[p0,p1,p2,p3,p4,p5,p6,p7,p8,p9]⟩).1 s) (star (Bx w.heap.size 43 (ZQ ⟨k,at_,lab,c,A,cap,bb,⟨ik,ir,il,Zt,[p0,p1,p2,p3,p4,p5,p6,p7,p8,p9]⟩,th⟩)) (Bx (w.alloc (.cells (ZQ ⟨k,at_,lab,c,A,cap,bb,⟨ik,ir,il,Zt,[p0,p1,p2,p3,p4,p5,p6,p7,p8,p9]⟩,th⟩).toArray 43)).heap.size 40 [.int .u8 ik,.int .u8 ir,il,Zt,p0,p1,p2,p3,p4,p5,p6,p7,p8,p9]))) P w u->qah Tryz.prog 89 #[.pointer K.bw,at_,.agg #[.int .u8 ik,.int .u8 ir,il,Zt,p0,p1,p2,p3,p4,p5,p6,p7,p8,p9]] u fun e w'=>e=.returned (.int .i64 ((XY s at_ ⟨ik,ir,il,Zt,[p0,p1,p2,p3,p4,p5,p6,p7,p8,p9]⟩).2:Int))/\Nx (star (K.two (XY s at_ ⟨ik,ir,il,Zt,[p0,p1,p2,p3,p4,p5,p6,p7,p8,p9]⟩).1 (XY s at_ ⟨ik,ir,il,Zt,[p0,p1,p2,p3,p4,p5,p6,p7,p8,p9]⟩).1) (star (Bx w.heap.size 43 (ZQ ⟨k,at_,lab,c,A,cap,bb,⟨ik,ir,il,Zt,[p0,p1,p2,p3,p4,p5,p6,p7,p8,p9]⟩,th⟩)) (Bx (w.alloc (.cells (ZQ ⟨k,at_,lab,c,A,cap,bb,⟨ik,ir,il,Zt,[p0,p1,p2,p3,p4,p5,p6,p7,p8,p9]⟩,th⟩).toArray 43)).heap.size 40 [.int .u8 ik,.int .u8 ir,il,Zt,p0,p1,p2,p3,p4,p5,p6,p7,p8,p9]))) P w w'):=χ (fun u hu=>WI (XP.star (ZA ..) (ZA ..)) hu (fun P1 h1 _=>AZ h1 hp at_ ⟨ik,ir,il,Zt,[p0,p1,p2,p3,p4,p5,p6,p7,p8,p9]⟩ hn))
 generalize hsn:(XY s at_ ⟨ik,ir,il,Zt,[p0,p1,p2,p3,p4,p5,p6,p7,p8,p9]⟩)=R at*
 clear hsn
 have HGN:qak (w.heap.size<(w.alloc (.cells (ZQ ⟨k,at_,lab,c,A,cap,bb,⟨ik,ir,il,Zt,[p0,p1,p2,p3,p4,p5,p6,p7,p8,p9]⟩,th⟩).toArray 43)).heap.size):=χ (by simp)
 clear hp h hb hn hin
 obtain⟨z0,z1,z2,z3,z4,z5,z6,z7,z8,z9,X5,X4,z12,X3,kY,kX,kW,z17,kV⟩:=HZ.out _ _ HN.out
 have HA1:qak (∀(u:qag)(q:Nat),Bk u q 43 (ZQ ⟨k,at_,lab,c,A,cap,bb,⟨ik,ir,il,Zt,[p0,p1,p2,p3,p4,p5,p6,p7,p8,p9]⟩,th⟩)->u.cell? ⟨q,1,none⟩=some (.int .i64 at_)):=χ (fun u q hu=>hu.cell 1)
 have MN:qak (∀(u:qag)(q:Nat),Bk u q 43 (ZQ ⟨k,at_,lab,c,A,cap,bb,⟨ik,ir,il,Zt,[p0,p1,p2,p3,p4,p5,p6,p7,p8,p9]⟩,th⟩)->u.cell? ⟨q,3,none⟩=some (.int .u8 c)):=χ (fun u q hu=>hu.cell 3)
 clear HZ
 generalize (ZQ ⟨k,at_,lab,c,A,cap,bb,⟨ik,ir,il,Zt,[p0,p1,p2,p3,p4,p5,p6,p7,p8,p9]⟩,th⟩)=ca at*
 go_enter Tryz.func27,Tryz.ntmps27
 go_upto_region 1 with fail
 generalize w.alloc (.cells ca.toArray 43)=u0 at*
 generalize w.heap.size=gx at*
 go_upto_region 18 with fail
 have XG:qak (Nx (star (K.two s s) (star (Bx gx 43 ca) (Bx u0.heap.size 40 [.int .u8 ik,.int .u8 ir,il,Zt,p0,p1,p2,p3,p4,p5,p6,p7,p8,p9]))) P w (u0.alloc (.cells #[.int .u8 ik,.int .u8 ir,il,Zt,p0,p1,p2,p3,p4,p5,p6,p7,p8,p9] 40))):=χ ((HN.out.box (XP.star (Zq K s s) (ZA ..)) [.int .u8 ik,.int .u8 ir,il,Zt,p0,p1,p2,p3,p4,p5,p6,p7,p8,p9] 40).imp (fun _ h=>Wo h))
 clear HN z0 z1 z2 z3 z4 z5 z6 z7 z8 z9 X5 X4 z12 X3 kY kX kW z17 kV
 generalize u0.alloc (.cells #[.int .u8 ik,.int .u8 ir,il,Zt,p0,p1,p2,p3,p4,p5,p6,p7,p8,p9] 40)=u1 at*
 generalize u0.heap.size=gn at*
 have z1:=HA1.out _ _ (cell1 XG.out)
 go_upto_region 19 with(go_at_call 29;go_must (with_reducible refine(sG.out _ XG.out).mono ?_);rintro e w1 ⟨he,hn⟩;obtain rfl:=he;have Xd:=χ hn;clear hn z1)
 have Wy:qak (Nx (star (K.two s s) (star (Bx gx 43 ca) (Bx gn 40 [.int .u8 ik,.int .u8 ir,il,Zt,p0,p1,p2,p3,p4,p5,p6,p7,p8,p9]))) P w (w1.alloc (.cells #[.int .u8 k2,.int .u8 r2,l2,s2,q0,q1,q2,q3,q4,q5,q6,q7,q8,q9] 40))):=χ (Xd.out.later (XP.star (Zq K s s) (XP.star (ZA ..) (ZA ..))) (ZZ _ _))
 have HM:qak (Bk (w1.alloc (.cells #[.int .u8 k2,.int .u8 r2,l2,s2,q0,q1,q2,q3,q4,q5,q6,q7,q8,q9] 40)) w1.heap.size 40 [.int .u8 k2,.int .u8 r2,l2,s2,q0,q1,q2,q3,q4,q5,q6,q7,q8,q9]):=χ (Bk.new _ _ _)
 clear XG Xd sG
 generalize w1.alloc (.cells #[.int .u8 k2,.int .u8 r2,l2,s2,q0,q1,q2,q3,q4,q5,q6,q7,q8,q9] 40)=u3 at*
 generalize w1.heap.size=gm at*
 have z1:=HA1.out _ _ (cell1 Wy.out)
 have z3:=MN.out _ _ (cell1 Wy.out)
 subst he
 have sF:=Wy
 clear Wy HM
 go_upto_region 21 with fail
 clear z1 z3
 have NZ:=χ (sF.out.later (XP.star (Zq K s s) (XP.star (ZA ..) (ZA ..))) (qam _ u3).drew)
 have hS0:u3.drew.cell? ⟨gx,1,none⟩=some (.int .i64 at_)/\u3.drew.rangeAt gn 0 [.int .u8 ik,.int .u8 ir,il,Zt,p0,p1,p2,p3,p4,p5,p6,p7,p8,p9]:=⟨HA1.out _ _ (cell1 NZ.out),Yp (Vv NZ.out)⟩
 refine qai (S:=fun u=>u.cell? ⟨gx,1,none⟩=some (.int .i64 at_)/\u.rangeAt gn 0 [.int .u8 ik,.int .u8 ir,il,Zt,p0,p1,p2,p3,p4,p5,p6,p7,p8,p9]) (by kernel_rfl) hS0 (fun hHeld=>?_)
 clear sF hS0
 generalize hu0:u3.drew=mq at*
 clear hu0
 refine tk 0 ?_ (y:=.inl ⟨by rfl,?hya0⟩) (s:=by exact hHeld) (h:=?V4)
 case hya0=>(rintro u ⟨z1,zr⟩;clear zr;go_simp<;>with_reducible rfl)
 try simp only[qad,qaa,qab,qac]
 refine tk 1 ?_ (y:=.inl ⟨by rfl,?hya1⟩) (s:=by exact hHeld) (h:=?Wn)
 case hya1=>(rintro u ⟨z1,zr⟩;clear zr;go_simp<;>with_reducible rfl)
 try simp only[qad,qaa,qab,qac]
 refine tk 2 ?_ (y:=.inl ⟨by rfl,?hya2⟩) (s:=by exact hHeld) (h:=?Wm)
 case hya2=>(rintro u ⟨z1,zr⟩;clear zr;go_simp<;>with_reducible rfl)
 try simp only[qad,qaa,qab,qac]
 refine tk 3 _ (y:=(qaj (by rfl) 40 _ rfl gn 0 rfl [.int .u8 ik,.int .u8 ir,il,Zt,p0,p1,p2,p3,p4,p5,p6,p7,p8,p9] _ (fun u hu=>hu.2) Tryz.underlying40 rfl Zj)) (s:=by exact hHeld) (h:=?_)
 try simp only[qad,qaa,qab,qac]
 refine tk 5 ?_ (y:=.inl ⟨by rfl,?hya5⟩) (s:=by exact hHeld) (h:=?Vw)
 case hya5=>(rintro u ⟨z1,zr⟩;clear zr;go_simp<;>with_reducible rfl)
 try simp only[qad,qaa,qab,qac]
 refine tk 6 ?_ (y:=.inl ⟨by rfl,?hya6⟩) (s:=by exact hHeld) (h:=?Vg)
 case hya6=>(rintro u ⟨z1,zr⟩;clear zr;go_simp<;>with_reducible rfl)
 try simp only[qad,qaa,qab,qac]
 refine tk 7 ?_ (y:=.inl ⟨by rfl,?hya7⟩) (s:=by exact hHeld) (h:=?QQ)
 case hya7=>(rintro u ⟨z1,zr⟩;clear zr;go_simp<;>with_reducible rfl)
 try simp only[qad,qaa,qab,qac]
 refine tk 8 _ (y:=(qaj (by rfl) 40 _ rfl gn 0 rfl [.int .u8 ik,.int .u8 ir,il,Zt,p0,p1,p2,p3,p4,p5,p6,p7,p8,p9] _ (fun u hu=>hu.2) Tryz.underlying40 rfl Zj)) (s:=by exact hHeld) (h:=?_)
 try simp only[qad,qaa,qab,qac]
 refine rd 4 (h:=fun K_ hK=>?_)
 go_simp
 (with_reducible refine(lg.out _ NZ.out).mono ?_)
 rintro e w5 ⟨he,hn⟩;obtain rfl:=he
 have I9:=χ hn
 clear hn
 have hS:w5.cell? ⟨gx,1,none⟩=some (.int .i64 at_)/\w5.rangeAt gn 0 [.int .u8 ik,.int .u8 ir,il,Zt,p0,p1,p2,p3,p4,p5,p6,p7,p8,p9]:=⟨HA1.out _ _ (cell1 I9.out),Yp (Vv I9.out)⟩
 go_simp
 refine hK.out _ _ hS (fun Z4=>?_)
 clear hK K_ hHeld hS
 have hHeld:=Z4
 clear Z4
 try simp only[qad,qaa,qab,qac]
 refine rd 9 (h:=fun K_ hK=>?_)
 go_simp
 (with_reducible refine(kZ.out _ I9.out).mono ?_)
 rintro e w6 ⟨he,hn⟩;obtain rfl:=he
 have QP:=χ hn
 clear hn
 have hS:w6.cell? ⟨gx,1,none⟩=some (.int .i64 at_)/\w6.rangeAt gn 0 [.int .u8 ik,.int .u8 ir,il,Zt,p0,p1,p2,p3,p4,p5,p6,p7,p8,p9]:=⟨HA1.out _ _ (cell1 QP.out),Yp (Vv QP.out)⟩
 go_simp
 refine hK.out _ _ hS (fun Z4=>?_)
 clear hK K_ hHeld hS
 have hHeld:=Z4
 clear Z4
 try simp only[qad,qaa,qab,qac]
 refine tk 10 ?_ (y:=.inl ⟨by rfl,?hya10⟩) (s:=by exact hHeld) (h:=?UG)
 case hya10=>(rintro u ⟨z1,zr⟩;clear zr;go_simp<;>with_reducible rfl)
 try simp only[qad,qaa,qab,qac]
 refine tk 11 ?_ (y:=.inl ⟨by rfl,?hya11⟩) (s:=by exact hHeld) (h:=?Rf)
 case hya11=>(rintro u ⟨z1,zr⟩;clear zr;go_simp<;>with_reducible rfl)
 try simp only[qad,qaa,qab,qac]
 refine qal (by kernel_rfl) ?_ _
 clear hHeld
 go_wp2
 go_ret
 exact⟨rfl,QP.out.drop⟩
end
end Go.Proofs.YtmehhgfbnfbnaaaGreat.Y7

namespace Go.Proofs.YtmehhgfbnfbnaaaGreat.Y7
open Go.RowKit Zc Meta Apart
section
variable {P:Nat->Prop}{w u:qag}{xs:List qao}{A C:TL}{e:TypeId}{n k c g:Nat}{v:qao}
def Ow(e:TypeId)(k:Nat)(v:qao)(n:Nat)(xs:List qao):TL:=fun P w=>w.ownsRow 0 e k v n xs/\∀i,P i↔v.ownBlock=some i
theorem IL(e:TypeId)(k:Nat)(v:qao)(n:Nat)(xs:List qao):XP (Ow e k v n xs):=⟨fun P w w' ⟨h1,h2⟩ hk _=>by
 refine⟨?_,h2⟩
 obtain⟨A,c,rfl,-⟩:=YR h1
 refine Xc (P:=P) h1 (fun a ha=>?_) hk
 obtain⟨g,o⟩:=a
 subst ha
 rcases h1.2 with⟨h4,_⟩|⟨q2,cap2,MR,h4,_,hc2,_⟩
 ·cases h4
 ·injection h4 with h4
  injection h4 with h4
  cases h4
  exact(h2 _).2 rfl⟩
theorem MQ(h:Nx (star A (star C (Ow e k v n xs))) P w u):u.ownsRow 0 e k v n xs:=by
 obtain⟨P',⟨P1,P2,-,⟨P3,P4,-,h2,-⟩,-,-⟩,-⟩:=h
 exact h2.1
theorem qD{u':qag}{base:Nat}(h:Nx A P w u)(hA:XP A)(hb:Below u.heap.size u u')(hv:u'.ownsRow base e k v n xs)(hbase:u.heap.size<=base):Nx (star A (Ow e k v n xs)) P w u':=
 h.step (fun P' h1 h2=>Nx.add hA h1 h2 hb ⟨fun i=>v.ownBlock=some i,⟨ZI hv (qap _),fun i=>Iff.rfl⟩,fun i hi=>by
  have:=hv.lt i hi
  omega⟩)
theorem qC(h:Ow e 1 (.slice g n c) n xs P w)(hb:Bd P w)(i:Nat)(v:qao):Nx (Ow e 1 (.slice g n c) n (xs.set i v)) P w (w.setCell ⟨g,i,none⟩ v):=by
 obtain⟨h1,h2⟩:=h
 have hs:(w.setCell ⟨g,i,none⟩ v).heap.size=w.heap.size:=by simp
 exact⟨P,⟨(h1.stored i v).1,h2⟩,Kept.Zb (ZT (qag.grownBy.refl w (some g)) i v) (fun k hk=>by cases hk;exact(h2 _).2 rfl),fun k hk=>⟨.inl hk,by rw[hs];exact hb k hk⟩⟩
theorem vV(h:Nx (star A (star C (Ow e 1 (.slice g n c) n xs))) P w u)(hA:XP A)(hC:XP C)(i:Nat)(v:qao):Nx (star A (star C (Ow e 1 (.slice g n c) n (xs.set i v)))) P w (u.setCell ⟨g,i,none⟩ v):=
 h.step (fun _ h1 h2=>Nx.right hA h1 h2 (fun _ h3 h4=>Nx.right hC h3 h4 (fun _ h5 h6=>qC h5 h6 i v)))
theorem MV{A:Option Addr}(h:Rd w w.heap.size A xs)(hk:Kept P w u)(hn:∀x,A=some x->¬ P x.block):Rd u u.heap.size A xs:=by
 rcases h with h0|⟨b,o,rfl,hb,hc⟩
 ·exact .inl h0
 ·exact .inr ⟨b,o,rfl,Nat.lt_of_lt_of_le hb hk.size,fun i x hx=>(qag.cell?_of_block (a:=⟨b,o+i,none⟩) (hk.block b hb (hn _ rfl))).trans (hc i x hx)⟩
theorem FI(h:Nx A P w u):Kept P w u:=by
 obtain⟨P',-,h2,-⟩:=h
 exact h2
theorem vW{K:VK}{s:PS}(Y8:VG K.j K.i K.g K.pp)(hp:XF K.j K.i K.g K.pp s)(h:K.two s s P w)(hb:Bd P w)(a:VA)(hk:(a.k:Int)%13=12)(hl:a.b.length<=200)(hrd:Rd w w.heap.size a.A (Z7 a.b))(hna:a.b=[]\/∀x,a.A=some x->¬ P x.block):
  qah Tryz.prog 27 #[.pointer K.bv,.pointer K.bw,.agg (ZQ a).toArray] w fun e w'=>e=.returned (.bool true)/\Nx (K.two (Za K.g K.pp s a.at_ a.b).1 (Za K.g K.pp s a.at_ a.b).1) P w w':=by
 have HN:qak (Nx (star (K.two s s) (Bx w.heap.size 43 (ZQ a))) P w (w.alloc (.cells (ZQ a).toArray 43))):=χ ((Nx.same h hb).box (Zq K s s) (ZQ a) 43)
 have HZ:qak (∀(u:qag)(q:Nat),Bk u q 43 (ZQ a)->u.cell? ⟨q,0,none⟩=some (.int .u8 a.k)/\u.cell? ⟨q,1,none⟩=some (.int .i64 a.at_)/\u.cell? ⟨q,4,none⟩=some (.slice a.A a.b.length a.cap)):=χ (fun u q hu=>⟨hu.cell 0,hu.cell 1,hu.cell 4⟩)
 have vU:qak (∀(D:TL)(u:qag),Nx D P w u->Rd u u.heap.size a.A (Z7 a.b)):=χ (fun D u hu=>hna.elim (fun h=>.inl (by rw[h];rfl)) (MV hrd (FI hu)))
 have iB:qak (∀(u:qag)(A2:Option Addr)(c2:Nat),Nx (star (K.two s s) (star (Bx w.heap.size 43 (ZQ a)) (Ow 5 1 (.slice A2 a.b.length c2) a.b.length (Z7 a.b)))) P w u->qah Tryz.prog 43 #[.pointer K.bv,a.at_,.slice A2 a.b.length c2] u fun e w'=>e=.returned (.int .i64 ((Za K.g K.pp s a.at_ a.b).2:Int))/\Nx (star (K.two (Za K.g K.pp s a.at_ a.b).1 s) (star (Bx w.heap.size 43 (ZQ a)) (Ow 5 1 (.slice A2 a.b.length c2) a.b.length (Z7 a.b)))) P w w'):=χ (fun u A2 c2 hu=>by
  have hr:=MP (MQ hu)
  exact Vh (XP.star (ZA ..) (IL ..)) hu (fun P1 h1 _=>MU Y8 h1 hp a.at_ _ _ _ _ rfl hr))
 have wN:qak (∀(u:qag)(A2:Option Addr)(c2:Nat),Nx (star (K.two (Za K.g K.pp s a.at_ a.b).1 s) (star (Bx w.heap.size 43 (ZQ a)) (Ow 5 1 (.slice A2 a.b.length c2) a.b.length (Z7 a.b)))) P w u->qah Tryz.prog 86 #[.pointer K.bw,a.at_,.slice a.A a.b.length a.cap] u fun e w'=>e=.returned (.int .i64 ((Za K.g K.pp s a.at_ a.b).2:Int))/\Nx (star (K.two (Za K.g K.pp s a.at_ a.b).1 (Za K.g K.pp s a.at_ a.b).1) (star (Bx w.heap.size 43 (ZQ a)) (Ow 5 1 (.slice A2 a.b.length c2) a.b.length (Z7 a.b)))) P w w'):=χ (fun u A2 c2 hu=>WI (XP.star (ZA ..) (IL ..)) hu (fun P1 h1 h2=>FH h1 h2 hp a.at_ _ _ _ _ rfl (hna.elim (fun h=>.inl (by rw[h];rfl)) (MV hrd (FI hu)))))
 generalize (Za K.g K.pp s a.at_ a.b)=R at*
 clear Y8 hp h hb hrd hna
 obtain⟨k,at_,lab,c,A,cap,bb,m,th⟩:=a
 simp only at hk HZ vU iB wN hl
 generalize (ZQ ⟨k,at_,lab,c,A,cap,bb,m,th⟩)=ca at*
 obtain⟨z0,z1,z4⟩:=HZ.out _ _ HN.out.cell
 go_enter Tryz.func27,Tryz.ntmps27
 go_upto_region 1 with fail
 generalize w.alloc (.cells ca.toArray 43)=u0 at*
 generalize w.heap.size=gx at*
 have ha1:=ZZ u0 (.cells #[] 5)
 have XG:=χ (HN.out.later (XP.star (Zq K s s) (ZA ..)) ha1)
 obtain⟨i0,hi,hz0,hz1,hz2⟩:=info_parts info5
 have hown:(u0.alloc (.cells #[] 5)).ownsRow u0.heap.size 5 1 (.slice u0.heap.size 0 0) 0 []:=(Bk.new u0 5 []).own 0 rfl (Nat.le_refl _) (qap _)
 obtain⟨v1,w1,hrun,hv1,hg1⟩:=VY (P:=Tryz.prog) (u0.alloc (.cells #[] 5)) u0.heap.size 37 37 5 i0 _ 1 Tryz.underlying37 hi hz0 hz1 hz2 rfl _ 0 _ hown _ A bb.length cap (Z7 bb) (by rw[Z5]) (vU.out _ _ XG.out) (YH _) (by simp only[maxLen];omega) (by omega) (by simp)
 have SN:=χ hrun
 have hbl:Below u0.heap.size u0 w1:=ha1.trans ((Kept.Zb (S:=(· =u0.heap.size)) hg1 (fun k hk=>by cases hk;rfl)).below (fun i hi=>by have hi:i=u0.heap.size:=hi;omega) ha1.size)
 rw[List.nil_append,Nat.zero_add]at hv1
 obtain⟨A2,c2,rfl,-⟩:=YR hv1
 have Xd:qak (Nx (star (K.two s s) (star (Bx gx 43 ca) (Ow 5 1 (.slice A2 bb.length c2) bb.length (Z7 bb)))) P w w1):=χ ((qD HN.out (XP.star (Zq K s s) (ZA ..)) hbl hv1 (Nat.le_refl _)).imp (fun _ h=>Wo h))
 obtain⟨y0,y1,y4⟩:=HZ.out _ _ XG.out.cell
 clear hrun hv1 hg1 hown hi hz0 hz1 hz2 ha1 XG hbl
 go_upto_region 23 with fail
 go_upto_region 24 with(refine Qh rfl (.tmp 155) (.tmp 157) 37 rfl (.slice u0.heap.size 0 0) (.slice A bb.length cap) rfl rfl (.slice A2 bb.length c2) w1 SN.out ?_)
 clear z0 z1 z4 y0 y1 y4 SN HN
 have NZ:=χ (Xd.out.later (XP.star (Zq K s s) (XP.star (ZA ..) (IL ..))) (qam _ w1).drew)
 obtain⟨y0,y1,y4⟩:=HZ.out _ _ (cell1 NZ.out)
 refine qai (S:=fun u=>u.cell? ⟨gx,1,none⟩=some (.int .i64 at_)/\u.cell? ⟨gx,4,none⟩=some (.slice A bb.length cap)) (by kernel_rfl) ⟨y1,y4⟩ (fun hHeld=>?_)
 clear Xd y0 y1 y4
 generalize hu0:w1.drew=mq at*
 clear hu0
 refine tk 0 ?_ (y:=.inl ⟨by rfl,?hya0⟩) (s:=by exact hHeld) (h:=?V4)
 case hya0=>(rintro u ⟨y1,y4⟩;go_simp<;>with_reducible rfl)
 try simp only[qad,qaa,qab,qac]
 refine tk 1 ?_ (y:=.inl ⟨by rfl,?hya1⟩) (s:=by exact hHeld) (h:=?Wn)
 case hya1=>(rintro u ⟨y1,y4⟩;go_simp<;>with_reducible rfl)
 try simp only[qad,qaa,qab,qac]
 refine tk 2 ?_ (y:=.inl ⟨by rfl,?hya2⟩) (s:=by exact hHeld) (h:=?Wm)
 case hya2=>(rintro u ⟨y1,y4⟩;go_simp<;>with_reducible rfl)
 try simp only[qad,qaa,qab,qac]
 refine tk 3 ?_ (y:=.inl ⟨by rfl,?hya3⟩) (s:=by exact hHeld) (h:=?Tp)
 case hya3=>(rintro u ⟨y1,y4⟩;go_simp<;>with_reducible rfl)
 try simp only[qad,qaa,qab,qac]
 refine tk 5 ?_ (y:=.inl ⟨by rfl,?hya5⟩) (s:=by exact hHeld) (h:=?Vw)
 case hya5=>(rintro u ⟨y1,y4⟩;go_simp<;>with_reducible rfl)
 try simp only[qad,qaa,qab,qac]
 refine tk 6 ?_ (y:=.inl ⟨by rfl,?hya6⟩) (s:=by exact hHeld) (h:=?Vg)
 case hya6=>(rintro u ⟨y1,y4⟩;go_simp<;>with_reducible rfl)
 try simp only[qad,qaa,qab,qac]
 refine tk 7 ?_ (y:=.inl ⟨by rfl,?hya7⟩) (s:=by exact hHeld) (h:=?QQ)
 case hya7=>(rintro u ⟨y1,y4⟩;go_simp<;>with_reducible rfl)
 try simp only[qad,qaa,qab,qac]
 refine tk 8 ?_ (y:=.inl ⟨by rfl,?hya8⟩) (s:=by exact hHeld) (h:=?RJ)
 case hya8=>(rintro u ⟨y1,y4⟩;go_simp<;>with_reducible rfl)
 try simp only[qad,qaa,qab,qac]
 refine tk 9 ?_ (y:=.inl ⟨by rfl,?hya9⟩) (s:=by exact hHeld) (h:=?Qg)
 case hya9=>(rintro u ⟨y1,y4⟩;go_simp<;>with_reducible rfl)
 try simp only[qad,qaa,qab,qac]
 refine rd 4 (h:=fun K_ hK=>?_)
 go_simp
 (with_reducible refine(iB.out _ _ _ NZ.out).mono ?_)
 rintro e w5 ⟨he,hn⟩;obtain rfl:=he
 have I9:=χ hn
 clear hn
 obtain⟨y0,y1,y4⟩:=HZ.out _ _ (cell1 I9.out)
 go_simp
 refine hK.out _ _ ⟨y1,y4⟩ (fun Z4=>?_)
 clear hK K_ hHeld y0 y1 y4
 have hHeld:=Z4
 clear Z4
 try simp only[qad,qaa,qab,qac]
 refine rd 10 (h:=fun K_ hK=>?_)
 go_simp
 (with_reducible refine(wN.out _ _ _ I9.out).mono ?_)
 rintro e w6 ⟨he,hn⟩;obtain rfl:=he
 have QP:=χ hn
 clear hn
 obtain⟨y0,y1,y4⟩:=HZ.out _ _ (cell1 QP.out)
 go_simp
 refine hK.out _ _ ⟨y1,y4⟩ (fun Z4=>?_)
 clear hK K_ hHeld y0 y1 y4
 have hHeld:=Z4
 clear Z4
 try simp only[qad,qaa,qab,qac]
 refine tk 11 ?_ (y:=.inl ⟨by rfl,?hya11⟩) (s:=by exact hHeld) (h:=?Rf)
 case hya11=>(rintro u ⟨y1,y4⟩;go_simp<;>with_reducible rfl)
 try simp only[qad,qaa,qab,qac]
 refine tk 12 ?_ (y:=.inl ⟨by rfl,?hya12⟩) (s:=by exact hHeld) (h:=?Qf)
 case hya12=>(rintro u ⟨y1,y4⟩;go_simp<;>with_reducible rfl)
 try simp only[qad,qaa,qab,qac]
 refine qal (by kernel_rfl) ?_ _
 clear hHeld
 obtain⟨y0,y1,y4⟩:=HZ.out _ _ (cell1 QP.out)
 clear y0 y1 y4
 go_upto_region 25 with fail
 have hrow:=MQ QP.out
 rcases hrow.2 with⟨hv0,hn0⟩|⟨g2,cap2,MR,hv0,-⟩
 ·have hA:=(qar hv0).1
  have hbl:=(qar hv0).2.1
  subst hA
  rw[hbl]at QP⊢
  clear hv0 hn0 hrow iB wN vU
  go_wp2
  go_loopw [21,173] (fun _ kc wr=>kc=.int .i64 0/\qak (wr=w6)) (fun _ _ _=>0)
  case atStart=>exact⟨rfl,χ rfl⟩
  case round=>
   obtain⟨rfl,HW⟩:=hrel
   have hw:=HW.out
   subst hw
   go_wp2
   go_ret
   exact⟨rfl,QP.out.drop⟩
 ·have hA:=(qar hv0).1
  subst hA
  clear hv0 hrow iB wN vU
  go_wp2
  go_loopw [21,173] (fun _ kc wr=>∃q:Nat,kc=.int .i64 q/\q<=bb.length/\qak (∃xs:List UInt8,xs.length=bb.length/\Nx (star (K.two R.1 R.1) (star (Bx gx 43 ca) (Ow 5 1 (.slice g2 bb.length c2) bb.length (Z7 xs)))) P w wr)) (fun _ kc _=>bb.length-(intOf kc).toNat)
  case atStart=>exact⟨0,rfl,qap _,χ ⟨bb,rfl,QP.out⟩⟩
  case round=>
   clear QP
   obtain⟨q,rfl,hq,HX⟩:=hrel
   obtain⟨xs,hxl,hN⟩:=HX.out
   have QP:=χ hN
   have fK:=χ hxl
   clear HX hN hxl
   by_cases hlt:q<bb.length
   ·have Wz:(q:Int)<(bb.length:Int):=by omega
    have h00:(0:Int)<=(q:Int):=by omega
    have hwk:IntKind.i64.wrap ((q:Int)+1)=((q+1:Nat):Int):=by rw[IntKind.wrap_i64];omega
    obtain⟨x,hx⟩:∃x,xs[q]? =some x:=⟨_,qan (by rw[fK.out];exact hlt)⟩
    have hcell:wr.cell? ⟨g2,q,none⟩=some (.int .u8 x.toNat):=by
     have:=(MQ QP.out).cellAt q (by omega)
     rw[this]
     unfold Z7
     rw[List.getElem?_map,hx]
     rfl
    have hfz:=(MQ QP.out).frozenAt q
    have abm:=qB x
    have HN7:qak (∃xs:List UInt8,xs.length=bb.length/\Nx (star (K.two R.1 R.1) (star (Bx gx 43 ca) (Ow 5 1 (.slice g2 bb.length c2) bb.length (Z7 xs)))) P w (wr.setCell ⟨g2,q,none⟩ (.int .u8 ((x.toNat^^^85:Nat):Int)))):=χ ⟨xs.set q (x^^^85),by rw[List.length_set];exact fK.out,by
     rw[<-show(x^^^85).toNat=x.toNat^^^85 from UInt8.toNat_xor x 85]
     have:=vV QP.out (Zq K R.1 R.1) (ZA ..) q (.int .u8 ((x^^^85).toNat:Int))
     rwa[NY]at this⟩
    clear hx QP fK
    go_wp2
    generalize wr.setCell ⟨g2,q,none⟩ (.int .u8 ((x.toNat^^^85:Nat):Int))=w9 at*
    go_roundw
    case rel=>exact⟨q+1,by first|rfl|(congr 1),hlt,HN7⟩
    case measure=>simp[intOf];omega
   ·obtain rfl:q=bb.length:=by omega
    go_wp2
    go_ret
    exact⟨rfl,QP.out.drop⟩
end
end Go.Proofs.YtmehhgfbnfbnaaaGreat.Y7

namespace Go.Proofs.YtmehhgfbnfbnaaaGreat.Y7
open Go.RowKit Zc Meta Apart
section
variable {s:PS}{K:VK}{w:qag}{j i g pp:Nat}{a:VA}{P:Nat->Prop}
def asked(s:PS)(a:VA):Z9.Zz:=if (YV s a.at_).2.2=0/\a.c%2=0 then{a.m with k:=(YV s a.at_).1.k,r:=(YV s a.at_).1.r}else a.m
noncomputable def Qj(g pp:Nat)(s:PS)(a:VA):PS:=
 match a.k%13 with
 |0=>(ZC pp s a.lab).1
 |1=>(Xe g pp s a.at_).1
 |2=>(Za g pp s a.at_ (qae 64 (qaf a.c))).1
 |3=>(Y5 s a.c a.lab).1
 |4=>(YF s a.at_).1
 |5=>(XY s a.at_ (asked s a)).1
 |12=>(Za g pp s a.at_ a.b).1
 |_=>s
theorem N7(hp:XF j i g pp s)(hm:Z9.YS a.m):Z9.YS (asked s a):=by
 unfold asked
 have h:=KX hp a.at_
 split
 ·exact⟨hm.len,h.k,h.r⟩
 ·exact hm
theorem XF.does (hp:XF j i g pp s)(hl:a.lab<65536)(hm:Z9.YS a.m):XF j i g pp (Qj g pp s a):=by
 unfold Qj
 split
 ·exact hp.alloc hl
 ·exact hp.free _
 ·exact hp.write _ _
 ·exact hp.make _ _ hl
 ·exact(hp.IM _).1
 ·exact hp.set _ _ (N7 hp hm)
 ·exact hp.write _ _
 ·exact hp
theorem Ef(h:K.two s s P w)(hb:Bd P w)(a:VA)(r:Nat)(hk:(a.k:Int)%13=(r:Int))(hr:6<=r/\r<=11):
  qah Tryz.prog 27 #[.pointer K.bv,.pointer K.bw,.agg (ZQ a).toArray] w fun e w'=>e=.returned (.bool true)/\Nx (K.two s s) P w w':=by
 have HN:qak (Nx (K.two s s) P w (w.alloc (.cells (ZQ a).toArray 43))):=χ (Nx.below h (Zq K s s) hb (ZZ _ _))
 have z0:(w.alloc (.cells (ZQ a).toArray 43)).cell? ⟨w.heap.size,0,none⟩=some (.int .u8 a.k):=(Bk.new w 43 (ZQ a)).cell 0
 have e0:((r:Int)==0)=false:=by simp;omega
 have e1:((r:Int)==1)=false:=by simp;omega
 have e2:((r:Int)==2)=false:=by simp;omega
 have e3:((r:Int)==3)=false:=by simp;omega
 have e4:((r:Int)==4)=false:=by simp;omega
 have e5:((r:Int)==5)=false:=by simp;omega
 have e6:((r:Int)==12)=false:=by simp;omega
 have f0:¬ (r:Int)=0:=by omega
 have f1:¬ (r:Int)=1:=by omega
 have f2:¬ (r:Int)=2:=by omega
 have f3:¬ (r:Int)=3:=by omega
 have f4:¬ (r:Int)=4:=by omega
 have f5:¬ (r:Int)=5:=by omega
 have f6:¬ (r:Int)=12:=by omega
 clear h hb hr
 obtain⟨k,at_,lab,c,A,cap,bb,m,th⟩:=a
 simp only at hk z0
 generalize (ZQ ⟨k,at_,lab,c,A,cap,bb,m,th⟩)=ca at*
 go_enter Tryz.func27,Tryz.ntmps27
 go_upto_region 1 with fail
 generalize w.alloc (.cells ca.toArray 43)=u0 at*
 go_wp2
 go_ret
 exact⟨rfl,HN.out⟩
theorem Bb(Y8:VG K.j K.i K.g K.pp)(hp:XF K.j K.i K.g K.pp s)(h:K.two s s P w)(hb:Bd P w)(a:VA)(hc:a.c<256)(hm:Z9.YS a.m)(hl:a.b.length<=200)(hrd:Rd w w.heap.size a.A (Z7 a.b))(hna:a.b=[]\/∀x,a.A=some x->¬ P x.block):
  qah Tryz.prog 27 #[.pointer K.bv,.pointer K.bw,.agg (ZQ a).toArray] w fun e w'=>e=.returned (.bool true)/\Nx (K.two (Qj K.g K.pp s a) (Qj K.g K.pp s a)) P w w':=by
 have hi:∀r:Nat,a.k%13=r->(a.k:Int)%13=(r:Int):=fun r h=>by omega
 have hlt:a.k%13<13:=Nat.mod_lt _ (by decide)
 unfold Qj
 split
 ·next hk=>exact qI Y8 hp h hb a hc (hi 0 hk)
 ·next hk=>exact qH Y8 hp h hb a hc (hi 1 hk)
 ·next hk=>exact qG Y8 hp h hb a hc (hi 2 hk)
 ·next hk=>exact qF Y8 hp h hb a hc (hi 3 hk)
 ·next hk=>exact qE Y8 hp h hb a hc (hi 4 hk)
 ·next hk=>
  have hk5:=hi 5 hk
  have hok:=KX hp a.at_
  have hao:=N7 hp (a:=a) hm
  unfold asked at hao⊢
  obtain⟨k,at_,lab,c,A,cap,bb,⟨ik,ir,il,iz,p⟩,th⟩:=a
  simp only at hm hk5 hok hc hao⊢
  obtain⟨p0,p1,p2,p3,p4,p5,p6,p7,p8,p9,Qi⟩:=Z9.XI hm.len
  simp only at Qi
  subst Qi
  obtain⟨⟨⟨k2,r2,l2,s2,q⟩,lb,er⟩,hin⟩:∃R,YV s at_=R:=⟨_,rfl⟩
  rw[hin]at hok hao⊢
  simp only at hok hao⊢
  obtain⟨q0,q1,q2,q3,q4,q5,q6,q7,q8,q9,lh⟩:=Z9.XI hok.len
  simp only at lh
  subst lh
  by_cases he:er=0
  ·by_cases hc2:c%2=0
   ·rw[if_pos ⟨he,hc2⟩]at hao⊢
    exact vZ hp h hb k at_ lab c A cap bb ik ir il iz p0 p1 p2 p3 p4 p5 p6 p7 p8 p9 th hk5 k2 r2 l2 s2 q0 q1 q2 q3 q4 q5 q6 q7 q8 q9 hao lb er hin he (by omega)
   ·rw[if_neg (fun e=>hc2 e.2)]
    exact vY hp h hb k at_ lab c A cap bb ik ir il iz p0 p1 p2 p3 p4 p5 p6 p7 p8 p9 th hk5 k2 r2 l2 s2 q0 q1 q2 q3 q4 q5 q6 q7 q8 q9 hm lb er hin he (by simp;omega)
  ·rw[if_neg (fun e=>he e.1)]
   exact vX hp h hb k at_ lab c A cap bb ik ir il iz p0 p1 p2 p3 p4 p5 p6 p7 p8 p9 th hk5 k2 r2 l2 s2 q0 q1 q2 q3 q4 q5 q6 q7 q8 q9 hm lb er hin he
 ·next hk=>exact vW Y8 hp h hb a (hi 12 hk) hl hrd hna
 ·next h0 h1 h2 h3 h4 h5 h12=>
  have g0:a.k%13≠0:=h0
  have g1:a.k%13≠1:=h1
  have g2:a.k%13≠2:=h2
  have g3:a.k%13≠3:=h3
  have g4:a.k%13≠4:=h4
  have g5:a.k%13≠5:=h5
  have g12:a.k%13≠12:=h12
  exact Ef h hb a (a.k%13) (hi _ rfl) (by omega)
theorem Bh{E:TL}{B:Nat}(Y8:VG K.j K.i K.g K.pp)(hp:XF K.j K.i K.g K.pp s)(hE:XP E)(h:Now B (star (K.two s s) E) w)(hB:B<=w.heap.size)(a:VA)(hc:a.c<256)(hm:Z9.YS a.m)(hl:a.b.length<=200)(hrd:Rd w w.heap.size a.A (Z7 a.b))(hna:a.b=[]\/∀x,a.A=some x->x.block<B):
  qah Tryz.prog 27 #[.pointer K.bv,.pointer K.bw,.agg (ZQ a).toArray] w fun e w'=>e=.returned (.bool true)/\Now B (star (K.two (Qj K.g K.pp s a) (Qj K.g K.pp s a)) E) w'/\Below B w w':=by
 have h':Now B (star (fun Q u=>K.two s s Q u/\∀i,Q i->B<=i) E) w:=by
  obtain⟨P,⟨P1,P2,h1,h2,h3,h4⟩,h5⟩:=h
  exact⟨P,⟨P1,P2,⟨h1,fun i hi=>(h5 i ((h3 i).2 (.inl hi))).1⟩,h2,h3,h4⟩,h5⟩
 exact Now.call h' hB (fun P h1 h2=>XO hE h1 h2 (fun P1 h3 h4=>Bb Y8 hp h3.1 h4 a hc hm hl hrd (hna.imp id (fun hna x hx hP=>by
  have:=hna x hx
  have:=h3.2 _ hP
  omega))))
end
end Go.Proofs.YtmehhgfbnfbnaaaGreat.Y7

namespace Go.Proofs.YtmehhgfbnfbnaaaGreat.Y7
open Go.RowKit Zc Meta Apart Go.ChangeShapes Go.WideShapes Go.ChangeAt Go.Deep Go.Joins
def SS(l:List VA):List qao:=l.flatMap ZQ
section
variable {H:Type}{enc:TypeId × qao->H}{W:qag}
theorem En{base:Nat}{v:qao}{d:DataW H}{p:List MemPlace}(hval:qao.okWide Tryz.prog W .any base 22 v)(h:DataW.Trod enc Tryz.prog W 0 (fun _=>true) true 22 v d p)(hlt:∀x∈p,x.block<W.heap.size):
  ∃(A:Option Addr)(n c:Nat)(l:List VA),v=.slice A n c/\l.length=n/\n<=c/\c<=maxLen/\Rd W W.heap.size A (SS l)/\(∀x∈l,Eo W x):=by
 obtain⟨a1,len,cap,rfl⟩:=okWide_slice Tryz.underlying22 hval
 obtain⟨fuel,hf⟩:=h
 obtain⟨A,n,c,l,h1,h2,h3,h4,h5,h6,_⟩:=open_list Tryz.underlying22 qK (by omega) ZQ .z (Eo W) (fun fuel cs d p hcl hl h=>wu fuel cs d p hcl hl h) hf hlt
 exact⟨A,n,c,l,h1,h2,h3,h4,h5,h6⟩
end
section
variable {W w:qag}{i q B j g pp:Nat}{a:VA}{l:List VA}{s:PS}
theorem QF(h:Eo W a):(ZQ a).length=20:=by
 unfold ZQ
 rw[qaq,qaq,Z9.Y4 h.m]
 rfl
theorem wB(a:VA):∀v∈ZQ a,v.oneCell'=true:=by
 intro v hv
 unfold ZQ at hv
 simp only[List.mem_append,List.mem_cons,List.mem_nil_iff,or_false]at hv
 rcases hv with((rfl|rfl|rfl|rfl|rfl)|hv)|rfl
 ·rfl
 ·rfl
 ·rfl
 ·rfl
 ·rfl
 ·exact XW _ _ hv
 ·rfl
theorem Ri(h:∀x∈l,Eo W x):(SS l).length=l.length*20:=by
 induction l with
 |nil=>rfl
 |cons a l ih=>
  have h1:=QF (h a (by simp))
  have h2:=ih (fun x hx=>h x (by simp[hx]))
  unfold SS at h2⊢
  rw[List.flatMap_cons,qaq,h1,h2,List.length_cons]
  omega
theorem wh(h:∀x∈l,Eo W x)(hi:l[i]? =some a){u:qao}(hu:(ZQ a)[q]? =some u):(SS l)[i*20+q]? =some u:=by
 induction l generalizing i with
 |nil=>simp at hi
 |cons b l ih=>
  have h1:=QF (h b (by simp))
  have h2:=fun(i:Nat) (hi:l[i]? =some a)=>ih (fun x hx=>h x (by simp[hx])) (i:=i) hi
  unfold SS at h2⊢
  rw[List.flatMap_cons]
  cases i with
  |zero=>
   simp only[List.getElem?_cons_zero,Option.some.injEq]at hi
   subst hi
   have:=(List.getElem?_eq_some_iff.1 hu).1
   rw[Nat.zero_mul,Nat.zero_add,List.getElem?_append_left (by omega)]
   exact hu
  |succ i=>
   simp only[List.getElem?_cons_succ]at hi
   rw[List.getElem?_append_right (by omega),h1]
   have:=h2 i hi
   rw[show(i+1)*20+q-20=i*20+q by omega]
   exact this
theorem Bi{b o:Nat}(hr:Rd w B (some ⟨b,o,none⟩) (SS l))(h:∀x∈l,Eo W x)(hi:l[i]? =some a):w.rangeAt b (o+i*20) (ZQ a):=fun q u hu=>by
 have h1:=wh h hi hu
 rcases hr with h0|⟨b9,o9,h9,-,h11⟩
 ·rw[h0]at h1;simp at h1
 ·cases h9
  have:=h11 _ _ h1
  rwa[show o+(i*20+q)=o+i*20+q by omega]at this
theorem wC(l:List VA)(A:Option Addr)(n c:Nat)(w:qag)(hn:l.length=n)(hc:n<=c)(hr:Rd w w.heap.size A (SS l))(ho:∀x∈l,Eo W x):
  qah Tryz.prog 20 #[.slice A n c] w fun e w'=>∃m,e=.returned (.slice A m c)/\w=w'/\m<=n/\m<=100/\∀q x,q<m->l[q]? =some x->x.b.length<=200:=by
 have Hn:=χ hn
 have Hr:=χ hr
 have HO:=χ ho
 clear hn hr ho
 go_enter Tryz.func20,Tryz.ntmps20
 go_wp2
 go_loopw [3,6] (fun _ kc wr=>∃k:Nat,kc=.int .i64 k/\k<=n/\k<=100/\wr=w/\qak (∀q x,q<k->l[q]? =some x->x.b.length<=200)) (fun _ kc _=>n-(intOf kc).toNat)
 case atStart=>exact⟨0,rfl,qap _,qap _,rfl,χ (fun q x hq=>by omega)⟩
 case round=>
  obtain⟨k,rfl,hk,hk1,hw,UJ⟩:=hrel
  subst hw
  by_cases hlt:k<n
  ·obtain⟨a,ha⟩:∃a,l[k]? =some a:=⟨_,qan (by rw[Hn.out];exact hlt)⟩
   obtain⟨b,o,hA,hb⟩:=Y3 Hr.out (by rw[Ri HO.out,Hn.out];omega)
   have HAA:=χ hA
   subst hA
   have z4:=Bi Hr.out HO.out ha 4 _ (show(ZQ a)[4]? =some (.slice a.A a.b.length a.cap)from rfl)
   have HA:=χ ha
   have Wz:(k:Int)<(n:Int):=by omega
   have h00:(0:Int)<=(k:Int):=by omega
   have hwk:IntKind.i64.wrap ((k:Int)+1)=((k+1:Nat):Int):=by rw[IntKind.wrap_i64];omega
   clear ha
   by_cases qJ:k=100
   ·have e1:(100:Int)<=(k:Int):=by omega
    have hkc:(k:Int)<=(c:Int):=by omega
    have HR:qak (∀q x,q<k->l[q]? =some x->x.b.length<=200):=UJ
    have HK:=χ (And.intro hk hk1)
    clear UJ qJ
    go_wp2
    go_ret
    exact⟨k,rfl,rfl,HK.out.1,HK.out.2,HR.out⟩
   ·have e1:¬ (100:Int)<=(k:Int):=by omega
    by_cases hbl:a.b.length<=200
    ·have e2:¬ (200:Int)<(a.b.length:Int):=by omega
     have Vj:qak (∀q x,q<k+1->l[q]? =some x->x.b.length<=200):=χ (fun q x hq hx=>by
      rcases Nat.lt_or_ge q k with h|h
      ·exact UJ.out q x h hx
      ·obtain rfl:q=k:=by omega
       rw[HA.out]at hx
       cases hx
       exact hbl)
     have hk2:k+1<=100:=by omega
     clear qJ UJ hbl
     go_wp2
     go_roundw
     case rel=>exact⟨k+1,by first|rfl|(congr 1),hlt,hk2,by first|trivial|rfl,Vj⟩
     case measure=>simp[intOf];omega
    ·have e2:(200:Int)<(a.b.length:Int):=by omega
     have hkc:(k:Int)<=(c:Int):=by omega
     have HR:qak (∀q x,q<k->l[q]? =some x->x.b.length<=200):=UJ
     have HK:=χ (And.intro hk hk1)
     clear UJ qJ hbl
     go_wp2
     go_ret
     exact⟨k,rfl,rfl,HK.out.1,HK.out.2,HR.out⟩
  ·obtain rfl:k=n:=by omega
   go_wp2
   go_ret
   exact⟨k,rfl,rfl,Nat.le_refl _,hk1,UJ.out⟩
def Holds(j i N:Nat)(base:Nat->List UInt8)(k:Dk Sx):Prop:=k.dead=false/\∀a,a<N->∃cy,k.now[Vy j i+a]? =some cy/\cy.b=base a
theorem Bg{K:VK}{t:PS}{F n:Nat}{k:Dk Sx}(Y8:VG K.j K.i K.g K.pp)(hh:Holds K.j K.i (K.g*K.pp) K.base k)(h:Now B (star (K.two s t) (Dl F n q K.b K.bj k)) w)(hdl:s.D.length=K.g*K.pp)(a:Nat)(ha:a<K.g*K.pp):
  qah Tryz.prog 36 #[.pointer K.bv,a] w fun e w'=>∃gc bb,e=.returned (.tuple #[.slice (some ⟨gc,0,none⟩) 64 64,()])/\s.B[a]? =some bb/\bb.length=64/\Rd w' w'.heap.size (some ⟨gc,0,none⟩) (Z7 bb)/\Below w.heap.size w w'/\w.heap.size<=gc:=by
 obtain⟨P,⟨P1,P2,⟨P3,P4,⟨x,at_,there,m,h1,h2,h3,h4⟩,-,-,-⟩,⟨S,hS,-⟩,-,-⟩,-⟩:=h
 have hv:=VM.start h1 h2 h3
 obtain⟨d,hd⟩:∃d,s.D[a]? =some d:=⟨_,qan (by omega)⟩
 cases d with
 |some tg=>
  obtain⟨e1,e2,-⟩:=h4.dir a tg hd
  refine(IU Y8 hv a ha e1).mono ?_
  rintro e w' ⟨gc,he,hr,-,hb,hg⟩
  exact⟨gc,_,he,e2,(at_ (a:Int)).hb,hr,hb,hg⟩
 |none=>
  obtain⟨e1,e2⟩:=h4.lq a hd
  obtain⟨cy,e3,e4⟩:=hh.2 a ha
  refine(IQ Y8 hv a ha e1 hS.only e3 hh.1).mono ?_
  rintro e w' ⟨gc,he,hr,-,hb,hg⟩
  exact⟨gc,_,he,by rw[e2,e4],cy.hb,hr,hb,hg⟩
theorem KZ(hp:XF j i g pp s){a:Nat}(h:(ZC pp s a).2.2=0):
  ∃s1 b,ZC pp s a=(s1,b,0)/\b<g*pp/\Bits.hb s.m.used b=false/\s1.B=s.B/\s1.D=s.D/\∀k,Bits.hb s1.m.used k=if k=b then true else Bits.hb s.m.used k:=by
 have WV:=hp.ord.gp
 have hul:=hp.ord.ul
 cases hu:RS pp s.m a with
 |some n0=>
  obtain⟨h1,-,h3⟩:=Qk hp.ord hu
  exact⟨{s with m:=YO s.m n0},n0,by unfold ZC;rw[hu],h1,h3,rfl,rfl,fun k=>Bits.WA _ _ _ _ (by omega)⟩
 |none=>
  unfold ZC at h
  rw[hu]at h
  cases hq:Vx s.m.own with
  |none=>rw[hq]at h;cases h
  |some q=>
   rw[hq]at h
   simp only at h
   by_cases h0:(Z8.ZH s.m.rows a).err=0
   ·have hqg:q<g:=by have:=FJ hq;rwa[hp.ord.ol]at this
    have hb:q*pp<g*pp:=Nat.mul_lt_mul_of_pos_right hqg hp.ord.IP
    exact⟨{s with m:=YO (YW s.m a q) (q*pp)},q*pp,by unfold ZC;rw[hu,hq];simp only;rw[if_pos h0],hb,(hp.ord.used q 0 (UH hq)).1 rfl _ (Nat.mul_div_cancel _ hp.ord.IP),rfl,rfl,fun k=>Bits.WA _ _ _ _ (by simp only[YW];omega)⟩
   ·rw[if_neg h0]at h
    exact absurd h h0
theorem Bc{l:List Z8.Rw}{a:Nat}(h:Z8.Right l)(h0:(Z8.ZH l a).err≠0):(Z8.ZH l a).err=4\/(Z8.ZH l a).err=5:=by
 cases hf:Z8.Vi l a with
 |some k=>
  obtain⟨r,h1,-⟩:=Z8.WR hf
  by_cases hr:r.refs=65535
  ·rw[Z8.Uf h hf h1 hr];exact .inl rfl
  ·rw[Z8.Ue h hf h1 hr]at h0;exact absurd rfl h0
 |none=>
  cases hg:Z8.WJ l with
  |none=>rw[Z8.Ud h hf hg];exact .inr rfl
  |some k=>rw[Z8.SQ h hf hg]at h0;exact absurd rfl h0
theorem IY(hp:XF j i g pp s){a:Nat}(h:(ZC pp s a).2.2≠0):(ZC pp s a).2.2=4\/(ZC pp s a).2.2=5:=by
 unfold ZC at h⊢
 cases hu:RS pp s.m a with
 |some n0=>rw[hu]at h;exact absurd rfl h
 |none=>
  rw[hu]at h
  cases hq:Vx s.m.own with
  |none=>exact .inr rfl
  |some q=>
   rw[hq]at h
   simp only at h⊢
   by_cases h0:(Z8.ZH s.m.rows a).err=0
   ·rw[if_pos h0]at h;exact absurd rfl h
   ·rw[if_neg h0];exact Bc hp.ord.right.rows h0
end
end Go.Proofs.YtmehhgfbnfbnaaaGreat.Y7
