import Derived.Test.YtmehhgfbnfbnaaaGreatQInodeA
import Derived.Test.YtmehhgfbnfbnaaaGreatQTk
import Derived.Deep.RegionHeld3
set_option maxRecDepth 100000
set_option maxHeartbeats 25600000
open Int renaming toNat->qaa
open List renaming replicate->qab,getElem?_eq_getElem->qad,map_cons->qah,map_nil->qaj
open Go renaming World->qac,Calls->qai
open Nat renaming le_refl->qae
open Go.Region renaming wanted->qaf
open Go.RowKit renaming Below->qag
namespace Go.Proofs.YtmehhgfbnfbnaaaGreat
theorem zg0{P:Prop}(h:P:=by
 unfold Oper.wp execOp
 simp only[ho,resolve,invoke,builtin,Sem.run_bind,Sem.run_pure,Result.andThen_ok,List.map_toArray,qah,qaj,hs,hx,hrun]
 exact h v' w' h2 h3):P:=h
theorem zg1{P:Prop}(h:P:=by
 go_wp2
 go_roundw
 case rel=>exact⟨j+1,by omega,by go_num,hstep.out⟩
 case measure=>simp[intOf];omega):P:=h
end Go.Proofs.YtmehhgfbnfbnaaaGreat
namespace Go.Proofs.YtmehhgfbnfbnaaaGreat.Z9
open Go.RowKit
section
variable {w wr:qac}{g j:Nat}{T:List Int}
theorem fV(L:List Nat)(A:Option Addr)(n c:Nat)(w:qac)(hn:L.length=n)(hr:Rd w w.heap.size A (Zg L))(hL:∀x∈L,x<65536)(hm:n<=2000):
  qai Tryz.prog 185 #[.int .i64 2,.slice A n c] w fun e w'=>∃v,e=.returned (.tuple #[v,()])/\Made w (Y0 2 L) v w':=
 NU L A n c 2 w hn hr (by omega) (by omega) (fun x hx=>Nat.lt_trans (hL x hx) (by decide)) (aaw hL) (by omega)
theorem Gy(L:List Int)(A:Option Addr)(n c:Nat)(w:qac)(hn:L.length=n)(hr:Rd w w.heap.size A (ZM L))(hL:∀x∈L,0<=x/\x<65536)(hm:n<=2000):
  qai Tryz.prog 250 #[.slice A n c] w fun e w'=>∃v,e=.returned v/\Made w (Y0 2 (L.map qaa)) v w':=by
 have hT:(L.map qaa).length=n:=by rw[List.length_map,hn]
 have hsm:=yP hL
 have hmk:=Ll n (by omega)
 have hbk:=Bk.new w 41 (Zg (qab n 0))
 have hbel:qag w.heap.size w (w.alloc (.cells (Zg (qab n 0)).toArray 41)):=ZR _ _
 have hsrc:=hr.below hbel
 obtain⟨z,hz⟩:∃z,z=(Zg (qab n 0)).toArray:=⟨_,rfl⟩
 unfold Bk at hbk
 rw[<-hz]at hmk hbk hbel hsrc
 have Q0:Taking (w.alloc (.cells z 41)) w.heap.size (L.map qaa) 0 (w.alloc (.cells z 41)):=⟨by unfold Bk;rw[Pe,hT,hbk,hz],qac.grownBy.refl _ _⟩
 have Hn:=χ hn
 have HT:=χ hT
 have HL:=χ hL
 have HS:=χ hsm
 have fF:=χ hsrc
 have HB:=χ hbel
 have hsz:(w.alloc (.cells z 41)).heap.size=w.heap.size+1:=by simp
 have HZ:=χ hsz
 clear hn hT hbk hz hr hL hsm hsrc hbel hsz
 go_enter Tryz.func250,Tryz.ntmps250
 go_wp2
 go_loopw [13] (fun k wr=>∃j:Nat,j<=n/\k=.int .i64 j/\Taking (w.alloc (.cells z 41)) w.heap.size (L.map qaa) j wr) (fun k _=>n-(intOf k).toNat)
 case atStart=>exact⟨0,Nat.zero_le _,rfl,Q0⟩
 case round=>
  obtain⟨j,hj,rfl,hst⟩:=hrel
  clear Q0 hmk
  by_cases hlt:j<n
  ·obtain⟨x,hx⟩:∃x,L[j]? =some x:=⟨_,qad (by rw[Hn.out];exact hlt)⟩
   obtain⟨hx0,hx6⟩:=HL.out x (List.mem_of_getElem? hx)
   obtain⟨m,rfl⟩:∃m:Nat,x=(m:Int):=⟨x.toNat,by omega⟩
   rcases BD (Tm fF.out hst.2 (by simp) (qae _))with h|⟨b,o,rfl,hb,hc⟩
   ·subst h;simp at hx
   have c0:=hc j _ hx
   have hTx:(L.map qaa)[j]? =some m:=by rw[List.getElem?_map,hx];simp
   have hstep:=χ (Pb hst hTx)
   obtain⟨⟨v,hcell⟩,hfr⟩:=O9 hst (by rw[HT.out];exact hlt)
   have e1:IntKind.u64.wrap (m:Int)=(m:Int):=by rw[IntKind.wrap_u64];omega
   have hj0:(0:Int)<=(j:Int):=Int.natCast_nonneg _
   have hjn:(j:Int)<(n:Int):=by omega
   clear hst hx hTx hc
   exact zg1
  ·obtain rfl:j=n:=by omega
   have hb:=hst.1
   rw[show partly (L.map qaa) j=L.map qaa by have:=NC (L.map qaa);rwa[HT.out]at this]at hb
   have IW:=χ (HB.out.trans (XM hst.2 HB.out.size (qae _)))
   have HR:=χ (show Rd wr wr.heap.size (some ⟨w.heap.size,0,none⟩) (Zg (L.map qaa))by
    have:=hb.rd (Zg (L.map qaa)).length 0
    rwa[List.drop_zero,List.take_length]at this)
   clear hst hb
   go_wp2_with (go_at_call 185;(with_reducible refine(fV (L.map qaa) _ j j _ HT.out HR.out HS.out hm).mono ?_);rintro e w4 ⟨v4,he,jA⟩;obtain rfl:=he;have HM:=χ jA;clear jA)
   go_ret
   exact⟨_,rfl,ZL HM.out.1 IW.out.size,IW.out.trans (HM.out.2.mono IW.out.size)⟩
def aax(w:qac)(l:List Int)(v:Value)(w':qac):Prop:=w'.ownsRow w.heap.size 3 1 v l.length (ZM l)/\qag w.heap.size w w'
theorem info3:(Tryz.prog.info? 3).map (fun i=>(i.zero,i.size,i.bytes))=some (some (.int .i64 0),1,8):=by kernel_rfl
theorem PV(n:Nat)(h:n<=65536)(u:qac):(Instr.makeSlice 57 (.int .i64 n) (.int .i64 n)).run Tryz.prog u=
  .ok (.slice u.heap.size n n) (u.alloc (.cells (ZM (qab n 0)).toArray 3)):=by
 obtain⟨i0,hi,hz0,hz1,hz2⟩:=info_parts info3
 have hr:=run_make (P:=Tryz.prog) u 57 3 i0 (.int .i64 0) Tryz.underlying57 hi hz0 .i64 .i64 (n:Int) (n:Int) (by omega) (Int.le_refl _) (by rw[hz2];omega) (by omega)
 have e:(madeCells (Value.int .i64 0).cells (n*i0.size))=(ZM (qab n 0)).toArray:=by
  rw[hz1,Nat.mul_one]
  apply Array.ext
  ·simp[madeCells,ZM,Value.cells]
  ·intro j h1 h2
   simp[madeCells,ZM,Value.cells,Nat.mod_one]
 rw[Int.toNat_natCast,e]at hr
 exact hr
def TS(T:List Int)(j:Nat):List Int:=T.take j++qab (T.length-j) 0
theorem yK(T:List Int):TS T T.length=T:=by simp[TS]
theorem D7(T:List Int):TS T 0=qab T.length 0:=by simp[TS]
theorem JE(T:List Int)(j:Nat)(h:j<=T.length):(TS T j).length=T.length:=by simp[TS];omega
theorem D6(T:List Int)(j:Nat)(x:Int)(h:T[j]? =some x):(TS T j).set j x=TS T (j+1):=by
 obtain⟨hj,rfl⟩:=List.getElem?_eq_some_iff.1 h
 unfold TS
 have hl:(T.take j).length=j:=by simp;omega
 rw[List.set_append_right _ _ (by omega),hl,Nat.sub_self,show T.length-j=(T.length-(j+1))+1 by omega,List.replicate_succ,List.set_cons_zero,List.take_succ_eq_append_getElem hj,List.append_assoc]
 rfl
def QM(w:qac)(g:Nat)(T:List Int)(j:Nat)(wr:qac):Prop:=Bk wr g 3 (ZM (TS T j))/\w.grownBy wr (some g)
theorem JD{x:Int}(h:QM w g T j wr)(hx:T[j]? =some x):QM w g T (j+1) (wr.setCell ⟨g,j,none⟩ (.int .i64 x)):=by
 refine⟨?_,ZT h.2 _ _⟩
 have:=h.1.set j (.int .i64 x)
 rw[PY,D6 T j x hx]at this
 exact this
theorem JC(h:QM w g T j wr)(hj:j<T.length):(∃v,wr.cell? ⟨g,j,none⟩=some v)/\wr.frozen? ⟨g,j,none⟩=false:=by
 refine⟨?_,h.1.frozen _⟩
 rw[h.1.cell]
 have hl:j<(ZM (TS T j)).length:=by rw[Zt,JE _ _ (by omega)];exact hj
 exact⟨_,qad hl⟩
theorem JQ{B:Nat}{A:Option Addr}{l:List Nat}(h:Rd w B A (Zg l)):l=[]\/∃b o,A=some ⟨b,o,none⟩/\b<B/\∀(i:Nat) x,l[i]? =some x->w.cell? ⟨b,o+i,none⟩=some (.int .u64 x):=by
 rcases h with h|⟨b,o,h1,h2,h3⟩
 ·exact .inl (by simpa[Zg]using h)
 ·exact .inr ⟨b,o,h1,h2,fun i x hx=>h3 i _ (by simp[Zg,Qf,hx])⟩
theorem take2(l:List UInt8)(A:Option Addr)(n c m:Nat)(w:qac)(hn:l.length=n)(hr:Rd w w.heap.size A (Z6 l))(hc:n<=c)(hm:n=m*2)(h4:m<=2000):
  qai Tryz.prog 220 #[.int .i64 2,.slice A n c] w fun e w'=>∃v,e=.returned (.tuple #[v,()])/\tT w (Ze 2 l) v w':=
 JR l A n c m 2 w hn hr hc (by omega) (by omega) hm (by omega)
theorem D5(l:List UInt8)(A:Option Addr)(n c m:Nat)(w:qac)(hn:l.length=n)(hr:Rd w w.heap.size A (Z6 l))(hc:n<=c)(hm:n=m*2)(h4:m<=2000):
  qai Tryz.prog 245 #[.slice A n c] w fun e w'=>∃v,e=.returned v/\aax w (ptrs l) v w':=by
 have hT:(Ze 2 l).length=m:=by rw[XX,hn,hm];omega
 have hP:(ptrs l).length=m:=by rw[GN,hn,hm];omega
 have Hn:=χ hn
 have HT:=χ hT
 have HP:=χ hP
 have HS:=χ (U4 l)
 have hmk:=PV m (by omega)
 have Hr:=χ hr
 have Hm:=χ hm
 clear hn hT hP hr hm
 go_enter Tryz.func245,Tryz.ntmps245
 go_wp2_with fail
 refine(take2 l A n c m _ Hn.out Hr.out hc Hm.out h4).mono ?_
 rintro e w1 ⟨v1,he,hown1,hb1⟩
 obtain rfl:=he
 rw[HT.out]at hown1
 obtain⟨_,A1,c1,hv1,hc1,hx1,hr1⟩:=Yx hown1
 subst hv1
 have HR1:=χ hr1
 have HB1:=χ hb1
 clear hown1 hb1 hr1
 go_wp2
 have hbk:=Bk.new w1 3 (ZM (qab m 0))
 have hbel:qag w1.heap.size w1 (w1.alloc (.cells (ZM (qab m 0)).toArray 3)):=ZR _ _
 have hsrc:=HR1.out.below hbel
 have Q0:QM (w1.alloc (.cells (ZM (qab m 0)).toArray 3)) w1.heap.size (ptrs l) 0 (w1.alloc (.cells (ZM (qab m 0)).toArray 3)):=⟨by rw[D7,HP.out];exact hbk,qac.grownBy.refl _ _⟩
 generalize hW:w1.alloc (.cells (ZM (qab m 0)).toArray 3)=W at*
 have hsz:W.heap.size=w1.heap.size+1:=by rw[<-hW];simp
 have fF:=χ hsrc
 have HB:=χ hbel
 have HZ:=χ hsz
 clear hbk hbel hsrc hW hmk hsz
 go_loopw [18] (fun k wr=>∃j:Nat,j<=m/\k=.int .i64 j/\QM W w1.heap.size (ptrs l) j wr) (fun k _=>m-(intOf k).toNat)
 case atStart=>exact⟨0,Nat.zero_le _,rfl,Q0⟩
 case round=>
  obtain⟨j,hj,rfl,hst⟩:=hrel
  clear Q0
  by_cases hlt:j<m
  ·obtain⟨x,hx⟩:∃x,(Ze 2 l)[j]? =some x:=⟨_,qad (by rw[HT.out];exact hlt)⟩
   have hx6:=HS.out x (List.mem_of_getElem? hx)
   rcases JQ (Tm fF.out hst.2 (by have:=HZ.out;omega) (qae _))with h|⟨b,o,rfl,hb,hc1⟩
   ·rw[h]at hx;simp at hx
   have c0:=hc1 j _ hx
   have hTx:(ptrs l)[j]? =some (x:Int):=by unfold ptrs;rw[List.getElem?_map,hx];rfl
   have hstep:=χ (JD hst hTx)
   obtain⟨⟨v,hcell⟩,hfr⟩:=JC hst (by rw[HP.out];exact hlt)
   have e1:IntKind.i64.wrap (x:Int)=(x:Int):=by rw[IntKind.wrap_i64];omega
   have hj0:(0:Int)<=(j:Int):=Int.natCast_nonneg _
   have hjn:(j:Int)<(m:Int):=by omega
   clear hst hx hTx hc1
   exact zg1
  ·obtain rfl:j=m:=by omega
   have hb:=hst.1
   rw[show TS (ptrs l) j=ptrs l by have:=yK (ptrs l);rwa[HP.out]at this]at hb
   have IW:=χ (HB1.out.trans ((HB.out.trans (XM hst.2 HB.out.size (qae _))).mono HB1.out.size))
   have HO:=χ (hb.own (base:=w.heap.size) j (by rw[Zt,HP.out]) HB1.out.size (by simp only[maxLen];omega))
   clear hst hb
   go_wp2
   go_ret
   exact⟨_,rfl,by rw[HP.out];exact HO.out,IW.out⟩
end
end Go.Proofs.YtmehhgfbnfbnaaaGreat.Z9

namespace Go.Proofs.YtmehhgfbnfbnaaaGreat.Z9
open Go.RowKit
def VY(w:qac)(bs:List UInt8)(err:Nat)(e:Ending)(w':qac):Prop:=
 ∃v,e=.returned (.tuple #[v,err])/\w'.ownsRow w.heap.size 5 1 v bs.length (Z6 bs)/\qag w.heap.size w w'
end Go.Proofs.YtmehhgfbnfbnaaaGreat.Z9

namespace Go.Proofs.YtmehhgfbnfbnaaaGreat.Z9
open Go.RowKit
section
variable {k r:Nat}{ops:Array Oper}{o:Oper}{a:Act}{w:qac}{K:Act->qac->Prop}{Q:Exit->Act->qac->Prop}{E:Prop}
theorem Un(k r:Nat)(l s p0 p1 p2 p3 p4 p5 p6 p7 p8 p9:Int)(w:qac)(hk:k<256)(hr:r<256)(hR:¬ Right (⟨k,r,l,s,[p0,p1,p2,p3,p4,p5,p6,p7,p8,p9]⟩:ZC)):
  qai Tryz.prog 210 #[.agg #[.int .u8 k,.int .u8 r,l,s,p0,p1,p2,p3,p4,p5,p6,p7,p8,p9]] w fun e w'=>VY w [] 1 e w':=by
 have HR:Hid (∀W:qac,qai Tryz.prog 111 #[.agg #[.int .u8 k,.int .u8 r,l,s,p0,p1,p2,p3,p4,p5,p6,p7,p8,p9]] W fun e w'=>e=.returned (.bool false)/\qag W.heap.size W w'):=fun W=>by
  have:=PX k r l s p0 p1 p2 p3 p4 p5 p6 p7 p8 p9 W hk hr
  rwa[ZN hR]at this
 clear hk hr hR
 go_enter Tryz.func210,Tryz.ntmps210
 go_wp2_with (go_at_call 111;(with_reducible refine(HR.out _).mono ?_);rintro e w1 ⟨he,hb1⟩;obtain rfl:=he;obtain⟨-,hb1',-⟩:=Xb hb1;have HB1:=χ hb1';clear hb1 hb1')
 go_ret2
 exact⟨_,rfl,qac.ownsRow_nil _ _ _ _,HB1.out⟩
theorem Gw{l s:Int}{p:List Int}(h:Right ⟨k,r,l,s,p⟩):∀x∈l::s::p,0<=x/\x<65536:=by
 obtain⟨h0,h1,h2⟩:=Li h
 have hs:=Wh h
 simp only at h0 h1 h2
 intro x hx
 have hx0:0<=x:=by
  simp only[List.mem_cons]at hx
  rcases hx with rfl|rfl|hx
  ·exact h0
  ·exact h1
  ·exact h2 x hx
 refine⟨hx0,?_⟩
 have:=hs x.toNat (by
  show x.toNat∈(l::s::p).map qaa
  exact List.mem_map.2 ⟨x,hx,rfl⟩)
 omega
def Yp(k r:Nat):List UInt8:=[UInt8.ofNat k,UInt8.ofNat r]
theorem jy(l s p0 p1 p2 p3 p4 p5 p6 p7 p8 p9:Int):(Y0 2 ([l,s,p0,p1,p2,p3,p4,p5,p6,p7,p8,p9].map qaa)).length=24:=by rw[ZA];rfl
theorem aay(k r:Nat)(l s p0 p1 p2 p3 p4 p5 p6 p7 p8 p9:Int):(Yp k r++Y0 2 ([l,s,p0,p1,p2,p3,p4,p5,p6,p7,p8,p9].map qaa)).length=26:=by rw[List.length_append,jy];rfl
theorem fE(l:List UInt8)(A:Option Addr)(c:Nat)(w:qac)(hn:l.length=26)(hr:Rd w w.heap.size A (Z6 l)):
  qai Tryz.prog 186 #[.slice A 26 c,.int .i64 32] w fun e w'=>∃v,e=.returned (.tuple #[v,()])/\Made w (Ya l 32) v w':=OE l A 26 c 32 w hn hr (by omega) (by omega)
theorem byte_of(h:k<256):XG (UInt8.ofNat k)=.int .u8 k:=by
 unfold XG
 congr 1
 simp
 omega
theorem sj(h:k<256/\r<256)(w:qac):(w.alloc (.cells #[.int .u8 k,.int .u8 r] 5)).drew.ownsRow w.heap.size 5 1 (.slice w.heap.size 2 2) 2 (Z6 (Yp k r)):=by
 have e:Z6 (Yp k r)=[.int .u8 k,.int .u8 r]:=by
  unfold Z6 Yp
  rw[qah,qah,qaj,byte_of h.1,byte_of h.2]
 rw[e]
 have h1:Bk (w.alloc (.cells #[.int .u8 k,.int .u8 r] 5)).drew w.heap.size 5 [.int .u8 k,.int .u8 r]:=Bk.new w 5 _
 exact h1.own 2 rfl (qae _) (by simp only[maxLen];omega)
theorem l9(h:k<256/\r<256)(w:qac):(w.alloc (.cells #[.int .u8 k,.int .u8 r] 5)).ownsRow w.heap.size 5 1 (.slice w.heap.size 2 2) 2 (Z6 (Yp k r)):=sj h w
theorem DZ(hgd:o.guard=none)(s x:Operand)(ho:o.op=.call {callee:=.builtin .append,args:=#[s,x],argTypes:=#[57,57]})(base:Nat)(v:Value)(n:Nat)(l:List Int)(hs:a.eval s=v)(hown:w.ownsRow base 3 1 v n (ZM l))(B:Nat)(A:Option Addr)(m c:Nat)(k:List Int)(hx:a.eval x=.slice A m c)(hm:k.length=m)(hr:Rd w B A (ZM k))(hbytes:n+m<=1000000)(hbase:base<=w.heap.size)(h:∀v' w',w'.ownsRow base 3 1 v' (n+m) (ZM (l++k))->w.grownBy w' v.ownBlock->K (a.put o.dst v') w'):
  if qaf o (yielded ops a.tmps)=true then Oper.wp Tryz.prog o a w K Q else E:=by
 have hw:qaf o (yielded ops a.tmps)=true:=by simp[qaf,hgd]
 rw[if_pos hw]
 obtain⟨i0,hi,hz0,hz1,hz2⟩:=info_parts info3
 rw[JM]at h
 obtain⟨v',w',hrun,h2,h3⟩:=U6 (P:=Tryz.prog) w base 57 o.type 3 i0 _ 8 Tryz.underlying57 hi hz0 hz1 hz2 rfl v n _ hown B A m c _ (by rw[Zt,hm]) hr (VI k) (by simp only[maxLen];omega) (by omega) hbase
 exact zg0
theorem Lc(hgd:o.guard=none)(s x:Operand)(ho:o.op=.call {callee:=.builtin .append,args:=#[s,x],argTypes:=#[37,37]})(base:Nat)(v:Value)(n:Nat)(l:List UInt8)(hs:a.eval s=v)(hown:w.ownsRow base 5 1 v n (Z6 l))(B:Nat)(A:Option Addr)(m c:Nat)(k:List UInt8)(hx:a.eval x=.slice A m c)(hm:k.length=m)(hr:Rd w B A (Z6 k))(hbytes:n+m<=1000000)(hbase:base<=w.heap.size)(h:∀v' w',w'.ownsRow base 5 1 v' (n+m) (Z6 (l++k))->w.grownBy w' v.ownBlock->K (a.put o.dst v') w'):
  if qaf o (yielded ops a.tmps)=true then Oper.wp Tryz.prog o a w K Q else E:=by
 have hw:qaf o (yielded ops a.tmps)=true:=by simp[qaf,hgd]
 rw[if_pos hw]
 obtain⟨i0,hi,hz0,hz1,hz2⟩:=info_parts info5
 rw[Xc]at h
 obtain⟨v',w',hrun,h2,h3⟩:=U6 (P:=Tryz.prog) w base 37 o.type 5 i0 _ 1 Tryz.underlying37 hi hz0 hz1 hz2 rfl v n _ hown B A m c _ (by rw[Z4,hm]) hr (YC k) (by simp only[maxLen];omega) (by omega) hbase
 exact zg0
theorem Wn(k r:Nat)(l s p0 p1 p2 p3 p4 p5 p6 p7 p8 p9:Int)(w:qac)(hk:k<256)(hr:r<256)(hR:Right (⟨k,r,l,s,[p0,p1,p2,p3,p4,p5,p6,p7,p8,p9]⟩:ZC)):
  qai Tryz.prog 210 #[.agg #[.int .u8 k,.int .u8 r,l,s,p0,p1,p2,p3,p4,p5,p6,p7,p8,p9]] w fun e w'=>VY w (ZK (⟨k,r,l,s,[p0,p1,p2,p3,p4,p5,p6,p7,p8,p9]⟩:ZC)) 0 e w':=by
 have HR:Hid (∀W:qac,qai Tryz.prog 111 #[.agg #[.int .u8 k,.int .u8 r,l,s,p0,p1,p2,p3,p4,p5,p6,p7,p8,p9]] W fun e w'=>e=.returned (.bool true)/\qag W.heap.size W w'):=fun W=>by
  have:=PX k r l s p0 p1 p2 p3 p4 p5 p6 p7 p8 p9 W hk hr
  rwa[ZW hR]at this
 have hsm:=Gw hR
 have aaz:k<256/\r<256:=⟨hk,hr⟩
 have Cc:Hid (∀W:qac,qai Tryz.prog 181 #[.agg #[.int .u8 k,.int .u8 r,l,s,p0,p1,p2,p3,p4,p5,p6,p7,p8,p9]] W fun e w'=>e=.returned (.agg #[p0,p1,p2,p3,p4,p5,p6,p7,p8,p9])/\qag W.heap.size W w'):=fun W=>JH k r l s p0 p1 p2 p3 p4 p5 p6 p7 p8 p9 W
 clear hk hr
 go_enter Tryz.func210,Tryz.ntmps210
 go_wp2_with (first
  |(go_at_call 111;(with_reducible refine(HR.out _).mono ?_);rintro e w1 ⟨he,hb1⟩;obtain rfl:=he;obtain⟨hk1,hb1',hs1⟩:=Xb hb1;obtain⟨a0,a1,a2,a3,a4,a5,a6,a7,a8,a9,R9,R8,a12,R7⟩:=Y7 hk1;have HB1:=χ hb1';have oI:=χ hk1;clear hb1 hb1' hk1)
  |(go_at_call 181;(with_reducible refine(Cc.out _).mono ?_);rintro e w2 ⟨he,hb2⟩;obtain rfl:=he))
 have hk2:Bk (w2.alloc (.cells #[p0,p1,p2,p3,p4,p5,p6,p7,p8,p9] 241)) w.heap.size 40 [.int .u8 k,.int .u8 r,l,s,p0,p1,p2,p3,p4,p5,p6,p7,p8,p9]:=(oI.out.below hb2 oI.out.lt).below (ZR w2 _) (Nat.lt_of_lt_of_le hs1 hb2.size)
 have hp2:Bk (w2.alloc (.cells #[p0,p1,p2,p3,p4,p5,p6,p7,p8,p9] 241)) w2.heap.size 241 [p0,p1,p2,p3,p4,p5,p6,p7,p8,p9]:=Bk.new w2 241 _
 have hbb:qag w.heap.size w (w2.alloc (.cells #[p0,p1,p2,p3,p4,p5,p6,p7,p8,p9] 241)):=(HB1.out.trans (hb2.mono (Nat.le_of_lt hs1))).alloc (Nat.le_trans HB1.out.size hb2.size) _
 have hsz:w.heap.size<w2.heap.size:=Nat.lt_of_lt_of_le hs1 hb2.size
 have hss:w2.heap.size<(w2.alloc (.cells #[p0,p1,p2,p3,p4,p5,p6,p7,p8,p9] 241)).heap.size:=by simp
 clear hb2 a0 a1 a2 a3 a4 a5 a6 a7 a8 a9 R9 R8 a12 R7 oI HB1 hs1
 generalize w2.alloc (.cells #[p0,p1,p2,p3,p4,p5,p6,p7,p8,p9] 241)=W at*
 generalize w2.heap.size=g at*
 obtain⟨a0,a1,a2,a3,a4,a5,a6,a7,a8,a9,R9,R8,a12,R7⟩:=Y7 hk2
 have oH:qag W.heap.size W (W.alloc (.cells #[l,s] 3)).drew:=YB (ZR W _)
 have m2:=χ ((oH.cell (p:=⟨w.heap.size,2,none⟩) (show w.heap.size<W.heap.size by omega)).trans a2)
 have m3:=χ ((oH.cell (p:=⟨w.heap.size,3,none⟩) (show w.heap.size<W.heap.size by omega)).trans a3)
 have hpk:Rd (W.alloc (.cells #[l,s] 3)).drew (W.heap.size+1) (some ⟨g,0,none⟩) (ZM [p0,p1,p2,p3,p4,p5,p6,p7,p8,p9]):=by
  have h1:=hp2.below oH (by omega)
  have h2:=h1.rd 10 0
  exact h2.more (by show _<=_;simp[qac.drew])
 have how:(W.alloc (.cells #[l,s] 3)).drew.ownsRow W.heap.size 3 1 (.slice W.heap.size 2 2) 2 (ZM [l,s]):=(show Bk (W.alloc (.cells #[l,s] 3)).drew W.heap.size 3 (ZM [l,s])from Bk.new W 3 (ZM [l,s])).own 2 rfl (qae _) (by simp only[maxLen];omega)
 have HPK:=χ hpk
 have HOW:=χ how
 have jM:=χ oH
 have h01:=χ a2
 have h02:=χ a3
 clear hpk how oH a4 a5 a6 a7 a8 a9 R9 R8 a12 R7
 go_region_held3 (fun u=>u.cell? ⟨w.heap.size,2,none⟩=some (.int .i64 l)/\u.cell? ⟨w.heap.size,3,none⟩=some (.int .i64 s)/\qag W.heap.size W u) (first|exact⟨h01.out,h02.out,YB (qag.refl _ W)⟩|exact⟨m2.out,m3.out,jM.out⟩|exact⟨m42,m43,hb4⟩) (first|(refine DZ rfl (.tmp 15) (.tmp 16) rfl W.heap.size (.slice W.heap.size 2 2) 2 [l,s] rfl HOW.out _ (some ⟨g,0,none⟩) 10 10 [p0,p1,p2,p3,p4,p5,p6,p7,p8,p9] rfl rfl HPK.out (by omega) jM.out.size ?_;intro v4 w4 Rf hg4;have hb4:=jM.out.grown hg4 jM.out.size (fun q hq=>(HOW.out.lt q hq).1);have m42:=(hb4.cell (p:=⟨w.heap.size,2,none⟩) (show w.heap.size<W.heap.size by omega)).trans h01.out;have m43:=(hb4.cell (p:=⟨w.heap.size,3,none⟩) (show w.heap.size<W.heap.size by omega)).trans h02.out))
 have hsW:W.heap.size<=w4.heap.size:=hb4.size
 obtain⟨_,A4,c4,rfl,hc4,hx4,hr4⟩:=Yx Rf
 have m40:=(hb4.cell (p:=⟨w.heap.size,0,none⟩) (show w.heap.size<W.heap.size by omega)).trans a0
 have m41:=(hb4.cell (p:=⟨w.heap.size,1,none⟩) (show w.heap.size<W.heap.size by omega)).trans a1
 have aaA:qag w.heap.size w w4:=hbb.trans (hb4.mono (by omega))
 have Bu:w.heap.size<w4.heap.size:=by omega
 have HR4:=χ (show Rd w4 w4.heap.size A4 (ZM [l,s,p0,p1,p2,p3,p4,p5,p6,p7,p8,p9])from hr4)
 have VT:=χ aaA
 clear hg4 Rf hr4 aaA hb4 HPK HOW jM h01 h02 m2 m3 m42 m43 a0 a1 a2 a3 hbb hk2 hp2 hss hsW
 clear HR Cc
 go_wp2_with fail
 have HN:=χ aaz
 have HS:Hid (∀x∈[l,s,p0,p1,p2,p3,p4,p5,p6,p7,p8,p9],0<=x/\x<65536):=hsm
 have HY:Hid (ZK (⟨k,r,l,s,[p0,p1,p2,p3,p4,p5,p6,p7,p8,p9]⟩:ZC)=Ya (Yp k r++Y0 2 (([l,s,p0,p1,p2,p3,p4,p5,p6,p7,p8,p9]).map qaa)) 32):=rfl
 have l8:=χ (jy l s p0 p1 p2 p3 p4 p5 p6 p7 p8 p9)
 have ab0:=χ (aay k r l s p0 p1 p2 p3 p4 p5 p6 p7 p8 p9)
 have fD:=χ m40
 have HA1:=χ m41
 have hbA:qag w4.heap.size w4 (w4.alloc (.cells #[.int .u8 k,.int .u8 r] 5)).drew:=YB (ZR w4 _)
 have hoA:(w4.alloc (.cells #[.int .u8 k,.int .u8 r] 5)).drew.ownsRow w4.heap.size 5 1 (.slice w4.heap.size 2 2) 2 (Z6 (Yp k r)):=sj HN.out w4
 have hrA:=(HR4.out.below hbA).more hbA.size
 have HBA:=χ hbA
 have HOA:=χ hoA
 have uX:=χ hrA
 have HRB:Hid (Rd w4.drew w4.drew.heap.size A4 (ZM [l,s,p0,p1,p2,p3,p4,p5,p6,p7,p8,p9])):=HR4.out
 have Yt:Hid (qag w4.heap.size w4 w4.drew):=YB (qag.refl _ w4)
 have Wo:=χ ((HBA.out.cell (p:=⟨w.heap.size,0,none⟩) Bu).trans m40)
 have hA1:=χ ((HBA.out.cell (p:=⟨w.heap.size,1,none⟩) Bu).trans m41)
 clear hbA hoA hrA aaz hsm hc4 hx4
 go_region_held3 (fun u=>u.cell? ⟨w.heap.size,0,none⟩=some (.int .u8 k)/\u.cell? ⟨w.heap.size,1,none⟩=some (.int .u8 r)/\qag w4.heap.size w4 u)
  (first|exact⟨fD.out,HA1.out,Yt.out⟩|exact⟨Wo.out,hA1.out,HBA.out⟩|exact⟨m80,m81,hb8⟩|exact⟨m70,m71,Yr⟩|exact⟨m60,m61,hb6⟩|exact⟨n60,n61,nb6⟩)
  (first
   |(go_at_call 250;(with_reducible refine(Gy [l,s,p0,p1,p2,p3,p4,p5,p6,p7,p8,p9] A4 12 c4 _ rfl uX.out HS.out (by omega)).mono ?_);rintro e w6 ⟨v6,he,hown6,hc6⟩;obtain rfl:=he;rw[l8.out]at hown6;have hb6:=HBA.out.trans (hc6.mono HBA.out.size);have m60:=(hb6.cell (p:=⟨w.heap.size,0,none⟩) Bu).trans fD.out;have m61:=(hb6.cell (p:=⟨w.heap.size,1,none⟩) Bu).trans HA1.out;have HO6:=χ (own_below HOA.out hc6);obtain⟨-,A6,c6,hv6,-,-,hr6⟩:=Yx hown6;subst hv6;have HR6:=χ hr6;have Mo:=χ hb6;clear hown6 hc6 hr6)
   |(go_at_call 250;(with_reducible refine(Gy [l,s,p0,p1,p2,p3,p4,p5,p6,p7,p8,p9] A4 12 c4 _ rfl HRB.out HS.out (by omega)).mono ?_);rintro e w6 ⟨v6,he,hown6,hc6⟩;obtain rfl:=he;rw[l8.out]at hown6;have hb6:=Yt.out.trans (hc6.mono (qae _));have m60:=(hb6.cell (p:=⟨w.heap.size,0,none⟩) Bu).trans fD.out;have m61:=(hb6.cell (p:=⟨w.heap.size,1,none⟩) Bu).trans HA1.out;obtain⟨-,A6,c6,hv6,-,-,hr6⟩:=Yx hown6;subst hv6;have hbn:=ZR w6 (.cells #[.int .u8 k,.int .u8 r] 5);have nb6:=hb6.trans (hbn.mono hb6.size);have n60:=(nb6.cell (p:=⟨w.heap.size,0,none⟩) Bu).trans fD.out;have n61:=(nb6.cell (p:=⟨w.heap.size,1,none⟩) Bu).trans HA1.out;have aaB:=χ (ZL (l9 HN.out w6) hb6.size);have ab1:=χ (hr6.below hbn);have NB6:=χ nb6;clear hown6 hc6 hr6 hbn)
   |(refine Lc rfl (.tmp 22) (.tmp 24) rfl w4.heap.size (.slice w4.heap.size 2 2) 2 (Yp k r) rfl HO6.out _ A6 24 c6 (Y0 2 ([l,s,p0,p1,p2,p3,p4,p5,p6,p7,p8,p9].map qaa)) rfl l8.out HR6.out (by omega) Mo.out.size ?_;intro v7 w7 Gv oK;have Yr:=Mo.out.grown oK Mo.out.size (fun q hq=>(HO6.out.lt q hq).1);have m70:=(Yr.cell (p:=⟨w.heap.size,0,none⟩) Bu).trans fD.out;have m71:=(Yr.cell (p:=⟨w.heap.size,1,none⟩) Bu).trans HA1.out;have Nr:w7.ownsRow w4.heap.size 5 1 v7 26 (Z6 (Yp k r++Y0 2 ([l,s,p0,p1,p2,p3,p4,p5,p6,p7,p8,p9].map qaa))):=Gv;obtain⟨-,A7,c7,hv7,-,-,si⟩:=Yx Nr;subst hv7;have aM:=χ si;have TG:=χ Yr;clear Gv Nr si oK)
   |(refine Lc rfl (.tmp 22) (.tmp 24) rfl w4.heap.size (.slice w6.heap.size 2 2) 2 (Yp k r) rfl aaB.out _ A6 24 c6 (Y0 2 ([l,s,p0,p1,p2,p3,p4,p5,p6,p7,p8,p9].map qaa)) rfl l8.out ab1.out (by omega) NB6.out.size ?_;intro v7 w7 Gv oK;have Yr:=NB6.out.grown oK NB6.out.size (fun q hq=>(aaB.out.lt q hq).1);have m70:=(Yr.cell (p:=⟨w.heap.size,0,none⟩) Bu).trans fD.out;have m71:=(Yr.cell (p:=⟨w.heap.size,1,none⟩) Bu).trans HA1.out;have Nr:w7.ownsRow w4.heap.size 5 1 v7 26 (Z6 (Yp k r++Y0 2 ([l,s,p0,p1,p2,p3,p4,p5,p6,p7,p8,p9].map qaa))):=Gv;obtain⟨-,A7,c7,hv7,-,-,si⟩:=Yx Nr;subst hv7;have aM:=χ si;have TG:=χ Yr;clear Gv Nr si oK)
   |(go_at_call 186;(with_reducible refine(fE (Yp k r++Y0 2 ([l,s,p0,p1,p2,p3,p4,p5,p6,p7,p8,p9].map qaa)) A7 c7 _ ab0.out aM.out).mono ?_);rintro e w8 ⟨v8,he,jw⟩;obtain rfl:=he;have hb8:=TG.out.trans (jw.2.mono TG.out.size);have m80:=(hb8.cell (p:=⟨w.heap.size,0,none⟩) Bu).trans fD.out;have m81:=(hb8.cell (p:=⟨w.heap.size,1,none⟩) Bu).trans HA1.out;have HM8:=χ jw;have ET:=χ hb8;clear jw))
 all_goals
  have h47:=TG.out.size
  go_wp2
  go_ret2
  exact⟨_,rfl,ZL HM8.out.1 (by omega),VT.out.trans (ET.out.mono (by omega))⟩
end
end Go.Proofs.YtmehhgfbnfbnaaaGreat.Z9

namespace Go.Proofs.YtmehhgfbnfbnaaaGreat.Z9
open Go.RowKit
theorem Bv(n:ZC)(ho:YP n)(w:qac):qai Tryz.prog 210 #[Mg n] w fun e w'=>VY w (GR n).1 (GR n).2 e w':=by
 by_cases hR:Right n
 ·rw[QP hR]
  obtain⟨k,r,l,s,p⟩:=n
  obtain⟨p0,p1,p2,p3,p4,p5,p6,p7,p8,p9,hp⟩:=Xh ho.len
  simp only at hp
  subst hp
  exact Wn k r l s p0 p1 p2 p3 p4 p5 p6 p7 p8 p9 w ho.k ho.r hR
 ·rw[BC hR]
  obtain⟨k,r,l,s,p⟩:=n
  obtain⟨p0,p1,p2,p3,p4,p5,p6,p7,p8,p9,hp⟩:=Xh ho.len
  simp only at hp
  subst hp
  exact Un k r l s p0 p1 p2 p3 p4 p5 p6 p7 p8 p9 w ho.k ho.r hR
end Go.Proofs.YtmehhgfbnfbnaaaGreat.Z9

namespace Go.Proofs.YtmehhgfbnfbnaaaGreat.Z9
open Go.RowKit
section
variable {w:qac}{g B n:Nat}
theorem dM(b:List UInt8)(h:b.length=32):ptrs (b.drop 2)=[((ZI b 2:Nat):Int),((ZI b 4:Nat):Int),((ZI b 6:Nat):Int),((ZI b 8:Nat):Int),((ZI b 10:Nat):Int),((ZI b 12:Nat):Int),((ZI b 14:Nat):Int),((ZI b 16:Nat):Int),((ZI b 18:Nat):Int),((ZI b 20:Nat):Int),((ZI b 22:Nat):Int),((ZI b 24:Nat):Int),((ZI b 26:Nat):Int),((ZI b 28:Nat):Int),((ZI b 30:Nat):Int)]:=by
 unfold ptrs
 rw[mE b h]
 rfl
theorem byte_at(b:List UInt8)(i:Nat)(h:i<b.length):(Z6 b)[i]? =some (.int .u8 ((b.getD i 0).toNat:Int)):=by
 simp[Z6,XG,List.getD_eq_getElem?_getD,qad h]
theorem aa8{o:Nat}{v:Value}(h:w.cell? ⟨g,o,none⟩=some v):g<w.heap.size:=qac.block_lt_of_cell? w _ h
theorem kV(w:qac)(xs ys:List Value)(a b:TypeId):∀W,W=((w.alloc (.cells xs.toArray a)).alloc (.cells ys.toArray b)).drew->
  Bk W w.heap.size a xs/\Bk W (w.heap.size+1) b ys/\qag w.heap.size w W/\W.heap.size=w.heap.size+2:=by
 rintro W rfl
 have h1:=Bk.new w a xs
 have b1:=ZR w (.cells xs.toArray a)
 have s1:(w.alloc (.cells xs.toArray a)).heap.size=w.heap.size+1:=by simp
 generalize w.alloc (.cells xs.toArray a)=w1 at*
 have h2:=Bk.new w1 b ys
 have b2:=ZR w1 (.cells ys.toArray b)
 have s2:(w1.alloc (.cells ys.toArray b)).heap.size=w1.heap.size+1:=by simp
 generalize w1.alloc (.cells ys.toArray b)=w2 at*
 rw[s1]at h2
 have h4:Bk w2 w.heap.size a xs:=h1.below b2 (by omega)
 exact⟨h4,h2,(show qag w.heap.size w w2.drew from YB (b1.trans (b2.mono (by omega)))),by show w2.heap.size=_;omega⟩
theorem aa9{W:qac}{n0 n1 n2 n3 n4 n5 n6 n7 n8 n9 n10 n11 n12 n13 n14:Nat}(h:Rd W B (some ⟨g,0,none⟩) (ZM [(n0:Int),(n1:Int),(n2:Int),(n3:Int),(n4:Int),(n5:Int),(n6:Int),(n7:Int),(n8:Int),(n9:Int),(n10:Int),(n11:Int),(n12:Int),(n13:Int),(n14:Int)])):∀j v,(ZM [(n2:Int),(n3:Int),(n4:Int),(n5:Int),(n6:Int),(n7:Int),(n8:Int),(n9:Int),(n10:Int),(n11:Int)])[j]? =some v->W.cell? (Addr.add ⟨g,2,none⟩ j)=some v:=by
 intro j v hv
 have e:ZM [(n2:Int),(n3:Int),(n4:Int),(n5:Int),(n6:Int),(n7:Int),(n8:Int),(n9:Int),(n10:Int),(n11:Int)]=((ZM [(n0:Int),(n1:Int),(n2:Int),(n3:Int),(n4:Int),(n5:Int),(n6:Int),(n7:Int),(n8:Int),(n9:Int),(n10:Int),(n11:Int),(n12:Int),(n13:Int),(n14:Int)]).drop 2).take 10:=rfl
 rw[e,List.getElem?_take]at hv
 split at hv
 ·rw[List.getElem?_drop]at hv
  rw[Addr.add_lit]
  rcases h with h|⟨b,o,hb,_,hc⟩
  ·cases h
  ·injection hb with hb
   injection hb with h1 h2 _
   subst h1 h2
   have:=hc (2+j) v hv
   rwa[Nat.zero_add]at this
 ·simp at hv
theorem VB{l:List UInt8}{A:Option Addr}{c:Nat}(hn:l.length=n)(hr:Rd w B A (Z6 l)):(convert 37 9 (.slice A n c)).run Tryz.prog w=.ok (.string ⟨l.toArray⟩) w:=
 BM w 37 9 5 Tryz.underlying37 Tryz.underlying5 Tryz.underlying9 B A n c l hn hr
theorem XO(l m:List UInt8)(A:Option Addr)(n c:Nat)(A2:Option Addr)(n2 c2 B B2:Nat)(w:qac)(hn:l.length=n)(hr:Rd w B A (Z6 l))(hn2:m.length=n2)(hr2:Rd w B2 A2 (Z6 m)):
  qai Tryz.prog 145 #[.slice A n c,.slice A2 n2 c2] w fun e w'=>e=.returned (.bool (l==m))/\w=w':=by
 have h1:=VB (c:=c) hn hr
 have h2:=VB (c:=c2) hn2 hr2
 clear hn hr hn2 hr2
 go_enter Tryz.func145,Tryz.ntmps145
 go_wp2
 go_ret
 exact⟨rfl,rfl⟩
theorem VY.got {w':qac}{bs:List UInt8}{err:Nat}{e:Ending}(h:VY w bs err e w')(hn:bs.length=n):∃A c,e=.returned (.tuple #[.slice A n c,err])/\n<=c/\Rd w' w'.heap.size A (Z6 bs)/\qag w.heap.size w w':=by
 subst hn
 obtain⟨v,he,hown,hb⟩:=h
 obtain⟨_,A,c,rfl,hc,_,hr⟩:=Yx hown
 exact⟨A,c,he,hc,hr,hb⟩
def Da(w:qac)(n:ZC)(err:Nat)(e:Ending)(w':qac):Prop:=e=.returned (.tuple #[Mg n,err])/\qag w.heap.size w w'
end
end Go.Proofs.YtmehhgfbnfbnaaaGreat.Z9
