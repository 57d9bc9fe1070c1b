import Derived.Test.YtmehhgfbnfbnaaaGreatQVolE
import Derived.Test.YtmehhgfbnfbnaaaGreatQTk
import Derived.Test.YtmehhgfbnfbnaaaGreatQVolP
import Derived.Test.YtmehhgfbnfbnaaaGreatQVolN
set_option maxRecDepth 100000
set_option maxHeartbeats 25600000
open List renaming getD_eq_getElem?_getD->qaa,getElem?_eq_some_iff->qab,replicate->qae
open Go renaming World->qac,Calls->qad
namespace Go.Proofs.YtmehhgfbnfbnaaaGreat.Zl
open Go.RowKit Zq Meta
section
variable {l:List Z8.Rw}
theorem Sn(h0:l.length=16)(h1:∀i,i<16->Z8.fits (l.getD i .z)=true)(h2:∀i,i<16->∀k,k<16->(l.getD i .z).refs≠0->(l.getD k .z).refs≠0->(l.getD i .z).lab=(l.getD k .z).lab->i=k):Z8.Right l where
 len:=h0
 fits i r hr:=by
  have hlt:=(qab.1 hr).1
  have:=h1 i (by omega)
  rwa[qaa,hr]at this
 one i k r s hr hs a b c:=by
  have hi:=(qab.1 hr).1
  have hk:=(qab.1 hs).1
  have:=h2 i (by omega) k (by omega)
  rw[qaa,qaa,hr,hs]at this
  exact this a b c
theorem IZ{a i:Nat}(h:Z8.Right l)(hf:Z8.TT l a=none)(hg:Z8.Vv l=some i):Z8.ZH l a=⟨l.set i ⟨a,1⟩,i,0⟩:=by
 unfold Z8.ZH
 rw[Z8.ZW h,if_pos rfl,hf,hg]
theorem oP{r:Nat}(h:Z8.Right l)(hr:r<16)(h1:(l.getD r .z).refs=1):Z8.YH l (r:Int)=⟨l.set r .z,0,0⟩:=by
 unfold Z8.YH
 have e:((r:Int):Int).toNat=r:=by omega
 have d1:decide (0<=(r:Int))=true:=decide_eq_true (by omega)
 have d2:decide ((r:Int)<16)=true:=decide_eq_true (by omega)
 rw[Z8.ZW h,d1,d2]
 simp only[Bool.and_self,if_true,e,h1]
 rw[if_neg (by decide)]
 unfold Z8.Rw.less
 rw[h1,if_pos rfl]
def XD(a b:Z8.Rw):List Z8.Rw:=a::b::qae 14 .z
def MM(a b:Z8.Rw)(o p:Int)(u:UInt8):Meta.Met:=⟨XD a b,[o,p],u::qae 63 0,qae 8 .z⟩
theorem mm0:XC ⟨((130:Nat):Int),((8:Nat):Int),((2:Nat):Int),((4:Nat):Int)⟩=MM .z .z 0 0 0:=by kernel_rfl
theorem I1{a b:Z8.Rw}{o p:Int}{u:UInt8}(ho:o=0\/o=1)(hp:p=0\/p=2):∀(q:Nat)(v:Int),(MM a b o p u).own[q]? =some v->v=0\/∃(r:Nat)(y:Z8.Rw),v=(r:Int)+1/\(MM a b o p u).rows[r]? =some y:=by
 intro q v h
 match q,h with
 |0,h=>
  have h:some o=some v:=h
  cases h
  rcases ho with rfl|rfl
  ·exact .inl rfl
  ·exact .inr ⟨0,a,rfl,rfl⟩
 |1,h=>
  have h:some p=some v:=h
  cases h
  rcases hp with rfl|rfl
  ·exact .inl rfl
  ·exact .inr ⟨1,b,rfl,rfl⟩
 |n+2,h=>exact absurd h (by show ¬ (([]:List Int)[n]? =some v);simp)
theorem r0:Z8.Right (XD .z .z):=Sn rfl (by decide+kernel) (by decide+kernel)
theorem r1:Z8.Right (XD ⟨2,1⟩ .z):=Sn rfl (by decide+kernel) (by decide+kernel)
theorem r2:Z8.Right (XD ⟨2,1⟩ ⟨4,1⟩):=Sn rfl (by decide+kernel) (by decide+kernel)
theorem r5:Z8.Right (XD .z ⟨4,1⟩):=Sn rfl (by decide+kernel) (by decide+kernel)
theorem t1:Z8.ZH (XD .z .z) 2=⟨XD ⟨2,1⟩ .z,0,0⟩:=IZ (a:=2) (i:=0) r0 (by decide+kernel) (by decide+kernel)
theorem t2:Z8.ZH (XD ⟨2,1⟩ .z) 4=⟨XD ⟨2,1⟩ ⟨4,1⟩,1,0⟩:=IZ (a:=4) (i:=1) r1 (by decide+kernel) (by decide+kernel)
theorem t5:Z8.YH (XD ⟨2,1⟩ ⟨4,1⟩) ((0:Nat):Int)=⟨XD .z ⟨4,1⟩,0,0⟩:=oP r2 (by decide) rfl
theorem t6:Z8.ZH (XD .z ⟨4,1⟩) 8=⟨XD ⟨8,1⟩ ⟨4,1⟩,0,0⟩:=IZ (a:=8) (i:=0) r5 (by decide+kernel) (by decide+kernel)
theorem c1:Yy (YA (MM .z .z 0 0 0) 2 0) (0*4)=MM ⟨2,1⟩ .z 1 0 1:=by
 unfold Yy YA
 rw[show(MM .z .z 0 0 0).rows=XD .z .z from rfl,t1]
 kernel_rfl
theorem c2:Yy (YA (MM ⟨2,1⟩ .z 1 0 1) 4 1) (1*4)=MM ⟨2,1⟩ ⟨4,1⟩ 1 2 17:=by
 unfold Yy YA
 rw[show(MM ⟨2,1⟩ .z 1 0 1).rows=XD ⟨2,1⟩ .z from rfl,t2]
 kernel_rfl
theorem c3:Yy (MM ⟨2,1⟩ ⟨4,1⟩ 1 2 17) 1=MM ⟨2,1⟩ ⟨4,1⟩ 1 2 19:=by kernel_rfl
theorem c4:WE (MM ⟨2,1⟩ ⟨4,1⟩ 1 2 19) 0=MM ⟨2,1⟩ ⟨4,1⟩ 1 2 18:=by kernel_rfl
theorem c5:RX (MM ⟨2,1⟩ ⟨4,1⟩ 1 2 18) 4 1 0=MM .z ⟨4,1⟩ 0 2 16:=by
 unfold RX
 rw[show(MM ⟨2,1⟩ ⟨4,1⟩ 1 2 18).rows=XD ⟨2,1⟩ ⟨4,1⟩from rfl,t5]
 kernel_rfl
theorem c6:Yy (YA (MM .z ⟨4,1⟩ 0 2 16) 8 0) (0*4)=MM ⟨8,1⟩ ⟨4,1⟩ 1 2 17:=by
 unfold Yy YA
 rw[show(MM .z ⟨4,1⟩ 0 2 16).rows=XD .z ⟨4,1⟩from rfl,t6]
 kernel_rfl
theorem u1:OZ 4 (MM .z .z 0 0 0) 2=none:=by decide+kernel
theorem u2:OZ 4 (MM ⟨2,1⟩ .z 1 0 1) 4=none:=by decide+kernel
theorem u3:OZ 4 (MM ⟨2,1⟩ ⟨4,1⟩ 1 2 17) 2=some 1:=by decide+kernel
theorem u6:OZ 4 (MM .z ⟨4,1⟩ 0 2 16) 8=none:=by decide+kernel
theorem g4:X4 4 (Bits.wb (MM ⟨2,1⟩ ⟨4,1⟩ 1 2 19).used 0 false) (0/4)=true:=by decide+kernel
theorem g5:X4 4 (Bits.wb (MM ⟨2,1⟩ ⟨4,1⟩ 1 2 18).used 1 false) (1/4)=false:=by decide+kernel
end
end Go.Proofs.YtmehhgfbnfbnaaaGreat.Zl

namespace Go.Proofs.YtmehhgfbnfbnaaaGreat.Zl
open Go.RowKit Zq Meta
section
variable {w w':qac}{b bm c:Nat}{A:Option Addr}
theorem Zu.move {β:Type}{R:Value->Option (DataW Unit × List MemPlace)}{dat:β->DataW Unit}{z:β}{b' m:Nat}{at_:Int->β}{there:Int->Bool}(h:Zu R dat z w b at_ there m)(hb:w'.heap[b']? =w.heap[b]?):Zu R dat z w' b' at_ there m:=by
 obtain⟨D,⟨es,clock,h1,h2⟩,h3⟩:=h
 exact⟨D,⟨es,clock,hb.trans h1,h2⟩,h3⟩
theorem LW(h:w.heap[bm]? =some (.map #[] 0)):Zu XA Xz zx w bm (fun _=>zx) (fun _=>false) 0:=
 (Zu.made w XA Xz zx).move (h.trans (by show _=(w.heap.push (.map #[] 0))[w.heap.size]?;exact Array.getElem?_push_size.symm))
theorem I4{base e k n:Nat}{xs:List Value}(h:w.ownsRow base e k (.slice A n c) n xs):At (base<=·) A:=by
 obtain⟨A2,c2,hv,hA⟩:=YT h
 injection hv with hv
 subst hv
 exact hA
theorem Oi{j i g pp bv bj:Nat}{x:Meta.Mem}{m:Meta.Met}(h1:Bk w' bv 132 (ES j i g pp b bj bm x m (.pointer none) A c false))(h2:Y1 w' w.heap.size x m)(h3:w.heap.size<=bv):Vs (w.heap.size<=·) w' bv x m bm (ZZ j i g pp b bj (.pointer none) A c false):=
 ⟨h1,h2.base (Nat.zero_le _),h3,I4 h2.rows,I4 h2.own,I4 h2.used,I4 h2.ino⟩
def Sh(w W:qac)(bv bm b bj:Nat)(A:Option Addr)(c:Nat)(M:Meta.Met)(B:Nat)(u:qac):Prop:=∃x at_ there n,n<=B/\VM (w.heap.size<=·) W u bv bm x M (ZZ 130 8 2 4 b bj (.pointer none) A c false) at_ there n
theorem vg8:VG 130 8 2 4:=⟨⟨by decide,by decide,by decide,by decide,by decide,by decide,by decide,by decide,by decide⟩,by decide⟩
end
section
variable {w W u:qac}{bv bm b bj c:Nat}{A:Option Addr}{B:Nat}
section
variable {M N:Meta.Met}{a:Nat}
theorem Ck{q:Nat}(h:Sh w W bv bm b bj A c M B u)(hl:M.rows.length=16)(hg:M.own.length=2)(hu:M.used.length=64)(hown:∀(q:Nat)(o:Int),M.own[q]? =some o->o=0\/∃(r:Nat)(y:Z8.Rw),o=(r:Int)+1/\M.rows[r]? =some y)(hun:OZ 4 M a=none)(hq:TL M.own=some q)(h0:(Z8.ZH M.rows a).err=0)(hat:(Z8.ZH M.rows a).at_<=65536)(hN:Yy (YA M a q) (q*4)=N):
  qad Tryz.prog 39 #[.pointer bv,.int .u16 a] u fun e w'=>e=.returned (.tuple #[.int .i64 ((q*4:Nat):Int),()])/\Sh w W bv bm b bj A c N B w':=by
 obtain⟨x,at_,there,n,hn,hv⟩:=h
 refine(KL vg8 hv a q hl hg hu hown hun hq h0 hat).mono ?_
 rintro e w' ⟨he,x',h⟩
 rw[hN]at h
 exact⟨he,x',at_,there,n,hn,h⟩
theorem bB{n0:Nat}(h:Sh w W bv bm b bj A c M B u)(hl:M.rows.length=16)(hg:M.own.length=2)(hu:M.used.length=64)(hown:∀(q:Nat)(o:Int),M.own[q]? =some o->o=0\/∃(r:Nat)(y:Z8.Rw),o=(r:Int)+1/\M.rows[r]? =some y)(hun:OZ 4 M a=some n0)(hn0:n0<512)(hN:Yy M n0=N):
  qad Tryz.prog 39 #[.pointer bv,.int .u16 a] u fun e w'=>e=.returned (.tuple #[n0,()])/\Sh w W bv bm b bj A c N B w':=by
 obtain⟨x,at_,there,n,hn,hv⟩:=h
 refine(KN vg8 hv a n0 hl hg hu hown hun hn0).mono ?_
 rintro e w' ⟨he,x',h⟩
 rw[hN]at h
 exact⟨he,x',at_,there,n,hn,h⟩
theorem Ay{r:Nat}{y:Z8.Rw}(h:Sh w W bv bm b bj A c M B u)(hB:B<1000)(ha:a<8)(hbit:Bits.hb M.used a=true)(hq:M.own[a/4]? =some ((r:Int)+1))(hy:M.rows[r]? =some y)(hyl:y.lab<65536)(hl:M.rows.length=16)(hg:M.own.length=2)(hu:M.used.length=64)(hrel:X4 4 (Bits.wb M.used a false) (a/4)=false->(Z8.YH M.rows (r:Int)).err=0)(hN:(if X4 4 (Bits.wb M.used a false) (a/4)then WE M a else RX M 4 a r)=N):
  qad Tryz.prog 42 #[.pointer bv,a] u fun e w'=>e=.returned (.int .i64 0)/\Sh w W bv bm b bj A c N (B+1) w':=by
 obtain⟨x,at_,there,n,hn,hv⟩:=h
 have hv2:VM (fun i=>w.heap.size<=i\/W.heap.size<=i) u u bv bm x M (ZZ 130 8 2 4 b bj (.pointer none) A c false) at_ there n:=.start hv.vs hv.map hv.pm
 refine(AQ vg8 hv2 (by unfold maxLen;omega) a r y ha hbit hq hy hyl hl hg hu hrel).mono ?_
 rintro e w' ⟨he,x',h⟩
 rw[hN]at h
 refine⟨he,x',_,_,_,?_,⟨h.vs.mono (fun i hi=>?_),h.map,?_,hv.kept.trans h.kept (fun i hi=>hi)⟩⟩
 ·split<;>omega
 ·rcases hi with hi|hi
  ·exact hi
  ·exact .inr (Nat.le_trans hv.kept.size hi)
 ·rcases h.pm with hi|hi
  ·exact hi
  ·exact .inr (Nat.le_trans hv.kept.size hi)
end
end
theorem Au(w:qac):qad Tryz.prog 15 #[] w fun e w'=>e=.returned (.bool true)/\Below w.heap.size w w':=by
 have HBU:Hid (qad Tryz.prog 16 #[.agg #[.int .i64 130,.int .i64 8,.int .i64 2,.int .i64 4]] w fun e w'=>∃(b bv bj bm:Nat)(A:Option Addr)(c:Nat),e=.returned (.tuple #[.pointer b,.pointer bv,true])/\Sh w w' bv bm b bj A c (MM .z .z 0 0 0) 0 w'/\Below w.heap.size w w'):=χ (by
  refine(IK vg8 w).mono ?_
  rintro e w' ⟨b,bv,bj,bm,S',k',x,A,c,L,he,h1,h2,h3,h4,h5,h6,h7,h8,h9,h10,h11⟩
  rw[mm0]at h1 h3
  exact⟨b,bv,bj,bm,A,c,he,⟨x,_,_,0,Nat.le_refl _,.start (Oi h1 h3 h9) (LW h2) h10⟩,h11⟩)
 have HA1:Hid (∀(W u:qac)(bv bm b bj:Nat)(A:Option Addr)(c:Nat)(h:Sh w W bv bm b bj A c (MM .z .z 0 0 0) 0 u),qad Tryz.prog 39 #[.pointer bv,.int .u16 2] u fun e w'=>e=.returned (.tuple #[(),()])/\Sh w W bv bm b bj A c (MM ⟨2,1⟩ .z 1 0 1) 0 w'):=χ (fun W u bv bm b bj A c h=>Ck h rfl rfl rfl (I1 (.inl rfl) (.inl rfl)) u1 (q:=0) (by decide+kernel) (by rw[show(MM .z .z 0 0 0).rows=XD .z .z from rfl,t1]) (by rw[show(MM .z .z 0 0 0).rows=XD .z .z from rfl,t1];decide) c1)
 have HA2:Hid (∀(W u:qac)(bv bm b bj:Nat)(A:Option Addr)(c:Nat)(h:Sh w W bv bm b bj A c (MM ⟨2,1⟩ .z 1 0 1) 0 u),qad Tryz.prog 39 #[.pointer bv,.int .u16 4] u fun e w'=>e=.returned (.tuple #[.int .i64 4,()])/\Sh w W bv bm b bj A c (MM ⟨2,1⟩ ⟨4,1⟩ 1 2 17) 0 w'):=χ (fun W u bv bm b bj A c h=>Ck h rfl rfl rfl (I1 (.inr rfl) (.inl rfl)) u2 (q:=1) (by decide+kernel) (by rw[show(MM ⟨2,1⟩ .z 1 0 1).rows=XD ⟨2,1⟩ .z from rfl,t2]) (by rw[show(MM ⟨2,1⟩ .z 1 0 1).rows=XD ⟨2,1⟩ .z from rfl,t2];decide) c2)
 have I6:Hid (∀(W u:qac)(bv bm b bj:Nat)(A:Option Addr)(c:Nat)(h:Sh w W bv bm b bj A c (MM ⟨2,1⟩ ⟨4,1⟩ 1 2 17) 0 u),qad Tryz.prog 39 #[.pointer bv,.int .u16 2] u fun e w'=>e=.returned (.tuple #[.int .i64 1,()])/\Sh w W bv bm b bj A c (MM ⟨2,1⟩ ⟨4,1⟩ 1 2 19) 0 w'):=χ (fun W u bv bm b bj A c h=>bB h rfl rfl rfl (I1 (.inr rfl) (.inr rfl)) u3 (by decide) c3)
 have dN:Hid (∀(W u:qac)(bv bm b bj:Nat)(A:Option Addr)(c:Nat)(h:Sh w W bv bm b bj A c (MM ⟨2,1⟩ ⟨4,1⟩ 1 2 19) 0 u),qad Tryz.prog 42 #[.pointer bv,()] u fun e w'=>e=.returned (.int .i64 0)/\Sh w W bv bm b bj A c (MM ⟨2,1⟩ ⟨4,1⟩ 1 2 18) 1 w'):=χ (fun W u bv bm b bj A c h=>Ay h (a:=0) (r:=0) (y:=⟨2,1⟩) (by decide) (by decide) (by decide+kernel) rfl rfl (by decide) rfl rfl rfl (fun h=>by rw[g4]at h;cases h) (by rw[g4];exact c4))
 have HA5:Hid (∀(W u:qac)(bv bm b bj:Nat)(A:Option Addr)(c:Nat)(h:Sh w W bv bm b bj A c (MM ⟨2,1⟩ ⟨4,1⟩ 1 2 18) 1 u),qad Tryz.prog 42 #[.pointer bv,.int .i64 1] u fun e w'=>e=.returned (.int .i64 0)/\Sh w W bv bm b bj A c (MM .z ⟨4,1⟩ 0 2 16) 2 w'):=χ (fun W u bv bm b bj A c h=>Ay h (a:=1) (r:=0) (y:=⟨2,1⟩) (by decide) (by decide) (by decide+kernel) rfl rfl (by decide) rfl rfl rfl (fun h=>by rw[show(MM ⟨2,1⟩ ⟨4,1⟩ 1 2 18).rows=XD ⟨2,1⟩ ⟨4,1⟩from rfl,t5]) (by rw[g5];exact c5))
 have HA6:Hid (∀(W u:qac)(bv bm b bj:Nat)(A:Option Addr)(c:Nat)(h:Sh w W bv bm b bj A c (MM .z ⟨4,1⟩ 0 2 16) 2 u),qad Tryz.prog 39 #[.pointer bv,.int .u16 8] u fun e w'=>e=.returned (.tuple #[(),()])/\Sh w W bv bm b bj A c (MM ⟨8,1⟩ ⟨4,1⟩ 1 2 17) 2 w'):=χ (fun W u bv bm b bj A c h=>Ck h rfl rfl rfl (I1 (.inl rfl) (.inr rfl)) u6 (q:=0) (by decide+kernel) (by rw[show(MM .z ⟨4,1⟩ 0 2 16).rows=XD .z ⟨4,1⟩from rfl,t6]) (by rw[show(MM .z ⟨4,1⟩ 0 2 16).rows=XD .z ⟨4,1⟩from rfl,t6];decide) c6)
 go_enter Tryz.func15,Tryz.ntmps15
 go_wp2_with (first|(go_at_call 16;go_must (with_reducible refine HBU.out.mono ?_);rintro e w1 ⟨b,bv,bj,bm,A,c,he,hsh,hb⟩;obtain rfl:=he;have HV:=χ hsh;have HB:=χ hb;clear hsh hb)|(go_at_call 39;(with_reducible refine(HA1.out _ _ _ _ _ _ _ _ HV.out).mono ?_);rintro e w2 ⟨he,h⟩;obtain rfl:=he;replace HV:=χ h;clear h)|(go_at_call 39;(with_reducible refine(HA2.out _ _ _ _ _ _ _ _ HV.out).mono ?_);rintro e w3 ⟨he,h⟩;obtain rfl:=he;replace HV:=χ h;clear h)|(go_at_call 39;(with_reducible refine(I6.out _ _ _ _ _ _ _ _ HV.out).mono ?_);rintro e w4 ⟨he,h⟩;obtain rfl:=he;replace HV:=χ h;clear h)|(go_at_call 42;(with_reducible refine(dN.out _ _ _ _ _ _ _ _ HV.out).mono ?_);rintro e w5 ⟨he,h⟩;obtain rfl:=he;replace HV:=χ h;clear h)|(go_at_call 42;(with_reducible refine(HA5.out _ _ _ _ _ _ _ _ HV.out).mono ?_);rintro e w6 ⟨he,h⟩;obtain rfl:=he;replace HV:=χ h;clear h)|(go_at_call 39;(with_reducible refine(HA6.out _ _ _ _ _ _ _ _ HV.out).mono ?_);rintro e w7 ⟨he,h⟩;obtain rfl:=he;replace HV:=χ h;clear h))
 go_ret
 refine⟨rfl,?_⟩
 obtain⟨x,at_,there,n,-,hv⟩:=HV.out
 exact HB.out.trans ((hv.kept).below (fun i hi=>hi) HB.out.size)
end Go.Proofs.YtmehhgfbnfbnaaaGreat.Zl

namespace Go.Proofs.YtmehhgfbnfbnaaaGreat.Zl
open Go.RowKit Zq Meta
end Go.Proofs.YtmehhgfbnfbnaaaGreat.Zl

namespace Go.Proofs.YtmehhgfbnfbnaaaGreat.Zl
open Go.RowKit Zq Meta
theorem Oq(w:qac):qad Tryz.prog 17 #[] w fun e w'=>e=.returned (.agg #[.int .i64 130,.int .i64 6,.int .i64 4,.int .i64 4])/\Below w.heap.size w w':=by
 have hb:=Bk.new w 29 [.int .i64 130,.int .i64 6,.int .i64 4,.int .i64 4]
 have jT:=χ (Z0 w (.cells #[.int .i64 130,.int .i64 6,.int .i64 4,.int .i64 4] 29))
 obtain⟨g0,g1,g2,g3⟩:=Z7 hb
 clear hb
 go_enter Tryz.func17,Tryz.ntmps17
 go_wp2
 first
 |(refine bodyPost_ret (v:=.agg #[.int .i64 130,.int .i64 6,.int .i64 4,.int .i64 4]) (by simp[results,Tryz.results17,go_sem,g0,g1,g2,g3]) rfl ⟨rfl,jT.out⟩)
 |(go_ret;exact⟨rfl,Below.refl _ _⟩)
end Go.Proofs.YtmehhgfbnfbnaaaGreat.Zl
set_option maxRecDepth 100000
set_option maxHeartbeats 25600000
open List renaming eq_of_mem_replicate->qaa,mem_of_getElem?->qab,length_replicate->qac,replicate->qad
namespace Go.Proofs.YtmehhgfbnfbnaaaGreat.Zl
open Go.RowKit Zq Meta Apart
def s0(j i g pp:Nat):PS:=⟨XC ⟨j,i,g,pp⟩,qad (g*pp) ZF,qad (g*pp) none⟩
theorem jN{j i g pp:Nat}(h:VG j i g pp):Yb j i g pp (s0 j i g pp) where
 ord:=by
  have hv:(⟨j,i,g,pp⟩:Meta.Geo).Ok:=h.v
  refine⟨Oa hv,Ip _,fun q o hq=>?_,fun r y hy=>?_⟩
  ·have h0:o=0:=qaa (qab hq)
   exact⟨fun _ a _=>Oc 64 a,fun _=>h0⟩
  ·have h0:y=.z:=qaa (qab hy)
   have h1:WS (XC ⟨j,i,g,pp⟩).own r=0:=by
    unfold WS
    rw[List.countP_eq_zero]
    intro o ho
    have h2:o=0:=qaa ho
    subst h2
    simp
    omega
   have h2:Vm (XC ⟨j,i,g,pp⟩).ino r=0:=by
    unfold Vm
    rw[List.countP_eq_zero]
    intro o ho
    have h2:o=.z:=qaa ho
    subst h2
    simp[Z9.ZC.z]
   show y.refs=((WS (XC ⟨j,i,g,pp⟩).own r+Vm (XC ⟨j,i,g,pp⟩).ino r:Nat):Int)
   rw[h1,h2,h0]
   rfl
 bl:=qac
 dl:=qac
 b64 b hb:=by
  rw[qaa hb]
  simp[ZF]
 zero a b _ hb:=qaa (qab hb)
 tag t ht:=by
  have:=qaa ht
  cases this
theorem iI(j i g pp:Nat):Fa (g*pp) (s0 j i g pp) (fun _=>ZF) (fun _=>zx) (fun _=>false) 0 where
 th k hk:=by cases hk
 dir a t ht:=by
  have:=qaa (qab ht)
  cases this
 cln a ha:=⟨rfl,by
  have hlt:a<g*pp:=by
   have:=(List.getElem?_eq_some_iff.1 ha).1
   rwa[show(s0 j i g pp).D.length=g*pp from qac]at this
  show(qad (g*pp) ZF)[a]? =some ZF
  rw[List.getElem?_replicate,if_pos hlt]⟩
 cnt:=by
  show 0=(qad (g*pp) (none:Option Nat)).countP Option.isSome
  rw[List.countP_replicate]
  simp
section
variable {w u:World}{S:Nat->Prop}{b bj F n q:Nat}{k:Dk Sx}{B:Nat}
theorem DJ.SQ (h:DJ B u S bj b F n q k){i:Nat}{o:Obj}(ho:u.heap[i]? =some o)(hn:∀c e,o=.cells c e (0,0)->¬ iJ e):¬ S i/\i≠bj:=by
 refine⟨fun hs=>?_,fun he=>?_⟩
 ·obtain⟨c,e,h1,h2⟩:=typed h.disk hs
  rw[ho]at h1
  cases h1
  exact hn _ _ rfl h2
 ·subst he
  have hj:u.heap[i]? =_:=h.jb
  rw[ho]at hj
  cases hj
  exact hn _ _ rfl (.inr (.inr (.inr rfl)))
end
end Go.Proofs.YtmehhgfbnfbnaaaGreat.Zl
