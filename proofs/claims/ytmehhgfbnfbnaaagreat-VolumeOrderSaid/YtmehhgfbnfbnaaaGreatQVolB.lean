import Derived.Test.YtmehhgfbnfbnaaaGreatQVolA
import Derived.Test.YtmehhgfbnfbnaaaGreatQTk
import Derived.WalkSpells
import Derived.Test.YtmehhgfbnfbnaaaGreatQMetaX1
import Derived.Test.YtmehhgfbnfbnaaaGreatQBits
import Derived.Deep.QuietTactic
set_option maxRecDepth 100000
set_option maxHeartbeats 25600000
open List renaming getElem?_cons_zero->qaa,getElem?_eq_getElem->qaj,mem_of_getElem?->qak,getElem?_eq_some_iff->qal,map_nil->qam
open Go.IntKind renaming wrap_i64->qab,i64->qag
open Go.Value renaming slice->qac
open Go.RowKit renaming Below->qad
open Array renaming replicate->qae
open Go renaming World->qaf,Calls->qai
open Nat renaming le_refl->qah
namespace Go.Proofs.YtmehhgfbnfbnaaaGreat.Zl
open Go.RowKit Zq Meta
theorem zL(n:Nat)(h:n<=65536)(u:qaf):(Instr.makeSlice 130 (.int .i64 n) (.int .i64 n)).run Tryz.prog u=
  .ok (.slice u.heap.size n n) (u.alloc (.cells (qae n (qac none 0 0)) 37)):=by
 obtain⟨i0,hi,hz0,hz1,hz2⟩:=info_parts RO
 have hr:=run_make (P:=Tryz.prog) u 130 37 i0 (.slice none 0 0) Tryz.underlying130 hi hz0 .i64 .i64 (n:Int) (n:Int) (by omega) (Int.le_refl _) (by rw[hz2];omega) (by omega)
 have e:(madeCells (qac none 0 0).cells (n*i0.size))=qae n (qac none 0 0):=by
  apply Array.ext'
  rw[hz1,Nat.mul_one]
  have:=toList_madeCells_one (.slice none 0 0) n
  simp at this⊢
  exact this
 simp only[Int.toNat_natCast,e]at hr
 exact hr
theorem EI{B:Nat}{w:qaf}{S:Nat->Prop}{b:Nat}{k:Dk Sx}(hD:DO B w S b k)(f:Int)(F n:Nat)(hf:f=(F:Int))(hF:F<=4096)(acX:n<=100)(l:List (List UInt8))(hl:l.length=n)(h64:∀y∈l,y.length=64)(hk:∀(a:Nat)(y:List UInt8),l[a]? =some y->∃c,k.now[F+a]? =some c/\c.b=y)(hd:k.dead=false):
  qai Tryz.prog 81 #[.pointer b,f,n] w fun e w'=>∃A c L,e=.returned (.slice A n c)/\TE w' w.heap.size (.slice A n c) L l/\n<=c/\qad w.heap.size w w':=by
 subst hf
 have HD:=χ hD
 have HL:=χ hl
 have H64:=χ h64
 have Im:Hid (∀(u:qaf)(a:Nat)(y:List UInt8),DO B u S b k->l[a]? =some y->qai Tryz.prog 50 #[.pointer b,.int .i64 ((F:Int)+(a:Int))] u fun e w'=>e=.returned (.tuple #[.slice (some ⟨u.heap.size,0,none⟩) 64 64,()])/\Bk w' u.heap.size 161 (Z6 y)/\qad u.heap.size u w'):=χ (fun u a y hu hy=>by
  obtain⟨c,h1,h2⟩:=hk a y hy
  have:=LD hu h1 hd
  rw[h2,show((F+a:Nat):Int)=(F:Int)+(a:Int)by omega]at this
  exact this)
 have hmk:=zL n (by omega)
 clear hD hl h64 hk hd
 go_enter Tryz.func81,Tryz.ntmps81
 go_wp2
 have hal:=Z0 w (.cells (qae n (qac none 0 0)) 37)
 have HD0:=χ (HD.out.below hal)
 have Qj:Hid ((w.alloc (.cells (qae n (qac none 0 0)) 37)).ownsRow w.heap.size 37 1 (.slice w.heap.size n n) n (Q6 n [] [])):=χ (by
  have:=(Bk.new w 37 (List.replicate n (qac none 0 0))).own (base:=w.heap.size) n (by simp) (qah _) (by unfold maxLen;omega)
  rw[show qae n (qac none 0 0)=(List.replicate n (qac none 0 0)).toArray by simp]
  simpa only[Q6,X3,List.zip_nil_right,qam,List.nil_append,List.length_nil,Nat.sub_zero]using this)
 have HB:=χ hal
 clear hal hmk
 generalize w.alloc (.cells (qae n (qac none 0 0)) 37)=W at*
 go_loopw [8,13] (fun _ kc wr=>∃(a:Nat)(L:List Sc),kc=.int .i64 a/\a<=n/\Hid (qad w.heap.size w wr)/\Hid (DO B wr S b k)/\Hid (L.length=a)/\Hid (wr.ownsRow w.heap.size 37 1 (.slice w.heap.size n n) n (Q6 n L (l.take a)))/\Hid (∀(q:Nat)(s:Sc)(y:List UInt8),L[q]? =some s->l[q]? =some y->∃g,s.A=some ⟨g,0,none⟩/\y.length<=s.c/\s.c<=maxLen/\Bk wr g 161 (Z6 y)/\w.heap.size<=g)) (fun _ kc _=>n-(intOf kc).toNat)
 case atStart=>exact⟨0,[],rfl,Nat.zero_le _,HB,HD0,χ rfl,by rw[List.take_zero];exact Qj,χ (fun q s y h=>by simp at h)⟩
 case round=>
  clear Qj HD0 HB
  obtain⟨a,L,rfl,ha,HB,HDR,nE,Qj,HEA⟩:=hrel
  have HTL:Hid ((l.take a).length=a):=χ (by rw[List.length_take,HL.out];omega)
  by_cases hlt:a<n
  ·obtain⟨y,hy⟩:∃y,l[a]? =some y:=⟨_,qaj (by rw[HL.out];exact hlt)⟩
   have zV:=H64.out y (qak hy)
   have aao:=χ (Im.out wr a y HDR.out hy)
   have HTA:Hid (l.take (a+1)=l.take a++[y]):=χ (by rw[List.take_add_one,hy];rfl)
   have HY:=χ hy
   have aap:=χ zV
   have V7:(a:Int)<(n:Int):=by omega
   have hi0:(0:Int)<=(a:Int):=by omega
   have wh:qag.wrap ((a:Int)+1)=((a+1:Nat):Int):=by rw[qab];omega
   have hfw:qag.wrap ((F:Int)+(a:Int))=(F:Int)+(a:Int):=by rw[qab];omega
   clear hy zV
   have hta:=HTL.out
   have KC:Hid (∀u,qad wr.heap.size wr u->(∃z,u.cell? ⟨w.heap.size,a,none⟩=some z)/\u.frozen? ⟨w.heap.size,a,none⟩=false):=χ (fun u hu=>Xo (own_below Qj.out hu) a (by omega))
   clear hta
   go_wp2_with (go_at_call 50;(with_reducible refine aao.out.mono ?_);rintro e w1 ⟨he,hbk,hb⟩;obtain rfl:=he;have HB1:=χ hb;have OH:=χ hbk;obtain⟨⟨z,hz⟩,hf⟩:=KC.out _ hb;clear hbk hb)
   have Il:=own_below Qj.out HB1.out
   obtain⟨hst,hgr⟩:=Il.stored a (.slice wr.heap.size 64 64)
   have jG:(Q6 n L (l.take a)).set a (.slice wr.heap.size 64 64)=Q6 n (L++[⟨some ⟨wr.heap.size,0,none⟩,64⟩]) (l.take (a+1)):=by
    have:=zK (n:=n) (L:=L) (l:=l.take a) (by rw[nE.out,HTL.out]) (by rw[HTL.out];exact hlt) ⟨some ⟨wr.heap.size,0,none⟩,64⟩ y
    rw[HTL.out,aap.out]at this
    rw[HTA.out]
    exact this
   rw[jG]at hst
   have aaq:=χ hst
   have RV:=χ ((HB.out.trans (HB1.out.mono HB.out.size)).setCell (p:=⟨w.heap.size,a,none⟩) (qah _) (.slice wr.heap.size 64 64))
   have abK:Hid (DO B (w1.setCell ⟨w.heap.size,a,none⟩ (.slice wr.heap.size 64 64)) S b k):=χ (by
    have h1:=HDR.out.below HB1.out
    refine⟨h1.disk.keep fun q hq=>hgr.block q (h1.disk.lt hq) (fun e=>?_),h1.lo⟩
    obtain⟨c',e',k1,k2⟩:=typed h1.disk hq
    injection e with e
    rcases Il.2 with⟨hv,_⟩|⟨g',cap,cur,hv,_,hg,_⟩
    ·cases hv
    ·injection hv with hv _ _
     injection hv with hv
     injection hv with hv
     rw[e,hv,hg]at k1
     cases k1
     exact absurd k2 (by decide))
   have abL:Hid ((L++[(⟨some ⟨wr.heap.size,0,none⟩,64⟩:Sc)]).length=a+1):=χ (by rw[List.length_append,nE.out];rfl)
   have abM:Hid (∀(q:Nat)(s:Sc)(y:List UInt8),(L++[(⟨some ⟨wr.heap.size,0,none⟩,64⟩:Sc)])[q]? =some s->l[q]? =some y->∃g,s.A=some ⟨g,0,none⟩/\y.length<=s.c/\s.c<=maxLen/\Bk (w1.setCell ⟨w.heap.size,a,none⟩ (.slice wr.heap.size 64 64)) g 161 (Z6 y)/\w.heap.size<=g):=χ (fun q s y' h1 h2=>by
    rcases Nat.lt_or_ge q L.length with hq|hq
    ·rw[List.getElem?_append_left hq]at h1
     obtain⟨g',e1,e2,e3,e4,e6⟩:=HEA.out q s y' h1 h2
     have e5:=e4.below HB1.out e4.lt
     exact⟨g',e1,e2,e3,e5.grown hgr (R6 e5 Il (by decide)),e6⟩
    ·rw[List.getElem?_append_right hq]at h1
     have hz:q=a:=by
      have:=(qal.1 h1).1
      simp at this
      have:=nE.out
      omega
     subst hz
     rw[nE.out,Nat.sub_self]at h1
     simp only[qaa,Option.some.injEq]at h1
     subst h1
     rw[HY.out]at h2
     injection h2 with h2
     subst h2
     exact⟨_,rfl,by rw[aap.out];exact qah _,by show 64<=maxLen;decide,OH.out.grown hgr (R6 OH.out Il (by decide)),HB.out.size⟩)
   clear Il hst hgr jG
   go_roundw
   case rel=>exact⟨a+1,_,by first|rfl|(congr 1),hlt,RV,abK,abL,aaq,abM⟩
   case measure=>simp[intOf];omega
  ·obtain rfl:n=a:=by omega
   have HS:Hid (TE wr w.heap.size (.slice w.heap.size n n) L l):=χ (by
    have ht:l.take n=l:=List.take_of_length_le (by rw[HL.out];exact qah _)
    have hr:=Qj.out
    rw[ht]at hr
    refine⟨nE.out.trans HL.out.symm,?_,HEA.out⟩
    rw[HL.out]
    simpa[Q6,HL.out]using hr)
   go_wp2_with fail
   go_ret
   exact⟨_,_,L,rfl,HS.out,qah _,HB.out⟩
end Go.Proofs.YtmehhgfbnfbnaaaGreat.Zl

namespace Go.Proofs.YtmehhgfbnfbnaaaGreat.Zl
open Go.RowKit Zq Meta
theorem ZY{w:qaf}{g:Nat}{e:TypeId}{a0 a1 a2 a3 a4 a5 a6 a7 a8 a9 R9 R8 a12 R7:Value}(h:Bk w g e [a0,a1,a2,a3,a4,a5,a6,a7,a8,a9,R9,R8,a12,R7]):w.cell? ⟨g,0,none⟩=some a0/\w.cell? ⟨g,1,none⟩=some a1/\w.cell? ⟨g,2,none⟩=some a2/\w.cell? ⟨g,3,none⟩=some a3/\w.cell? ⟨g,4,none⟩=some a4/\w.cell? ⟨g,5,none⟩=some a5/\w.cell? ⟨g,6,none⟩=some a6/\w.cell? ⟨g,7,none⟩=some a7/\w.cell? ⟨g,8,none⟩=some a8/\w.cell? ⟨g,9,none⟩=some a9/\w.cell? ⟨g,10,none⟩=some R9/\w.cell? ⟨g,11,none⟩=some R8/\w.cell? ⟨g,12,none⟩=some a12/\w.cell? ⟨g,13,none⟩=some R7:=
 ⟨h.cell 0,h.cell 1,h.cell 2,h.cell 3,h.cell 4,h.cell 5,h.cell 6,h.cell 7,h.cell 8,h.cell 9,h.cell 10,h.cell 11,h.cell 12,h.cell 13⟩
theorem gM(k:Nat):((k:Int)==0)=(k==0):=by
 cases k with
 |zero=>rfl
 |succ k=>simp;omega
theorem YO(n:Z9.ZC)(ho:Z9.YP n)(w:qaf):qai Tryz.prog 91 #[.agg (Z9.ZX n).toArray] w fun e w'=>e=.returned (.bool (n.k==0))/\qad w.heap.size w w':=by
 obtain⟨k,rr,l,s,p⟩:=n
 obtain⟨p0,p1,p2,p3,p4,p5,p6,p7,p8,p9,hp⟩:=Z9.Xh ho.len
 simp only at hp
 subst hp
 clear ho
 have hk:=gM k
 obtain⟨bb,hbb⟩:∃bb,(k==0)=bb:=⟨_,rfl⟩
 simp only[Z9.ZX,Z9.ZM,List.map_cons,qam]
 rw[hbb]at hk⊢
 clear hbb
 have hb:=Z0 w (.cells #[.int .u8 k,.int .u8 rr,l,s,p0,p1,p2,p3,p4,p5,p6,p7,p8,p9] 40)
 have HB:=χ hb
 have c0:=(Bk.new w 40 [.int .u8 k,.int .u8 rr,l,s,p0,p1,p2,p3,p4,p5,p6,p7,p8,p9]).cell 0
 simp only[qaa]at c0
 clear hb
 go_enter Tryz.func91,Tryz.ntmps91
 go_wp2
 go_ret
 exact⟨rfl,HB.out⟩
def X4(pp:Nat)(u:List UInt8)(q:Nat):Bool:=decide (0<Bits.cnt u ((q:Int)*(pp:Int)) ((q:Int)*(pp:Int)+(pp:Int)) (8*u.length))
theorem LG(j i g pp q:Nat)(u:List UInt8)(A:Option Addr)(c:Nat)(w:qaf)(hl:u.length=64)(hr:Rd w w.heap.size A (Z6 u))(hq:(q:Int)*(pp:Int)+(pp:Int)<=512):
  qai Tryz.prog 109 #[.agg #[j,i,g,pp],.slice A 64 c,q] w fun e w'=>e=.returned (.bool (X4 pp u q))/\qad w.heap.size w w':=by
 obtain⟨x,hx⟩:∃x:Int,(q:Int)*(pp:Int)=x:=⟨_,rfl⟩
 have hx0:0<=x:=by rw[<-hx];exact Int.mul_nonneg (by omega) (by omega)
 rw[hx]at hq
 have hw1:qag.wrap x=x:=by rw[qab];omega
 have hw2:qag.wrap (x+(pp:Int))=x+(pp:Int):=by rw[qab];omega
 have aan:Hid (∀v:qaf,qad w.heap.size w v->qai Tryz.prog 179 #[.slice A 64 c,x,.int .i64 (x+(pp:Int))] v fun e w'=>e=.returned (.int .i64 ((Bits.cnt u x (x+(pp:Int)) (8*u.length):Nat):Int))/\∃m,w'=v.drewN m):=χ (fun v hv=>
  Bits.zM u A 64 c _ x (x+(pp:Int)) v hl ((hr.below hv).more hv.size) (by decide) (by omega))
 have hus:X4 pp u q=decide (0<Bits.cnt u x (x+(pp:Int)) (8*u.length)):=by unfold X4;rw[hx]
 rw[hus]
 obtain⟨n,hn⟩:∃n,Bits.cnt u x (x+(pp:Int)) (8*u.length)=n:=⟨_,rfl⟩
 rw[hn]at aan⊢
 have HG:=χ (BU w j i g pp)
 have HB:=χ (Z0 w (.cells #[j,i,g,pp] 29))
 clear hus hn hr hl
 obtain⟨g0,g1,g2,g3⟩:=Z7 HG.out
 go_enter Tryz.func109,Tryz.ntmps109
 go_upto_region 1 with fail
 generalize w.alloc (.cells #[j,i,g,pp] 29)=W at*
 go_wp2_with (go_at_call 179;(with_reducible refine(aan.out _ HB.out).mono ?_);rintro e w1 ⟨he,m,hb⟩;obtain rfl:=he;have HW:=χ hb;clear hb)
 go_ret
 exact⟨rfl,by rw[HW.out];exact Z9.below_drewN HB.out m⟩
theorem LF(rows:List Z8.Rw)(r:Nat)(x:Z8.Rw)(hx:rows[r]? =some x)(hrl:rows.length=16)(A:Option Addr)(c:Nat)(mB:Nat)(v1 v2 v3:Value)(w:qaf)(hb:Bk w mB 60 [.slice A 16 c,v1,v2,v3])(hr:Rd w w.heap.size A (Z8.ZV rows)):
  qai Tryz.prog 157 #[r,.pointer mB] w fun e w'=>e=.returned (.bool (decide (0<x.refs)))/\w=w':=by
 have hlt:=(qal.1 hx).1
 obtain⟨bb,hbb⟩:∃bb,decide (0<x.refs)=bb:=⟨_,rfl⟩
 rw[hbb]
 rcases Z8.Va hr with h|⟨b,o,rfl,-,hat⟩
 ·rw[h]at hx;simp at hx
 ·obtain⟨-,h2⟩:=hat r x hx
  have c0:=hb.cell 0
  simp only[qaa]at c0
  have hr0:(0:Int)<=(r:Int):=by omega
  have Kg:(r:Int)<16:=by omega
  clear hb hr hat hx hlt
  go_enter Tryz.func157,Tryz.ntmps157
  go_wp2
  go_ret
  exact⟨rfl,rfl⟩
structure Cons(pp:Nat)(m:Meta.Met):Prop where
 free:∀(q:Nat),m.own[q]? =some 0->X4 pp m.used q=false
 held:∀(q:Nat)(o:Int),m.own[q]? =some o->0<o->∃r,m.rows[(o-1).toNat]? =some r/\0<r.refs
 ino:∀n∈m.ino,n.k≠0->∃r,m.rows[n.r]? =some r/\0<r.refs
theorem zN(rows:List Z8.Rw)(n:Z9.ZC)(ho:Z9.YP n)(hrl:rows.length=16)(hc:n.k≠0->∃r,rows[n.r]? =some r/\0<r.refs)(A:Option Addr)(c:Nat)(mB fB:Nat)(v1 v2 v3:Value)(w:qaf)(hb:Bk w mB 60 [.slice A 16 c,v1,v2,v3])(hf:Bk w fB 150 [.func (.func 157) #[] #[.pointer mB]])(hr:Rd w w.heap.size A (Z8.ZV rows)):
  qai Tryz.prog 159 #[.agg (Z9.ZX n).toArray,.pointer fB] w fun e w'=>e=.returned (.bool false)/\qad w.heap.size w w':=by
 have gN:Hid (∀u:qaf,qai Tryz.prog 91 #[.agg (Z9.ZX n).toArray] u fun e w'=>e=.returned (.bool (n.k==0))/\qad u.heap.size u w'):=χ (fun u=>YO n ho u)
 have VF:Hid (∀u:qaf,qad w.heap.size w u->n.k≠0->qai Tryz.prog 157 #[n.r,.pointer mB] u fun e w'=>e=.returned (.bool true)/\u=w'):=χ (fun u hu hk=>by
  obtain⟨r,h1,h2⟩:=hc hk
  have:=LF rows n.r r h1 hrl A c mB v1 v2 v3 u (hb.below hu hb.lt) ((hr.below hu).more hu.size)
  rwa[decide_eq_true h2]at this)
 have HF:=χ hf
 obtain⟨k,rr,l,s,p⟩:=n
 obtain⟨p0,p1,p2,p3,p4,p5,p6,p7,p8,p9,hp⟩:=Z9.Xh ho.len
 have acW:rr<256:=ho.r
 have hrw:qag.wrap (rr:Int)=(rr:Int):=by rw[qab];omega
 simp only at hp
 subst hp
 clear hc hb hf hr ho
 simp only[Z9.ZX,Z9.ZM,List.map_cons,qam]at gN VF⊢
 have hal:=Z0 w (.cells #[.int .u8 k,.int .u8 rr,l,s,p0,p1,p2,p3,p4,p5,p6,p7,p8,p9] 40)
 have HB:=χ hal
 have Zk:=χ (Bk.new w 40 [.int .u8 k,.int .u8 rr,l,s,p0,p1,p2,p3,p4,p5,p6,p7,p8,p9])
 have aS:=χ (HF.out.below hal HF.out.lt)
 clear hal
 by_cases hk:k=0
 ·have hkb:(k==0)=true:=by simp[hk]
  rw[hkb]at gN
  clear hkb hk VF aS
  go_enter Tryz.func159,Tryz.ntmps159
  go_upto_region 1 with fail
  generalize w.alloc (.cells #[.int .u8 k,.int .u8 rr,l,s,p0,p1,p2,p3,p4,p5,p6,p7,p8,p9] 40)=W at*
  obtain⟨x0,x1,x2,x3,x4,x5,x6,x7,x8,x9,x10,x11,gL,gK⟩:=ZY Zk.out
  go_wp2_with (go_at_call 91;(with_reducible refine(gN.out _).mono ?_);rintro e w1 ⟨he,hb⟩;obtain rfl:=he;have HB1:=χ (HB.out.trans (hb.mono HB.out.size));clear hb)
  go_ret
  exact⟨rfl,HB1.out⟩
 ·have HK:=χ (VF.out · · hk)
  have hkb:(k==0)=false:=by simp[hk]
  rw[hkb]at gN
  clear hkb
  go_enter Tryz.func159,Tryz.ntmps159
  go_upto_region 1 with fail
  generalize w.alloc (.cells #[.int .u8 k,.int .u8 rr,l,s,p0,p1,p2,p3,p4,p5,p6,p7,p8,p9] 40)=W at*
  obtain⟨x0,x1,x2,x3,x4,x5,x6,x7,x8,x9,x10,x11,gL,gK⟩:=ZY Zk.out
  have f0:=aS.out.cell 0
  simp only[qaa]at f0
  go_wp2_with (first
   |(go_at_call 91;(with_reducible refine(gN.out _).mono ?_);rintro e w1 ⟨he,hb⟩;obtain rfl:=he;have HB1:=χ (HB.out.trans (hb.mono HB.out.size));have e1:=(Zk.out.below hb Zk.out.lt).cell 1;have f0:=(aS.out.below hb aS.out.lt).cell 0;simp only[List.getElem?_cons_succ,qaa]at e1 f0;clear hb)
   |(go_at_call 157;(with_reducible refine(HK.out _ HB1.out).mono ?_);rintro e w2 ⟨he,hb⟩;obtain rfl:=he;subst hb))
  go_ret
  exact⟨rfl,HB1.out⟩
end Go.Proofs.YtmehhgfbnfbnaaaGreat.Zl

namespace Go.Proofs.YtmehhgfbnfbnaaaGreat.Zl
open Go.RowKit Zq Meta
theorem index_none(l:List Z9.ZC)(ho:∀m∈l,Z9.YP m)(A:Option Addr)(n c fB:Nat)(w:qaf)(hn:l.length=n)(hr:Rd w w.heap.size A (Y3 l))(hm:n<=1000000)
  (hc:∀u:qaf,qad w.heap.size w u->∀x∈l,qai Tryz.prog 159 #[.agg (Z9.ZX x).toArray,.pointer fB] u fun e w'=>e=.returned (.bool false)/\qad u.heap.size u w'):
  qai Tryz.prog 105 #[.slice A n c,.func (.func 159) #[] #[.pointer fB]] w fun e w'=>e=.returned (.int .i64 (-1))/\qad w.heap.size w w':=by
 have Hn:=χ hn
 have Hr:=χ hr
 have HO:=χ ho
 have HC:=χ hc
 clear ho hn hr hc
 go_enter Tryz.func105,Tryz.ntmps105
 go_wp2
 go_loopw [5,8] (fun _ i wr=>∃j:Nat,j<=n/\i=.int .i64 j/\Hid (qad w.heap.size w wr)) (fun _ i _=>n-(intOf i).toNat)
 case atStart=>exact⟨0,Nat.zero_le _,rfl,χ (qad.refl _ _)⟩
 case round=>
  obtain⟨j,hj,rfl,HB⟩:=hrel
  by_cases hlt:j<n
  ·obtain⟨x,hx⟩:∃x,l[j]? =some x:=⟨_,qaj (by rw[Hn.out];exact hlt)⟩
   have hmem:=qak hx
   have hox:=HO.out x hmem
   obtain⟨b,o,hA,hb⟩:=YU Hr.out (by rw[Y8 HO.out,Hn.out];omega)
   subst hA
   have Mw:=χ (Yi (Hr.out.below HB.out) HO.out hx)
   have TW:=χ (Yu x hox)
   have E5:=χ (HC.out wr HB.out x hmem)
   clear hox hmem hx
   generalize hcx:Z9.ZX x=cx at*
   clear hcx
   have V7:(j:Int)<(n:Int):=by omega
   have hj0:(0:Int)<=(j:Int):=by omega
   go_wp2_with (first|(refine wpList_load_mid rfl 40 (.tmp 15) rfl b (o+j*14) rfl cx _ Mw.out Tryz.underlying40 rfl TW.out ?_)|(refine wpList_load_mid rfl 40 (.tmp 14) rfl b (o+j*14) rfl cx _ Mw.out Tryz.underlying40 rfl TW.out ?_)|(go_at_call 159;(with_reducible refine E5.out.mono ?_);rintro e w2 ⟨he,hb⟩;obtain rfl:=he;have HB2:=χ (HB.out.trans (hb.mono HB.out.size));clear hb))
   go_roundw
   case rel=>exact⟨j+1,by omega,by go_num,HB2⟩
   case measure=>simp[intOf];omega
  ·obtain rfl:j=n:=by omega
   go_wp2
   go_ret
   exact⟨rfl,HB.out⟩
theorem Mm(l:List Z9.ZC)(ho:∀m∈l,Z9.YP m)(A:Option Addr)(n c fB:Nat)(w:qaf)(hn:l.length=n)(hr:Rd w w.heap.size A (Y3 l))(hm:n<=1000000)
  (hc:∀u:qaf,qad w.heap.size w u->∀x∈l,qai Tryz.prog 159 #[.agg (Z9.ZX x).toArray,.pointer fB] u fun e w'=>e=.returned (.bool false)/\qad u.heap.size u w'):
  qai Tryz.prog 158 #[.slice A n c,.func (.func 159) #[] #[.pointer fB]] w fun e w'=>e=.returned (.bool false)/\qad w.heap.size w w':=by
 have HX:=χ (index_none l ho A n c fB w hn hr hm hc)
 go_enter Tryz.func158,Tryz.ntmps158
 go_wp2_with (go_at_call 105;(with_reducible refine HX.out.mono ?_);rintro e w2 ⟨he,hb⟩;obtain rfl:=he;have HB:=χ hb;clear hb)
 go_ret
 exact⟨rfl,HB.out⟩
theorem nG{j i g pp:Nat}(h:VG j i g pp)(m:Meta.Met)(ho:Rc m)(hc:Cons pp m)(M0 M1 M2 M3:Option Addr)(e0 e1 e2 e3:Nat)(w:qaf)(h0:m.rows.length=16)(h1:m.own.length=g)(h2:m.used.length=64)(h3:m.ino.length=i)(hpos:∀x∈m.own,0<=x/\x<=16)(hl:Wv w w.heap.size ⟨M0,e0,M1,e1,M2,e2,M3,e3⟩ m):
  qai Tryz.prog 83 #[.agg #[j,i,g,pp],.agg #[.slice M0 16 e0,.slice M1 g e1,.slice M2 64 e2,.slice M3 i e3]] w fun e w'=>e=.returned (.bool true)/\qad w.heap.size w w':=by
 have V8:=h.v.gp
 have hi2:=h.v.i2
 have hg2:=h.v.g2
 have HIU:Hid (∀(u:qaf)(q:Nat),qad w.heap.size w u->q<g->qai Tryz.prog 109 #[.agg #[j,i,g,pp],.slice M2 64 e2,q] u fun e w'=>e=.returned (.bool (X4 pp m.used q))/\qad u.heap.size u w'):=χ (fun u q hu hq=>
  LG j i g pp q m.used M2 e2 u h2 (((hl.used).below hu).more hu.size) (by
   have h6:((q:Int)+1)*(pp:Int)<=(g:Int)*(pp:Int):=Int.mul_le_mul_of_nonneg_right (by omega) (by omega)
   have h7:((q:Int)+1)*(pp:Int)=(q:Int)*(pp:Int)+(pp:Int):=by rw[Int.add_mul,Int.one_mul]
   omega))
 obtain⟨W,hW⟩:∃W,W=((w.alloc (.cells #[j,i,g,pp] 29)).alloc (.cells #[.slice M0 16 e0,.slice M1 g e1,.slice M2 64 e2,.slice M3 i e3] 60)).alloc (.cells #[.func (.func 157) #[] #[.pointer (some ⟨w.heap.size+1,0,none⟩)]] 150):=⟨_,rfl⟩
 have hst:=Bk.new ((w.alloc (.cells #[j,i,g,pp] 29)).alloc (.cells #[.slice M0 16 e0,.slice M1 g e1,.slice M2 64 e2,.slice M3 i e3] 60)) 150 [.nilFunc]
 rw[show((w.alloc (.cells #[j,i,g,pp] 29)).alloc (.cells #[.slice M0 16 e0,.slice M1 g e1,.slice M2 64 e2,.slice M3 i e3] 60)).heap.size=w.heap.size+1+1 by simp]at hst
 have hs0:=hst.cell 0
 have hs1:=hst.frozen 0
 simp only[qaa]at hs0
 have hsr:Sem.run Tryz.prog (store ⟨w.heap.size+1+1,0,none⟩ (.func (.func 157) #[] #[.pointer (some ⟨w.heap.size+1,0,none⟩)])) (((w.alloc (.cells #[j,i,g,pp] 29)).alloc (.cells #[.slice M0 16 e0,.slice M1 g e1,.slice M2 64 e2,.slice M3 i e3] 60)).alloc (.cells #[.nilFunc] 150))=.ok () ((((w.alloc (.cells #[j,i,g,pp] 29)).alloc (.cells #[.slice M0 16 e0,.slice M1 g e1,.slice M2 64 e2,.slice M3 i e3] 60)).alloc (.cells #[.nilFunc] 150)).setCell ⟨w.heap.size+1+1,0,none⟩ (.func (.func 157) #[] #[.pointer (some ⟨w.heap.size+1,0,none⟩)])):=by
  generalize (((w.alloc (.cells #[j,i,g,pp] 29)).alloc (.cells #[.slice M0 16 e0,.slice M1 g e1,.slice M2 64 e2,.slice M3 i e3] 60)).alloc (.cells #[.nilFunc] 150))=V at*
  rw[run_store _ _ _ _ _ rfl]
  simp[hs0,hs1]
 have hbW:qad w.heap.size w W:=by rw[hW];exact((qad.refl _ _).alloc (qah _) _|>.alloc (by simp) _).alloc (by simp;omega) _
 have hG:Bk W w.heap.size 29 [j,i,g,pp]:=by rw[hW];exact Y2 (Y2 (Bk.new w 29 [j,i,g,pp]) _) _
 have hM:Bk W (w.heap.size+1) 60 [.slice M0 16 e0,.slice M1 g e1,.slice M2 64 e2,.slice M3 i e3]:=by
  rw[hW]
  have:=Y2 (Bk.new (w.alloc (.cells #[j,i,g,pp] 29)) 60 [.slice M0 16 e0,.slice M1 g e1,.slice M2 64 e2,.slice M3 i e3]) (.cells #[.func (.func 157) #[] #[.pointer (some ⟨w.heap.size+1,0,none⟩)]] 150)
  rw[show(w.alloc (.cells #[j,i,g,pp] 29)).heap.size=w.heap.size+1 by simp]at this
  exact this
 have hF:Bk W (w.heap.size+1+1) 150 [.func (.func 157) #[] #[.pointer (some ⟨w.heap.size+1,0,none⟩)]]:=by
  rw[hW]
  have:=Bk.new ((w.alloc (.cells #[j,i,g,pp] 29)).alloc (.cells #[.slice M0 16 e0,.slice M1 g e1,.slice M2 64 e2,.slice M3 i e3] 60)) 150 [.func (.func 157) #[] #[.pointer (some ⟨w.heap.size+1,0,none⟩)]]
  rw[show((w.alloc (.cells #[j,i,g,pp] 29)).alloc (.cells #[.slice M0 16 e0,.slice M1 g e1,.slice M2 64 e2,.slice M3 i e3] 60)).heap.size=w.heap.size+1+1 by simp]at this
  exact this
 have VF:Hid (∀(u:qaf)(o:Nat)(q:Nat),qad W.heap.size W u->m.own[q]? =some (o:Int)->0<o->qai Tryz.prog 157 #[.int .i64 ((o:Int)-1),.pointer (some ⟨w.heap.size+1,0,none⟩)] u fun e w'=>e=.returned (.bool true)/\u=w'):=χ (fun u o q hu hq h0'=>by
  obtain⟨r,k1,k2⟩:=hc.held q o hq (by omega)
  have hwu:=hbW.trans (hu.mono hbW.size)
  have e1:((o:Int)-1).toNat=o-1:=by omega
  rw[e1]at k1
  have:=LF m.rows (o-1) r k1 h0 M0 e0 (w.heap.size+1) _ _ _ u (hM.below hu hM.lt) ((hl.rows.below hwu).more hwu.size)
  rwa[decide_eq_true k2,show((o-1:Nat):Int)=(o:Int)-1 by omega]at this)
 have HCI:Hid (∀(u:qaf),qad W.heap.size W u->qai Tryz.prog 158 #[.slice M3 i e3,.func (.func 159) #[] #[.pointer (some ⟨w.heap.size+1+1,0,none⟩)]] u fun e w'=>e=.returned (.bool false)/\qad u.heap.size u w'):=χ (fun u hu=>by
  have hwu:=hbW.trans (hu.mono hbW.size)
  refine Mm m.ino ho.ino M3 i e3 _ u h3 ((hl.ino.below hwu).more hwu.size) (by omega) (fun v hv x hx=>?_)
  have hWv:=hu.trans (hv.mono hu.size)
  have hwv:=hbW.trans (hWv.mono hbW.size)
  exact zN m.rows x (ho.ino x hx) h0 (hc.ino x hx) M0 e0 _ _ _ _ _ v (hM.below hWv hM.lt) (hF.below hWv hF.lt) ((hl.rows.below hwv).more hwv.size))
 have HOW:Hid (∀u:qaf,qad w.heap.size w u->Rd u u.heap.size M1 (Z9.ZM m.own)):=χ (fun u hu=>(hl.own.below hu).more hu.size)
 have gN:=χ hc.free
 have HPS:=χ hpos
 have H1:=χ h1
 have HG:=χ hG
 have HM:=χ hM
 have HF:=χ hF
 have HB:=χ hbW
 clear h ho hc h0 h1 h2 h3 hpos hl hbW hG hM hF V8
 go_enter Tryz.func83,Tryz.ntmps83
 go_upto_region 2 with fail
 rw[<-hW]
 clear hW hst hs0 hs1 hsr
 obtain⟨x0,x1,x2,x3⟩:=Z7 HM.out
 go_wp2_with fail
 clear x0 x1 x2 x3
 go_loopw [6,7,12] (fun _ _ kc wr=>∃q:Nat,kc=.int .i64 q/\q<=g/\Hid (qad W.heap.size W wr)) (fun _ _ kc _=>g-(intOf kc).toNat)
 case atStart=>exact⟨0,rfl,Nat.zero_le _,χ (qad.refl _ _)⟩
 case round=>
  obtain⟨q,rfl,hq,WT⟩:=hrel
  obtain⟨x0,x1,x2,x3⟩:=Z7 (HM.out.below WT.out HM.out.lt)
  have VJ:=χ (HB.out.trans (WT.out.mono HB.out.size))
  by_cases hlt:q<g
  ·obtain⟨o,ho⟩:∃o,m.own[q]? =some o:=⟨_,qaj (by rw[H1.out];exact hlt)⟩
   have aT:=HPS.out o (qak ho)
   obtain⟨n,rfl⟩:=Int.eq_ofNat_of_zero_le aT.1
   have hrd:=HOW.out wr VJ.out
   obtain⟨b,oo,hA,-⟩:=YU hrd (by rw[Z9.Zt,H1.out];omega)
   subst hA
   have hco:=Yf hrd ho
   obtain⟨g0,g1,g2,g3⟩:=Z7 (HG.out.below WT.out HG.out.lt)
   have V7:(q:Int)<(g:Int):=by omega
   have hi0:(0:Int)<=(q:Int):=by omega
   have wh:qag.wrap ((q:Int)+1)=((q+1:Nat):Int):=by rw[qab];omega
   rcases Nat.eq_zero_or_pos n with h0|h0
   ·subst h0
    have hu:=HIU.out wr q VJ.out hlt
    rw[gN.out q ho]at hu
    have HU:=χ hu
    simp only[Int.natCast_zero]at hco
    clear hu ho aT hrd
    go_wp2_with (go_at_call 109;(with_reducible refine HU.out.mono ?_);rintro e w2 ⟨he,hb⟩;obtain rfl:=he;have HB2:=χ (WT.out.trans (hb.mono WT.out.size));clear hb)
    go_roundw
    case rel=>exact⟨q+1,by first|rfl|(congr 1),hlt,HB2⟩
    case measure=>simp[intOf];omega
   ·have hc:=VF.out wr n q WT.out ho h0
    have RQ:=χ hc
    have hn1:((n:Int)==0)=false:=by rw[beq_eq_false_iff_ne];omega
    have hn2:(0:Int)<(n:Int):=by omega
    have hnw:qag.wrap ((n:Int)-1)=(n:Int)-1:=by rw[qab];omega
    have hf0:=(HF.out.below WT.out HF.out.lt).cell 0
    simp only[qaa]at hf0
    clear hc ho aT hrd
    go_wp2_with (go_at_call 157;(with_reducible refine RQ.out.mono ?_);rintro e w2 ⟨he,hb⟩;obtain rfl:=he;subst hb)
    go_roundw
    case rel=>exact⟨q+1,by first|rfl|(congr 1),hlt,WT⟩
    case measure=>simp[intOf];omega
  ·obtain rfl:g=q:=by omega
   have hf0:=(HF.out.below WT.out HF.out.lt).cell 0
   simp only[qaa]at hf0
   go_wp2_with (go_at_call 158;(with_reducible refine(HCI.out _ WT.out).mono ?_);rintro e w2 ⟨he,hb⟩;obtain rfl:=he;have HB2:=χ (VJ.out.trans (hb.mono VJ.out.size));clear hb)
   go_ret
   exact⟨rfl,HB2.out⟩
end Go.Proofs.YtmehhgfbnfbnaaaGreat.Zl
