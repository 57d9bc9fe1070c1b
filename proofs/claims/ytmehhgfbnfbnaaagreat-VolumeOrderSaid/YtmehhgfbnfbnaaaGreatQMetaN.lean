import Derived.Test.YtmehhgfbnfbnaaaGreatQMetaR
import Derived.Test.YtmehhgfbnfbnaaaGreatQMetaA
import Derived.Test.YtmehhgfbnfbnaaaGreatQInternA
import Derived.Test.YtmehhgfbnfbnaaaGreatQInodeB
import Derived.Test.YtmehhgfbnfbnaaaGreatQTk
import Derived.Deep.RegionWith
set_option maxRecDepth 100000
set_option maxHeartbeats 25600000
open List renaming replicate->qaa,getElem?_eq_some_iff->qab,eq_of_mem_replicate->qad
open Go.World renaming ownsRow_nil->qac
namespace Go.Proofs.YtmehhgfbnfbnaaaGreat.Meta
open Go.Proofs.YtmehhgfbnfbnaaaGreat
open Go.RowKit
section
variable {w w' W:World}{e:TypeId}{xs:List Value}{g k n Y6 gn g0 g1 g2 g3:Nat}{m:Met}{x:Mem}
theorem Q4:(Tryz.prog.info? 40).map (fun i=>(i.zero,i.size,i.bytes))=some (some (.agg (Z9.ZX .z).toArray),14,104):=by kernel_rfl
theorem zG(n:Nat):(madeCells (Value.agg (Z9.ZX .z).toArray).cells (n*14))=(Y3 (qaa n .z)).toArray:=by
 have ho:∀m∈qaa n Z9.ZC.z,Z9.YP m:=fun m hm=>by rw[qad hm];exact .z
 have hz:(Value.agg (Z9.ZX .z).toArray).cells=(Z9.ZX .z).toArray:=by simp[Value.cells]
 have hl:(Z9.ZX .z).length=14:=by decide
 apply Array.ext
 ·rw[hz]
  simp[madeCells,Y8 ho]
 ·intro k h1 h2
  have hk:k<n*14:=by rw[hz]at h1;simpa[madeCells]using h1
  have e:k=k/14*14+k%14:=by omega
  have hr:(qaa n Z9.ZC.z)[k/14]? =some .z:=by rw[List.getElem?_replicate,if_pos (by omega)]
  obtain⟨u,hu⟩:∃u,(Z9.ZX .z)[k%14]? =some u:=⟨_,List.getElem?_eq_getElem (by rw[hl];omega)⟩
  have h3:=Tv ho hr hu
  rw[<-e]at h3
  obtain⟨h4,h5⟩:=qab.1 h3
  obtain⟨h6,h7⟩:=qab.1 hu
  simp only[List.getElem_toArray,h5]
  simp only[madeCells,hz]
  simp[hl]
  rw[hu]
  rfl
theorem zF(n:Nat)(h:n<=65536)(u:World):(Instr.makeSlice 58 (.int .i64 n) (.int .i64 n)).run Tryz.prog u=
  .ok (.slice u.heap.size n n) (u.alloc (.cells (Y3 (qaa n .z)).toArray 40)):=by
 obtain⟨i0,hi,hz0,hz1,hz2⟩:=info_parts Q4
 have hr:=run_make (P:=Tryz.prog) u 58 40 i0 (.agg (Z9.ZX .z).toArray) Tryz.underlying58 hi hz0 .i64 .i64 (n:Int) (n:Int) (by omega) (Int.le_refl _) (by rw[hz2];omega) (by omega)
 rw[Int.toNat_natCast,hz1,zG]at hr
 exact hr
structure Y1(w:World)(base:Nat)(x:Mem)(m:Met):Prop where
 rows:w.ownsRow base 68 2 (.slice x.rA m.rows.length x.rc) m.rows.length (Z8.ZV m.rows)
 own:w.ownsRow base 3 1 (.slice x.oA m.own.length x.oc) m.own.length (Z9.ZM m.own)
 used:w.ownsRow base 5 1 (.slice x.uA m.used.length x.uc) m.used.length (Z6 m.used)
 ino:w.ownsRow base 40 14 (.slice x.iA m.ino.length x.ic) m.ino.length (Y3 m.ino)
theorem Y1.below {base:Nat}(h:Y1 w base x m)(hb:Below w.heap.size w w'):Y1 w' base x m:=
 ⟨own_below h.rows hb,own_below h.own hb,own_below h.used hb,own_below h.ino hb⟩
theorem Y1.base {base base':Nat}(h:Y1 w base x m)(hb:base'<=base):Y1 w base' x m:=
 ⟨ZL h.rows hb,ZL h.own hb,ZL h.used hb,ZL h.ino hb⟩
theorem WR{base:Nat}{c:Nat}{A:Option Addr}(h:w.ownsRow base e k (.slice A n c) n xs):n<=c/\c<=maxLen/\Rd w w.heap.size A xs:=by
 rcases h.2 with⟨h1,h2⟩|⟨g,cap,cur,h1,hb,hg,h2,h3,h4,h5⟩
 ·injection h1 with h1 h5 h6
  subst h1 h6
  have hx:xs.length=0:=by rw[h.1,h2,Nat.zero_mul]
  exact⟨by omega,by unfold maxLen;omega,.inl (List.eq_nil_of_length_eq_zero hx)⟩
 ·injection h1 with h1 _ h6
  subst h1 h6
  refine⟨h2,h3,.inr ⟨g,0,rfl,?_,fun j u hu=>?_⟩⟩
  ·rcases Nat.lt_or_ge g w.heap.size with hlt|hge
   ·exact hlt
   ·rw[Array.getElem?_eq_none hge]at hg;cases hg
  ·have hj:j<n*k:=by have:=(qab.1 hu).1;rw[h.1]at this;exact this
   rw[Nat.zero_add,h.cellAt j hj,hu]
theorem Y1.lies {base:Nat}(h:Y1 w base x m):Wv w w.heap.size x m:=by
 obtain⟨a1,a2,a3⟩:=WR h.rows
 obtain⟨b1,b2,b3⟩:=WR h.own
 obtain⟨c1,c2,c3⟩:=WR h.used
 obtain⟨d1,d2,d3⟩:=WR h.ino
 exact⟨a3,b3,c3,d3,⟨a1,a2⟩,⟨b1,b2⟩,⟨c1,c2⟩,⟨d1,d2⟩⟩
def gG:Mem:=⟨none,0,none,0,none,0,none,0⟩
theorem uL(w:World)(base:Nat):Y1 w base gG .z:=⟨qac _ _ _ _,qac _ _ _ _,qac _ _ _ _,qac _ _ _ _⟩
def V3(w:World)(r:Met × Nat)(e:Ending)(w':World):Prop:=∃x:Mem,e=.returned (.tuple #[x.v r.1,r.2])/\Y1 w' w.heap.size x r.1/\Below w.heap.size w w'
theorem uK(hb:Below w.heap.size w w'):V3 w (.z,k) (.returned (.tuple #[.agg #[.slice none 0 0,.slice none 0 0,.slice none 0 0,.slice none 0 0],k])) w':=
 ⟨gG,rfl,uL _ _,hb⟩
theorem Y2(h:Bk w g e xs)(o:Obj):Bk (w.alloc o) g e xs:=h.below ((Below.refl _ _).alloc (Nat.le_refl _) _) h.lt
theorem BR(h:Bk w g e xs):Bk w.drew g e xs:=h
theorem Ka(h:Bk w g e xs)(a:Addr)(u:Value)(hne:g≠a.block):Bk (w.setCell a u) g e xs:=(Below.heap_setCell w a u g hne).trans h
theorem SN(xs:List Value)(hg:g=w.heap.size):Bk (w.alloc (.cells xs.toArray e)) g e xs:=by subst hg;exact Bk.new w e xs
theorem Xx{base:Nat}{m:Nat}(h:Bk w g e xs)(hb:base<=g)(hn:xs.length=m*k)(hm:m=n)(h9:n<=maxLen):w.ownsRow base e k (.slice g m n) m xs:=by
 subst hm
 exact⟨hn,.inr ⟨g,m,xs.toArray,rfl,hb,h,Nat.le_refl _,h9,by simp[hn],by rw[<-hn];exact List.take_length⟩⟩
theorem zD(hi:Y6<=64)(hg:gn<=64)(hm:m=⟨qaa 16 .z,qaa gn 0,qaa 64 0,qaa Y6 .z⟩)(b0:Bk W g0 68 (Z8.ZV Z8.frees))(b1:Bk W g1 3 (Z9.ZM (qaa gn 0)))(b2:Bk W g2 5 (Z6 (qaa 64 0)))(b3:Bk W g3 40 (Y3 (qaa Y6 .z)))(l0:w.heap.size<=g0)(l1:w.heap.size<=g1)(l2:w.heap.size<=g2)(l3:w.heap.size<=g3)(hb:Below w.heap.size w W):
  V3 w (m,0) (.returned (.tuple #[.agg #[.slice g0 16 16,.slice g1 gn gn,.slice g2 64 64,.slice g3 Y6 Y6],()])) W:=by
 subst hm
 refine⟨⟨some ⟨g0,0,none⟩,16,some ⟨g1,0,none⟩,gn,some ⟨g2,0,none⟩,64,some ⟨g3,0,none⟩,Y6⟩,?_,⟨?_,?_,?_,?_⟩,hb⟩
 ·simp[Mem.v]
 ·exact Xx b0 l0 (by simp[Z8.Zj]) (by simp) (by show 16<=maxLen;decide)
 ·exact Xx b1 l1 (by simp[Z9.Zt]) (by simp) (by show gn<=maxLen;unfold maxLen;omega)
 ·exact Xx b2 l2 (by simp[Z4]) (by simp) (by show 64<=maxLen;decide)
 ·exact Xx b3 l3 (by rw[Y8 (fun n hn=>by rw[qad hn];exact .z)]) (by simp) (by show Y6<=maxLen;unfold maxLen;omega)
theorem nA{tm:Array Value}{df:List Deferred}(hi:Y6<=64)(hg:gn<=64){x0 x1 x2 x3:List Value}(e0:Z8.ZV Z8.frees=x0)(e1:Z9.ZM (qaa gn 0)=x1)(e2:Z6 (qaa 64 0)=x2)(e3:Y3 (qaa Y6 .z)=x3)(hd:df=[])(hr:(results Tryz.f67 tm).run Tryz.prog W=.ok (.tuple #[.agg #[.slice g0 16 16,.slice g1 gn gn,.slice g2 64 64,.slice g3 Y6 Y6],()]) W)(b0:Bk W g0 68 x0)(b1:Bk W g1 3 x1)(b2:Bk W g2 5 x2)(b3:Bk W g3 40 x3)(l0:w.heap.size<=g0)(l1:w.heap.size<=g1)(l2:w.heap.size<=g2)(l3:w.heap.size<=g3)(hb:Below w.heap.size w W):
  bodyPost Tryz.prog Tryz.f67 (fun e w'=>V3 w (⟨qaa 16 .z,qaa gn 0,qaa 64 0,qaa Y6 .z⟩,0) e w') .ret {tmps:=tm,defers:=df} W:=by
 subst e0 e1 e2 e3
 exact bodyPost_ret hr hd (zD hi hg rfl b0 b1 b2 b3 l0 l1 l2 l3 hb)
theorem nz{j i g p:Int}(hv:¬ ZG.Valid j i g p)(w:World):Calls Tryz.prog 67 #[.agg #[j,i,g,p]] w fun e w'=>V3 w (.z,1) e w':=by
 have HV:Hid (∀u:World,Calls Tryz.prog 131 #[.agg #[j,i,g,p]] u fun e w'=>e=.returned (.bool false)/\ZG.Boxed u j i g p w'):=χ (fun u=>ZG.zC hv u)
 clear hv
 go_enter Tryz.func67,Tryz.ntmps67
 go_wp2_with (go_at_call 131;(with_reducible refine(HV.out _).mono ?_);rintro e w1 ⟨he,n,hw⟩;obtain rfl:=he;subst hw)
 refine bodyPost_ret (v:=.tuple #[.agg #[.slice none 0 0,.slice none 0 0,.slice none 0 0,.slice none 0 0],.int .i64 1]) (by simp[results,Tryz.results67,go_sem]) rfl (uK ?_)
 repeat(first|with_reducible exact Below.refl _ _|with_reducible refine below_drewN ?_ _|with_reducible refine Below.drew ?_|with_reducible refine Below.setCell ?_ ?_ _|with_reducible refine Below.alloc ?_ ?_ _)
 all_goals(simp<;>omega)
end
end Go.Proofs.YtmehhgfbnfbnaaaGreat.Meta
