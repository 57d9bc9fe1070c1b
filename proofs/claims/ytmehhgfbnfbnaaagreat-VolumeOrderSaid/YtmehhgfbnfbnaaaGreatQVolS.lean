import Derived.Test.YtmehhgfbnfbnaaaGreatQVolC
import Derived.Test.YtmehhgfbnfbnaaaGreatQVolShelf
import Derived.Test.YtmehhgfbnfbnaaaGreatQTk
import Derived.Test.YtmehhgfbnfbnaaaGreatQVolJ
import Derived.Test.YtmehhgfbnfbnaaaGreatQTopA
import Derived.Test.YtmehhgfbnfbnaaaGreatQF
import Derived.Test.YtmehhgfbnfbnaaaGreatQVolO
import Derived.Test.YtmehhgfbnfbnaaaGreatQMetaX8
import Derived.Test.YtmehhgfbnfbnaaaGreatQVolH
import Derived.Shelf.SlMaps.Clone
set_option maxRecDepth 100000
set_option maxHeartbeats 25600000
open List renaming setIfInBounds_toArray->qaa,set_cons_zero->qab,set_cons_succ->qac,length_map->qaf,getElem?_eq_getElem->qag,map_append->qan,length_append->qao,range->qat,getElem?_eq_some_iff->qav,mem_filter->qay,length_filter_le->qaz,length_range->qaB,take_of_length_le->qaK
open Go.Act renaming put->qad
open Go renaming World->qae,Value->qah,Calls->qam,wp_region_held_drew->qas,callsIn_wide->qaD,wpList_store_mid->qaE,wpAnyH_done->qaF,run_underlying->qaG,Addr->qaJ
open Nat renaming le_refl->qai,zero_le->qap,zero_add->qaq,le_trans->qax,lt_of_lt_of_le->qaA
open Go.RowKit renaming Below->qaj,Hid->qau
open Go.RowKit.Below renaming refl->qak
open Go.IntKind renaming wrap_i64->qal,i64->qaw
open Go.Builtin renaming append_->qar,clear_->qaI
open Go.Fence renaming wide->qaC
open Go.Result renaming andThen->qaH
namespace Go.Proofs.YtmehhgfbnfbnaaaGreat
theorem zhq0{P:Prop}(h:P:=by
 (intro u hu;have hv:=(HV.out u hu).1;obtain⟨c0,c1,c2,c3,c4⟩:=hv.cells;obtain⟨z8,z9,YJ,YI⟩:=hv.YV;have z7:u.cell? ⟨bv,7,none⟩=some (.pointer bj):=hv.box.cell 7;clear hv hu;go_simp<;>with_reducible rfl)):P:=h
theorem zhq1{P:Prop}(h:P:=by
 (intro u hu;obtain⟨z8,z9,YJ,YI⟩:=hu.1.vs.YV;have z7:u.cell? ⟨bv,7,none⟩=some (.pointer bj):=hu.1.vs.box.cell 7;clear hu;go_simp<;>with_reducible rfl)):P:=h
theorem zhq2{P:Prop}(h:P:=by
 (intro u hu;obtain⟨c0,c1,c2,c3,c4⟩:=Wd hu.1;clear hu;go_simp<;>with_reducible rfl)):P:=h
end Go.Proofs.YtmehhgfbnfbnaaaGreat
namespace Go.Proofs.YtmehhgfbnfbnaaaGreat.Zl
open Go.RowKit Zq Go.Maps Go.Sort Go.Shelf
section
variable {w:qae}{b n N:Nat}{th:Int->Bool}
def Ve(N:Nat)(th:Int->Bool):List Nat:=(qat N).filter (fun a=>th (a:Int))
def EM(a:Nat):Int:=(a:Int)
theorem keys_perm{R:qah->Option (DataW Unit × List MemPlace)}{D:DataW Unit}(hown:w.ownsMap Tryz.prog 3 R b n D)(h2:∀s,has D (Ki s)=th s)(hN:∀k,th k=true->∃a:Nat,k=(a:Int)/\a<N):((Ve N th).map EM).Perm (intKeys D):=by
 obtain⟨es,hD,hpw,_⟩:=hown.entries nN
 obtain⟨es',hD',hko⟩:=hown.keysOf
 obtain rfl:es=es':=by rw[hD]at hD';simpa using hD'
 subst hD
 refine perm_intKeys hpw (fun p hp=>by obtain⟨v,hv⟩:=hko p hp;obtain⟨x,_,hx,_⟩:=Maps.keyOf_i64 Tryz.underlying3 hv;exact⟨x,hx⟩) ?_ (fun x=>?_)
 ·have h:(qat N).Nodup:=List.nodup_range
  have h1:=List.Pairwise.filter (fun a:Nat=>th (a:Int)) h
  exact List.pairwise_map.2 (h1.imp (fun{a b} hab e=>hab (Int.ofNat.inj e)))
 ·rw[List.mem_map]
  refine⟨?_,fun h=>?_⟩
  ·rintro ⟨a,ha,rfl⟩
   exact(h2 (a:Int)).trans (qay.1 ha).2
  ·have h3:th x=true:=(h2 x).symm.trans h
   obtain⟨a,rfl,ha⟩:=hN x h3
   exact⟨a,qay.2 ⟨List.mem_range.2 ha,h3⟩,rfl⟩
theorem Iu(N:Nat)(th:Int->Bool):((Ve N th).map EM).Pairwise (fun a b=>decide (a<=b)=true):=by
 have h:(qat N).Pairwise (fun a b=>a<b):=List.pairwise_lt_range
 have h1:=List.Pairwise.filter (fun a:Nat=>th (a:Int)) h
 rw[List.pairwise_map]
 exact h1.imp (fun{a b} hab=>by unfold EM;simp;omega)
theorem zR{l m:List Int}(hp:l.Perm m)(hs:m.Pairwise (fun a b=>decide (a<=b)=true)):l.mergeSort (fun x y=>decide (x<=y))=m:=by
 refine List.Perm.eq_of_pairwise (le:=fun a b=>decide (a<=b)=true) (fun a b _ _ h1 h2=>by simp at h1 h2;omega) (List.pairwise_mergeSort (fun a b c h1 h2=>by simp at h1 h2⊢;omega) (fun a b=>by simp;omega) l) hs ((List.mergeSort_perm l _).trans hp)
theorem gX(m:Nat):AnyZI.SortsIn Tryz.prog Tryz.Ps qaC m:=
  ⟨fun blk off cap ss W hH hblk hsz=>qaD.2 (AnyM.slices_Sort_int Tryz.jL blk off cap ss W hH hblk hsz),
   fun p cap W=>qaD.2 (AnyM.slices_Sort_int_none Tryz.jL p cap W)⟩
theorem zU(mb:Option Nat)(W:qae):qam Tryz.prog 147 #[.map mb] W fun e w'=>e=.returned (.func (.func 219) #[] #[.pointer W.heap.size])/\w'=W.alloc (.cells #[.map mb] 125):=
 (qaD (n:=6)).1 (AnyZI.keys_in Tryz.jK qaC 6 trivial rfl mb W)
theorem Iw{at_:Int->Sx}(h:Zu XA Xz zx w b at_ th n)(hn:n<=4096)(hN:∀k,th k=true->∃a:Nat,k=(a:Int)/\a<N):
  qam Tryz.prog 146 #[.func (.func 219) #[] #[.pointer w.heap.size]] (w.alloc (.cells #[.map (some b)] 125)) fun e w'=>∃A c,e=.returned (.slice A (Ve N th).length c)/\w'.ownsRow w.heap.size 3 1 (.slice A (Ve N th).length c) (Ve N th).length ((Ve N th).map (fun a=>qah.int .i64 (EM a)))/\qaj w.heap.size w w':=by
 obtain⟨D,hown,-,h2,hs⟩:=h
 have hp:=keys_perm hown h2 hN
 have hbl:=hown.lt
 have hmax:Maps.size D<=maxLen:=by rw[hs];simp only[maxLen];omega
 have hbytes:Maps.size D*8<=140737488355328:=by rw[hs];omega
 have hseq:SeqGives qaC 2 Tryz.prog 219 #[.pointer w.heap.size] encZ (fun ss=>ss.Perm (intKeys D)) (Maps.size D) (w.alloc (.cells #[.map (some b)] 125)):=
  AnyZI.keys_gives (ρ:=Tryz.LH) {Tryz.jK with} qaC _ trivial rfl (by omega) w.heap.size b n D _ (by simp) (by simp) (by
   obtain⟨es,clock,hb,Ft,hs,hD⟩:=hown
   exact⟨es,clock,(qaj.heap_alloc _ _ b hbl).trans hb,Ft,hs,hD⟩)
 have cS:=AnyZI.sorted_in Tryz.nM qaC 5 trivial trivial trivial trivial rfl (by omega) (gX _) (enters_of Tryz.func218 (by kernel_rfl) rfl) 219 #[.pointer w.heap.size] trivial (enters_of Tryz.func219 (by kernel_rfl) rfl) _ _ hmax hbytes _ hseq
 change CallsIn _ _ Tryz.prog 146 _ _ _ at cS
 refine(qaD.1 cS).mono ?_
 rintro e w' ⟨v,ss,rfl,hS,hrow,-,hb⟩
 have hss:ss.mergeSort (fun x y=>decide (x<=y))=(Ve N th).map EM:=zR (hS.trans hp.symm) (Iu N th)
 have hlen:ss.length=(Ve N th).length:=by
  have:=congrArg List.length hss
  rwa[List.length_mergeSort,qaf]at this
 rw[hss,List.map_map,hlen]at hrow
 obtain⟨A,c,rfl,-⟩:=YT hrow
 exact⟨A,c,rfl,ownsRow_base_a hrow (Nat.le_of_lt (by simp)),((qak _ w).alloc (qai _) _).trans (hb.mono (by simp))⟩
end
end Go.Proofs.YtmehhgfbnfbnaaaGreat.Zl

namespace Go.Proofs.YtmehhgfbnfbnaaaGreat.Zl
open Go.RowKit Zq Meta Av
def Ql(j i N:Nat)(at_:Int->Sx)(th:Int->Bool):List (Int × Sx):=(Ve N th).map (fun a=>(((Ut j i+a:Nat):Int),at_ (a:Int)))
theorem II{N:Nat}{th:Int->Bool}{a:Nat}(h:a∈Ve N th):a<N/\th (a:Int)=true:=⟨List.mem_range.1 (qay.1 h).1,(qay.1 h).2⟩
theorem Qk(N:Nat)(th:Int->Bool):(Ve N th).length<=N:=by
 have:=qaz (fun a:Nat=>th (a:Int)) (qat N)
 rwa[qaB]at this
theorem Ae{j i g pp:Nat}(Za:VG j i g pp){P:Nat->Prop}{w:qae}{bv bm b bj c:Nat}{x:Meta.Mem}{m:Meta.Met}{be:qah}{A:Option qaJ}{dead:Bool}{at_:Int->Sx}{there:Int->Bool}{n:Nat}(h:VM P w w bv bm x m (ZZ j i g pp b bj be A c dead) at_ there n)(hn:n<=4096)(hN:∀k,there k=true->∃a:Nat,k=(a:Int)/\a<g*pp):
  qam Tryz.prog 78 #[.pointer bv] w fun e w'=>∃A' c' Pl,e=.returned (.slice A' (Ql j i (g*pp) at_ there).length c')/\Zc w' w.heap.size (.slice A' (Ql j i (g*pp) at_ there).length c') Pl/\Pl.map (fun p=>(p.s,p.x))=Ql j i (g*pp) at_ there/\qaj w.heap.size w w':=by
 have V8:=Za.v.gp
 have hgN:g*pp<=512:=by rw[<-Int.natCast_mul]at V8;omega
 have hj:=Za.v.j2
 have hi:=Za.v.i2
 have HKL:=χ (Qk (g*pp) there)
 have HKM:qau (∀a,a∈Ve (g*pp) there->a<g*pp):=χ (fun a ha=>(II ha).1)
 have gY:=χ (Iw h.map hn hN)
 have HLK:qau (∀(u:qae)(a:Nat),a<g*pp->VM P w u bv bm x m (ZZ j i g pp b bj be A c dead) at_ there n->(Instr.lookup 125 (.map (some bm)) (.int .i64 a) false).run Tryz.prog u=.ok (.agg (sx (at_ (a:Int))).toArray) u):=χ (fun u a ha hu=>(hu.map.look (t:=125) aaj rfl ⟨by omega,by omega⟩).1)
 have HVW:qau (∀u:qae,qaj w.heap.size w u->VM P w u bv bm x m (ZZ j i g pp b bj be A c dead) at_ there n):=χ (fun u hu=>h.below hu)
 have HGN:=χ hgN
 have hb0:Ut j i<=1100:=by unfold Ut;omega
 have HB0:=χ hb0
 have HBL:qau ((1:Int)+(j:Int)+1+1+1+(i:Int)/2=((Ut j i:Nat):Int)):=χ (by unfold Ut;omega)
 have OH:qau (∀u:qae,VM P w u bv bm x m (ZZ j i g pp b bj be A c dead) at_ there n->u.cell? ⟨bv,17,none⟩=some (.int .i64 ((Ut j i:Nat):Int))):=χ (fun u hu=>by
  rw[<-HBL.out]
  exact hu.vs.box.cell 17)
 obtain⟨B0,hB0⟩:∃B0,Ut j i=B0:=⟨_,rfl⟩
 unfold Ql
 rw[hB0]at HB0 OH⊢
 generalize hks:Ve (g*pp) there=ks at*
 clear hks hB0 HBL hb0
 have hks:ks.length<=512:=qax HKL.out hgN
 generalize hN0:g*pp=N at*
 clear hN0 V8 hj hi Za hN hgN
 obtain⟨c0,c1,c2,c3,c4⟩:=h.vs.cells
 clear h
 rw[qaf]
 obtain⟨LP,hLP⟩:∃LP,ks.map (fun a=>(((B0+a:Nat):Int),at_ (a:Int)))=LP:=⟨_,rfl⟩
 have Ol:qau (∀a y,ks[a]? =some y->LP.take (a+1)=LP.take a++[(((B0+y:Nat):Int),at_ (y:Int))]):=χ (fun a y hy=>by
  rw[<-hLP,<-List.map_take,<-List.map_take,List.take_add_one,hy,qan]
  rfl)
 have iL:qau (LP.take ks.length=LP):=χ (qaK (by rw[<-hLP,qaf];exact qai _))
 rw[hLP]
 clear hLP
 obtain⟨K,hK⟩:∃K,ks.length=K:=⟨_,rfl⟩
 rw[hK]at gY iL hks
 rw[hK]
 have HKS:=χ hK
 clear hK HKL
 go_enter Tryz.func78,Tryz.ntmps78
 go_upto_region 3 with(first
  |(go_at_call 147;go_must (with_reducible refine(zU _ _).mono ?_);rintro e w1 ⟨he,hw⟩;obtain rfl:=he;subst hw)
  |(go_at_call 146;go_must (with_reducible refine gY.out.mono ?_);rintro e w2 ⟨KA,kc,he,hrow,hb⟩;obtain rfl:=he;have Qj:=χ hrow;have VJ:=χ hb;clear hrow hb gY))
 clear c0 c1 c2 c3 c4
 have HRW:qau (∀u:qae,qaj w2.heap.size w2 u->u.ownsRow w.heap.size 3 1 (.slice KA K kc) K (ks.map (fun a=>qah.int .i64 (EM a)))):=χ (fun u hu=>own_below Qj.out hu)
 clear Qj
 have av:=χ VJ.out.size
 go_wp2_with fail
 go_loopw [3,5,6,15] (fun out _ _ k wr=>∃(a:Nat)(Pl:List Pc),k=.int .i64 a/\a<=K/\qau (Zc wr w2.heap.size out Pl)/\qau (Pl.length=a)/\qau (Pl.map (fun p=>(p.s,p.x))=LP.take a)/\qau (qaj w2.heap.size w2 wr)) (fun _ _ _ k _=>K-(intOf k).toNat)
 case atStart=>exact⟨0,[],rfl,qap _,χ (Zc.nil _ _),χ rfl,χ (by simp),χ (qak _ _)⟩
 case round=>
  obtain⟨a,Pl,rfl,ha,vE,nQ,wO,WT⟩:=hrel
  by_cases hlt:a<K
  ·obtain⟨y,hy⟩:∃y,ks[a]? =some y:=⟨_,qag (by rw[HKS.out];exact hlt)⟩
   have abF:=χ (Ol.out a y hy)
   have hyN:=HKM.out y (List.mem_of_getElem? hy)
   have hrow:=HRW.out wr WT.out
   obtain⟨gk,hgk,-,-⟩:=Meta.XI hrow (by omega)
   subst hgk
   have hkc:=hrow.cellAt a (by omega)
   rw[List.getElem?_map,hy]at hkc
   simp only[Option.map_some,EM]at hkc
   have hv:=HVW.out wr (VJ.out.trans (WT.out.mono av.out))
   obtain⟨c0,c1,c2,c3,c4⟩:=hv.vs.cells
   have hlk:=HLK.out wr y hyN hv
   have HV:=χ hv
   have HYN:qau (y<512):=χ (qaA hyN HGN.out)
   have V7:(a:Int)<(K:Int):=by omega
   have hi0:(0:Int)<=(a:Int):=by omega
   have wh:qaw.wrap ((a:Int)+1)=((a+1:Nat):Int):=by rw[qal];omega
   have haw:qaw.wrap ((B0:Int)+(y:Int))=((B0+y:Nat):Int):=by have:=HB0.out;have:=HYN.out;rw[qal];omega
   clear hrow hv hy hyN
   generalize hcx:at_ (y:Int)=cx at*
   clear hcx
   have VF:qau (∀v∈sx cx,v.oneCell'=true):=χ (Qi.one cx)
   have zT:=χ (zS cx)
   have Oo:qau ((sx cx).length=Tryz.zeroCells163.toList.length):=χ (by rw[vD];exact Oe.symm)
   go_upto_region 6 with(refine qaE rfl 163 (.tmp 6) (.tmp 25) rfl wr.heap.size 0 (sx cx).toArray rfl rfl (IM (w:=wr) (xs:=Tryz.zeroCells163.toList) Oo.out) zT.out (all_oneCell_toArray VF.out) ?_;have HB3:=χ (Meta.below_setCells (qai _) (sx cx).toArray.toList 0 (Z0 wr (.cells Tryz.zeroCells163 163)));have V9:=χ (LX (w:=wr) (e:=163) (xs:=Tryz.zeroCells163.toList) Oo.out);generalize ((wr.alloc (.cells Tryz.zeroCells163 163)).setCells wr.heap.size 0 (sx cx).toArray.toList)=w5 at*)
   clear hkc hlk c0 c1 c2 c3 c4 VF zT Oo
   have HV5:=χ (HV.out.below HB3.out)
   have nO:=χ (WT.out.trans (HB3.out.mono WT.out.size))
   have c17:=OH.out w5 HV5.out
   have ct:w5.cell? ⟨wr.heap.size,64,none⟩=some (.int .u16 cx.t):=by
    rw[V9.out.cell 64]
    unfold sx
    rw[List.getElem?_append_right (by rw[Z4,cx.hb];exact qai _),Z4,cx.hb]
    rfl
   obtain⟨p,hp⟩:∃p:Pc,p=⟨((B0+y:Nat):Int),wr.heap.size,0,64,cx⟩:=⟨_,rfl⟩
   have hpc:Sl p=[.int .i64 ((B0+y:Nat):Int),.slice wr.heap.size 64 64,.int .u16 cx.t]:=by rw[hp];rfl
   have Vd:Us w5 w2.heap.size p:=by
    subst hp
    exact⟨WT.out.size,⟨_,_,_,V9.out,by decide⟩,qai _,fun k v hk=>Yo V9.out k v (by
     unfold sx
     rw[List.getElem?_append_left (by have:=(qav.1 hk).1;exact this)]
     exact hk)⟩
   have Oo:=χ Vd
   have hq1:=Bk.new w5 140 (Sl p)
   rw[hpc]at hq1
   have hq2:=Z0 w5 (.cells #[.int .i64 ((B0+y:Nat):Int),.slice wr.heap.size 64 64,.int .u16 cx.t] 140)
   have aak:=χ (vE.out.below HB3.out)
   have HA:qau (∀u,qaj w5.heap.size w5 u->Zc u w2.heap.size u3 Pl/\Us u w2.heap.size p/\qaj w2.heap.size w2 u):=χ (fun u hu=>⟨aak.out.below hu,Oo.out.below hu,nO.out.trans (hu.mono nO.out.size)⟩)
   have aW:=χ hpc
   have aX:=χ hp
   have E9:=χ hq2
   have HQ1:=χ hq1
   have hat:=run_arrayAt w5 ⟨wr.heap.size,0,none⟩ 64
   have aal:=χ nO.out.size
   have haK:a<=100000:=by omega
   clear hpc hp Vd hq1 hq2 HB3 V9 HV HV5 WT nO vE aak Oo
   go_region_law (refine EL rfl (.tmp 26) (.tmp 39) rfl w2.heap.size u3 Pl a nQ.out rfl (HA.out _ (by first|exact E9.out|exact E9.out.drew)).1 w5.heap.size p rfl (by rw[aW.out];exact HQ1.out) (HA.out _ (by first|exact E9.out|exact E9.out.drew)).2.1 haK (HA.out _ (by first|exact E9.out|exact E9.out.drew)).2.2.size ?_;intro g' c' w' hpo hgr;have ig:=χ ((HA.out _ (by first|exact E9.out|exact E9.out.drew)).2.2.grown hgr (HA.out _ (by first|exact E9.out|exact E9.out.drew)).2.2.size (fun q hq=>((HA.out _ (by first|exact E9.out|exact E9.out.drew)).1.row.lt q hq).1));have nP:=χ hpo;clear hpo hgr)
   all_goals
    have abG:qau ((Pl++[p]).length=a+1):=χ (by rw[qao,nQ.out];rfl)
    have gZ:qau ((Pl++[p]).map (fun p=>(p.s,p.x))=LP.take (a+1)):=χ (by rw[qan,wO.out,abF.out,aX.out];rfl)
    clear HA HQ1 E9 c17 ct hat aW aX
    go_wp2_with fail
    go_roundw
    case rel=>exact⟨a+1,Pl++[p],by first|rfl|(congr 1),hlt,nP,abG,gZ,ig⟩
    case measure=>simp[intOf];omega
  ·obtain rfl:K=a:=by omega
   go_wp2_with fail
   obtain⟨A',c',rfl⟩:=vE.out.slice
   have Kn:=χ (vE.out.lower av.out)
   have hl:=nQ.out
   rw[hl]at Kn⊢
   have Cc:=χ (wO.out.trans iL.out)
   have oL:=χ (VJ.out.trans (WT.out.mono av.out))
   clear vE nQ wO hl HRW HVW HLK OH
   go_ret
   exact⟨A',c',Pl,rfl,Kn.out,Cc.out,oL.out⟩
end Go.Proofs.YtmehhgfbnfbnaaaGreat.Zl

namespace Go.Proofs.YtmehhgfbnfbnaaaGreat.Zl
open Go.RowKit Zq Meta Av
section
variable {l l0:List (List UInt8)}{S n:Nat}{y z:List UInt8}{w:qae}
def oN(b:List UInt8):Sx:=if h:b.length=64 then⟨b,0,h,by decide⟩else zx
theorem aae{b:List UInt8}(h:b.length=64):(oN b).b=b:=by unfold oN;rw[dif_pos h]
theorem aaf(b:List UInt8):(oN b).t=0:=by unfold oN;split<;>rfl
def Vj(S:Nat)(l l0:List (List UInt8))(n:Nat):List (Int × Sx):=((qat n).filter (fun a=>l[a]? != l0[a]?)).map (fun a=>(((S+a:Nat):Int),oN (l.getD a [])))
theorem vF(hy:l[n]? =some y)(hz:l0[n]? =some z)(h:(y==z)=false):Vj S l l0 (n+1)=Vj S l l0 n++[(((S+n:Nat):Int),oN y)]:=by
 have h1:y≠z:=by simpa using h
 unfold Vj
 rw[List.range_succ,List.filter_append,qan]
 simp[hy,hz,h1]
theorem nR(hy:l[n]? =some y)(hz:l0[n]? =some z)(h:(y==z)=true):Vj S l l0 (n+1)=Vj S l l0 n:=by
 have h1:y=z:=by simpa using h
 unfold Vj
 rw[List.range_succ,List.filter_append,qan]
 simp[hy,hz,h1]
theorem Kj{ops:Array Oper}{rest:List Oper}{o:Oper}{a:Act}{Q:Exit->Act->qae->Prop}(hgd:o.guard=none)(s x:Operand)(ho:o.op=.call {callee:=.builtin .append,args:=#[s,x],argTypes:=#[137,137]})(base b2:Nat)(v:qah)(P:List Pc)(n:Nat)(hn:P.length=n)(hs:a.eval s=v)(hpo:Zc w base v P)(hown:w.ownsRow b2 140 3 v n (Yz P))(h2b:base<=b2)(g:Nat)(p:Pc)(hx:a.eval x=.slice g 1 1)(hb:Bk w g 140 (Sl p))(hp:Us w base p)(hlen:n<=100000)(hbase:b2<=w.heap.size)(h:∀g' c' w',Zc w' base (.slice (some ⟨g',0,none⟩) (n+1) c') (P++[p])->w'.ownsRow b2 140 3 (.slice (some ⟨g',0,none⟩) (n+1) c') (n+1) (Yz (P++[p]))->w.grownBy w' v.ownBlock->wpList Tryz.prog ops Q rest (a.put o.dst (.slice (some ⟨g',0,none⟩) (n+1) c')) w'):
  wpList Tryz.prog ops Q (o::rest) a w:=by
 refine wpList_plain hgd fun K hK=>?_
 obtain⟨i0,hi,hz0,hz1,hz2⟩:=info_parts Kl
 subst hn
 refine wp_append_lies w s x 137 ho b2 140 i0 _ 3 40 Tryz.underlying137 hi hz0 hz1 hz2 rfl (by omega) v P.length (Yz P) hs hown ⟨g,0,none⟩ 1 1 (Sl p) hx rfl (fun j u hu=>?_) (Og p) (by omega) (by unfold maxLen;omega) (by omega) hbase w.heap.size rfl ?_
 ·rw[qaJ.add_lit,qaq]
  exact(hb.cell j).trans hu
 ·intro g' c' w' h1 h2 _ _
  exact hK _ _ (h g' c' w' (hpo.push p rfl (ZL h1 h2b) h2 hp) (by rw[Ur,LJ];exact h1) h2)
theorem Af{j i g pp:Nat}(Za:VG j i g pp){bv bm b bj c:Nat}{x:Meta.Mem}{m:Meta.Met}{be:qah}{A:Option qaJ}{dead:Bool}(hB:Bk w bv 132 (Rk x m bm (ZZ j i g pp b bj be A c dead))){L0:List Sc}(h0:Zd w w.heap.size A L0 l0)(hl0:l0.length=3+i/2){base:Nat}{A1:Option qaJ}{c1:Nat}{L:List Sc}(h1:Zx w base (.slice A1 (3+i/2) c1) L l)(hl:l.length=3+i/2)(h64:∀y∈l,y.length=64)(hbase:base<=w.heap.size):
  qam Tryz.prog 77 #[.pointer bv,.slice A1 (3+i/2:Nat) c1] w fun e w'=>∃A' c' Pl,e=.returned (.slice A' (Vj (1+j) l l0 (3+i/2)).length c')/\Zc w' base (.slice A' (Vj (1+j) l l0 (3+i/2)).length c') Pl/\Pl.map (fun p=>(p.s,p.x))=Vj (1+j) l l0 (3+i/2)/\qaj w.heap.size w w':=by
 have hj:=Za.v.j2
 have hi:=Za.v.i2
 have HV:qau (∀u:qae,qaj w.heap.size w u->u.cell? ⟨bv,13,none⟩=some (.int .i64 ((1+j:Nat):Int))/\u.cell? ⟨bv,19,none⟩=some (.slice A (3+i/2:Nat) c)):=χ (fun u hu=>⟨by
  have:=(hB.below hu hB.lt).cell 13
  rw[show((1+j:Nat):Int)=1+(j:Int)by omega]
  exact this,(hB.below hu hB.lt).cell 19⟩)
 have H0:qau (∀u:qae,qaj w.heap.size w u->Zd u u.heap.size A L0 l0):=χ (fun u hu=>h0.later hu)
 have H1:qau (∀u:qae,qaj w.heap.size w u->Zx u base (.slice A1 (3+i/2) c1) L l):=χ (fun u hu=>h1.below hu)
 have H64:=χ h64
 obtain⟨n,hn⟩:∃n,3+i/2=n:=⟨_,rfl⟩
 rw[hn]at hl0 hl HV H1⊢
 have adT:n<=100:=by omega
 have hn1:1<=n:=by omega
 obtain⟨S,hS⟩:∃S,1+j=S:=⟨_,rfl⟩
 rw[hS]at HV⊢
 have hS2:S<=2000:=by omega
 have HL:=χ hl
 have HL0:=χ hl0
 clear Za hj hi hB h0 h1 hl hl0 h64 hn hS
 have hrw:=(H1.out w (qak _ _)).row
 rw[HL.out]at hrw
 obtain⟨ga,hga,-,-⟩:=Meta.XI hrw (by omega)
 clear hrw
 subst hga
 obtain⟨b0,o0,Wo,-⟩:=(H0.out w (qak _ _)).first (by rw[HL0.out];omega)
 subst Wo
 have HBS:=χ hbase
 clear hbase
 go_enter Tryz.func77,Tryz.ntmps77
 go_wp2_with fail
 go_loopw [5,6,7,10] (fun out _ _ k wr=>∃(a:Nat)(Pl:List Pc),k=.int .i64 a/\a<=n/\qau (Zc wr base out Pl)/\qau (wr.ownsRow w.heap.size 140 3 out Pl.length (Yz Pl))/\qau (Pl.map (fun p=>(p.s,p.x))=Vj S l l0 a)/\qau (qaj w.heap.size w wr)) (fun _ _ _ k _=>n-(intOf k).toNat)
 case atStart=>exact⟨0,[],rfl,qap _,χ (Zc.nil _ _),χ (qae.ownsRow_nil _ _ _ _),χ rfl,χ (qak _ _)⟩
 case round=>
  obtain⟨a,Pl,rfl,ha,vE,aY,wO,WT⟩:=hrel
  by_cases hlt:a<n
  ·obtain⟨y,hy⟩:∃y,l[a]? =some y:=⟨_,qag (by rw[HL.out];exact hlt)⟩
   obtain⟨z,hz⟩:∃z,l0[a]? =some z:=⟨_,qag (by rw[HL0.out];exact hlt)⟩
   have zV:=H64.out y (List.mem_of_getElem? hy)
   have hs1:=H1.out wr WT.out
   have hs0:=H0.out wr WT.out
   obtain⟨S1,hS1,hcx,-,-,-⟩:=hs1.at_.2.2.2.get hy
   obtain⟨S0,hS0,hcz,hrz,hz1,hz2⟩:=hs0.get hz
   have hown:=hs1.each a S1 y hS1 hy
   obtain⟨gy,hgy,abE,adU⟩:=Meta.XI hown (by omega)
   rw[hgy]at hcx hown
   rw[zV]at hcx hown
   have hcap:=(WR hown).1
   rw[qaq]at hcx
   obtain⟨v13,v19⟩:=HV.out wr WT.out
   have HEQ:qau (qam Tryz.prog 145 #[.slice gy 64 S1.c,.slice S0.A z.length S0.c] wr fun e w'=>e=.returned (.bool (y==z))/\wr=w'):=χ (XO y z _ _ 64 S1.c _ S0.c _ _ wr zV rfl (WR hown).2.2 hrz)
   obtain⟨p,hp⟩:∃p:Pc,p=⟨((S+a:Nat):Int),gy,0,S1.c,oN y⟩:=⟨_,rfl⟩
   have hpc:Sl p=[.int .i64 ((S+a:Nat):Int),.slice gy 64 S1.c,.int .u16 0]:=by
    rw[hp]
    show[qah.int .i64 ((S+a:Nat):Int),.slice gy 64 S1.c,.int .u16 ((oN y).t:Int)]=_
    rw[aaf]
    rfl
   have Vd:Us wr base p:=by
    subst hp
    refine⟨abE,?_,hcap,fun k u hu=>?_⟩
    ·rcases hown.2 with⟨hv,_⟩|⟨g',cap,cur,hv,_,hc,_⟩
     ·cases hv
     ·injection hv with hv _ _
      injection hv with hv
      injection hv with hv
      subst hv
      exact⟨_,_,_,hc,by decide⟩
    ·have hu':(Z6 y)[k]? =some u:=by
      have e:(oN y).b=y:=aae zV
      rw[<-e];exact hu
     rw[qaq,hown.cellAt k (by have:=(qav.1 hu').1;rw[Z4]at this;omega)]
     exact hu'
   have Oo:=χ Vd
   have aX:=χ hp
   have aW:=χ hpc
   have hpl:Pl.length<=a:=by
    have h1:=congrArg List.length wO.out
    rw[qaf]at h1
    rw[h1]
    unfold Vj
    rw[qaf]
    have:=qaz (fun q=>l[q]? != l0[q]?) (qat a)
    rwa[qaB]at this
   have Kn:=χ hpl
   have V7:(a:Int)<(n:Int):=by omega
   have hi0:(0:Int)<=(a:Int):=by omega
   have wh:qaw.wrap ((a:Int)+1)=((a+1:Nat):Int):=by rw[qal];omega
   have haw:qaw.wrap ((S:Int)+(a:Int))=((S+a:Nat):Int):=by rw[qal];omega
   have HBZ:=χ (qax HBS.out WT.out.size)
   cases hq:y==z with
   |true=>
    have nQ:=χ (nR (S:=S) hy hz hq)
    rw[hq]at HEQ
    clear Vd hp hpc hpl hown hs1 hs0 hrz hy hz hgy hS1 hS0 Oo aX aW haw hq
    go_wp2_with (go_at_call 145;go_must (with_reducible refine HEQ.out.mono ?_);rintro e w5 ⟨he,hw⟩;obtain rfl:=he;subst hw)
    go_roundw
    case rel=>exact⟨a+1,Pl,by first|rfl|(congr 1),hlt,vE,aY,χ (wO.out.trans nQ.out.symm),WT⟩
    case measure=>simp[intOf];omega
   |false=>
    have nQ:=χ (vF (S:=S) hy hz hq)
    rw[hq]at HEQ
    have hq1:=Bk.new wr 140 (Sl p)
    rw[hpc]at hq1
    have hq2:=Z0 wr (.cells #[.int .i64 ((S+a:Nat):Int),.slice gy 64 S1.c,.int .u16 0] 140)
    have HQ1:=χ hq1
    have aag:=χ (vE.out.below hq2)
    have iq:=χ (own_below aY.out hq2)
    have aah:=χ (Oo.out.below hq2)
    have RV:=χ (WT.out.trans (hq2.mono WT.out.size))
    clear Vd hp hpc hpl hown hs1 hs0 hrz hy hz hgy hS1 hS0 hq1 hq2 hq
    go_wp2_with (first
     |(go_at_call 145;go_must (with_reducible refine HEQ.out.mono ?_);rintro e w5 ⟨he,hw⟩;obtain rfl:=he;subst hw)
     |(at_builtin;refine Kj rfl (.tmp 25) (.tmp 35) rfl base w.heap.size u5 Pl _ rfl rfl aag.out iq.out HBS.out wr.heap.size p rfl (by rw[aW.out];exact HQ1.out) aah.out (by have:=Kn.out;omega) RV.out.size ?_;intro g' c' w' hpo hro hgr;have ig:=χ (RV.out.grown hgr RV.out.size (fun q hq=>(iq.out.lt q hq).1));have nP:=χ hpo;have aai:=χ hro;clear hpo hro hgr))
    have gZ:qau ((Pl++[p]).map (fun p=>(p.s,p.x))=Vj S l l0 (a+1)):=χ (by rw[qan,wO.out,nQ.out,aX.out];rfl)
    have HL6:qau ((Pl++[p]).length=Pl.length+1):=χ (by rw[qao];rfl)
    clear HQ1 aag iq aah aW aX nQ
    go_roundw
    case rel=>exact⟨a+1,Pl++[p],by first|rfl|(congr 1),hlt,by first|exact nP|(rw[HL6.out];exact nP),by first|exact aai|(rw[HL6.out];exact aai),gZ,ig⟩
    case measure=>simp[intOf];omega
  ·obtain rfl:n=a:=by omega
   go_wp2_with fail
   obtain⟨A',c',rfl⟩:=vE.out.slice
   have hl:Pl.length=(Vj S l l0 n).length:=by rw[<-wO.out,qaf]
   have Kn:=χ vE.out
   rw[hl]at Kn⊢
   clear vE aY hl H0 H1 HV
   go_ret
   exact⟨A',c',Pl,rfl,Kn.out,wO.out,WT.out⟩
end
end Go.Proofs.YtmehhgfbnfbnaaaGreat.Zl

namespace Go.Proofs.YtmehhgfbnfbnaaaGreat.Zl
open Go.RowKit Zq Meta Av
theorem Km{w:qae}{base n:Nat}{e t ty:TypeId}{i:TypeInfo}{v:qah}{xs:List qah}(ht:Tryz.prog.underlying t=some (.slice e))(hi:Tryz.prog.info? e=some i)(hown:w.ownsRow base e 3 v n xs)(c:Nat):
  (qar #[t,t] ty #[v,.slice none 0 c]).run Tryz.prog w=.ok v w:=by
 rcases hown.2 with⟨rfl,rfl⟩|⟨g,cap,cur,rfl,_,_,hnc,_⟩
 ·simp[qar,qaG ht,sizeOf,typeInfo,hi,Builtin.lenOf,Builtin.firstCells]
 ·simp[qar,qaG ht,sizeOf,typeInfo,hi,Builtin.lenOf,Builtin.firstCells,hnc,storeCells]
theorem vG(w:qae)(base:Nat)(v:qah)(n:Nat)(xs:List qah)(hown:w.ownsRow base 140 3 v n xs)(ty:TypeId)(B:Nat)(A:Option qaJ)(m c:Nat)(news:List qah)(hm:news.length=m*3)(hr:Rd w B A news)(h1:∀u∈news,u.oneCell'=true)(h63:n+m<=100000)(hbase:base<=w.heap.size):
  ∃v' w',(qar #[137,137] ty #[v,.slice A m c]).run Tryz.prog w=.ok v' w'/\w'.ownsRow base 140 3 v' (n+m) (xs++news)/\w.grownBy w' v.ownBlock:=by
 obtain⟨i0,hi,hz0,hz1,hz2⟩:=info_parts Kl
 cases A with
 |none=>
  have hn:news=[]:=by
   rcases hr with h|⟨_,_,h,_⟩
   ·exact h
   ·cases h
  subst hn
  obtain rfl:m=0:=by simp at hm;omega
  exact⟨v,w,Km Tryz.underlying137 hi hown c,by simpa using hown,qae.grownBy.refl w _⟩
 |some ad=>
  obtain⟨v',w',hrun,h2,h3,_⟩:=run_append_own (P:=Tryz.prog) w base 137 ty 140 i0 _ 3 40 Tryz.underlying137 hi hz0 hz1 hz2 rfl (by omega) v n xs hown ad m c news hm (by
   rcases hr with h|⟨b,o,h,_,hc⟩
   ·subst h
    intro j u hu
    simp at hu
   ·injection h with h
    subst h
    intro j u hu
    rw[qaJ.add_lit]
    exact hc j u hu) h1 (by unfold maxLen;omega) (by omega) hbase
  exact⟨v',w',hrun,h2,h3⟩
theorem Iy(w:qae){ops:Array Oper}{rest:List Oper}{o:Oper}{a:Act}{Q:Exit->Act->qae->Prop}(hgd:o.guard=none)(s x:Operand)
  (ho:o.op=.call {callee:=.builtin .append,args:=#[s,x],argTypes:=#[137,137]})
  (base:Nat)(v:qah)(n:Nat)(xs:List qah)(hs:a.eval s=v)(hown:w.ownsRow base 140 3 v n xs)
  (B:Nat)(A:Option qaJ)(m c:Nat)(news:List qah)(hx:a.eval x=.slice A m c)(hm:news.length=m*3)(hr:Rd w B A news)(h1:∀u∈news,u.oneCell'=true)
  (h63:n+m<=100000)(hbase:base<=w.heap.size)
  (h:∀v' w',w'.ownsRow base 140 3 v' (n+m) (xs++news)->w.grownBy w' v.ownBlock->wpList Tryz.prog ops Q rest (a.put o.dst v') w'):wpList Tryz.prog ops Q (o::rest) a w:=by
 refine wpList_plain hgd fun K hK=>?_
 obtain⟨v',w',hrun,h2,h3⟩:=vG w base v n xs hown o.type B A m c news hm hr h1 h63 hbase
 unfold Oper.wp execOp
 simp only[ho,resolve,invoke,builtin,Sem.run_bind,Sem.run_pure,Result.andThen_ok,List.map_toArray,List.map_cons,List.map_nil,hs,hx,hrun]
 exact hK _ _ (h v' w' h2 h3)
theorem zW(n:Nat)(w:qae)(ty:TypeId)(h0:0<n)(hm:n<=100000):
  ∃c' w',(qar #[137,3] ty #[.slice none 0 0,n]).run Tryz.prog w=.ok (.slice w.heap.size n c') w'/\n<=c'/\c'<=maxLen/\
   w'.ownsRow w.heap.size 140 3 (.slice w.heap.size 0 c') 0 []/\qaj w.heap.size w w':=by
 obtain⟨i0,hi,hz0,hz1,hz2⟩:=info_parts Kl
 have hc:=grownCap_ge w n 0 140
 have hcm:=grownCap_le_maxLen w n 0 140 (by simp only[maxLen];omega)
 refine⟨_,_,Lib.run_append_nil_zeros w 137 3 ty 140 i0 _ .i64 .i64 Tryz.underlying137 Tryz.underlying3 hi hz0 n h0 (by omega) (by omega) (by rw[hz2];omega),hc,hcm,?_,?_⟩
 ·exact qae.ownsRow_made w.drew _ _ (qai _) hcm (by simp[Builtin.zeroCells,qah.cells];omega)
 ·exact(qak _ _).drew.alloc (qai _) _
theorem aac(n:Nat)(w:qae)(hm:n<=100000):
  qam Tryz.prog 144 #[.slice none 0 0,n] w fun e w'=>∃v,e=.returned v/\w'.ownsRow w.heap.size 140 3 v 0 []/\qaj w.heap.size w w':=by
 by_cases h0:0<n
 ·obtain⟨c',w1,hrun,hc1,hc2,hown,hbel⟩:=zW n w 137 h0 hm
  unfold maxLen at hc2
  go_enter Tryz.func144,Tryz.ntmps144
  go_wp2_with (at_builtin;refine Lib.wpList_append_run _ rfl _ _ _ _ rfl _ _ rfl rfl _ _ hrun ?_)
  go_ret
  exact⟨_,rfl,hown,hbel⟩
 ·obtain rfl:n=0:=by omega
  go_enter Tryz.func144,Tryz.ntmps144
  go_wp2
  go_ret
  exact⟨_,rfl,qae.ownsRow_nil _ _ _ _,qak _ _⟩
def aad(w:qae)(p:qah × List Pc):Prop:=∃A n c,p.1=.slice A n c/\p.2.length=n/\n<=c/\Rd w w.heap.size A (Yz p.2)
def Wx(ps:List (qah × List Pc)):List Pc:=ps.flatMap (·.2)
theorem LK(ps:List (qah × List Pc))(k:Nat)(p:qah × List Pc)(h:ps[k]? =some p):Wx (ps.take (k+1))=Wx (ps.take k)++p.2:=by
 unfold Wx
 rw[List.take_add_one,h,List.flatMap_append]
 simp
theorem nS(ps:List (qah × List Pc))(k:Nat):(Wx (ps.take k)).length<=(Wx ps).length:=by
 have h:=congrArg Wx (List.take_append_drop k ps)
 unfold Wx at h⊢
 rw[List.flatMap_append]at h
 rw[<-h,qao]
 omega
theorem nV(ps:List (qah × List Pc))(A:Option qaJ)(m c:Nat)(w:qae)(hlen:ps.length=m)(hr:Rd w w.heap.size A (ps.map (·.1)))(hp:∀p∈ps,aad w p)
  (ht:(Wx ps).length<=100000)(hm:m<=100000):
  qam Tryz.prog 76 #[.slice A m c] w fun e w'=>∃v,e=.returned v/\w'.ownsRow w.heap.size 140 3 v (Wx ps).length (Yz (Wx ps))/\qaj w.heap.size w w':=by
 have hcells:∀k,k<m->∃(p:qah × List Pc)(b o:Nat)(A':Option qaJ)(n' c':Nat),A=some ⟨b,o,none⟩/\b<w.heap.size/\ps[k]? =some p/\w.cell? ⟨b,o+k,none⟩=some (.slice A' n' c')/\p.2.length=n'/\n'<=c'/\Rd w w.heap.size A' (Yz p.2):=fun k hk=>by
  have hkl:k<ps.length:=by omega
  obtain⟨A',n',c',h1,h2,h3,h4⟩:=hp ps[k] (List.getElem_mem hkl)
  rcases hr with h|⟨b,o,rfl,hb,hc⟩
  ·exfalso;have:=congrArg List.length h;simp at this;simp[this]at hkl
  ·exact⟨ps[k],b,o,A',n',c',rfl,hb,qag hkl,by rw[<-h1];exact hc k _ (by simp[hkl]),h2,h3,h4⟩
 have Hc:=χ hcells
 have Hl:=χ hlen
 have Ht:=χ (fun k=>nS ps k)
 clear hcells hlen hp hr
 go_enter Tryz.func76,Tryz.ntmps76
 go_wp2
 go_loop [3,11] (fun x i=>∃k:Nat,k<=m/\i=.int .i64 k/\x=.int .i64 ((Wx (ps.take k)).length:Nat)) (fun _ i=>m-(intOf i).toNat)
 case atStart=>exact⟨0,qap _,rfl,rfl⟩
 case round=>
  obtain⟨k,hk,rfl,rfl⟩:=hrel
  have hle:=Ht.out k
  by_cases hlt:k<m
  ·obtain⟨p,b,o,A',n',c',rfl,hb,hx,hcell,hn',hcap,iy⟩:=Hc.out k hlt
   have hts:=LK ps k p hx
   have hle1:=Ht.out (k+1)
   have hsum:(Wx (ps.take (k+1))).length=(Wx (ps.take k)).length+n':=by rw[hts,qao,hn']
   have Hs:=χ hsum
   have hn1:(Wx (ps.take k)).length+n'<=(Wx ps).length:=by omega
   clear hsum hts hx hn' hle1
   go_wp2
   go_round
   case rel=>exact⟨k+1,hlt,by go_num,by rw[Hs.out];go_num⟩
   case measure=>simp[intOf];omega
  ·obtain rfl:k=m:=by omega
   go_wp2_with (go_at_call 144;refine(aac (Wx (ps.take k)).length _ (by omega)).mono ?_;rintro e w1 ⟨v,rfl,hown,hb1⟩)
   have hown0:w1.ownsRow w.heap.size 140 3 v (Wx (ps.take 0)).length (Yz (Wx (ps.take 0))):=hown
   clear hown
   obtain⟨wo,rfl⟩:∃wo:qae,wo=w:=⟨_,rfl⟩
   go_loopw [6,27] (fun x i wr=>∃j:Nat,j<=k/\i=.int .i64 j/\wr.ownsRow wo.heap.size 140 3 x (Wx (ps.take j)).length (Yz (Wx (ps.take j)))/\qaj wo.heap.size wo wr) (fun _ i _=>k-(intOf i).toNat)
   case atStart=>exact⟨0,qap _,rfl,hown0,hb1⟩
   case round=>
    obtain⟨j,hj,rfl,hown,hbel⟩:=hrel
    by_cases hlt2:j<k
    ·obtain⟨p,b,o,A',n',c',rfl,hb,hx,hcell,hn',hcap,iy⟩:=Hc.out j hlt2
     have hts:=LK ps j p hx
     have hle1:=Ht.out (j+1)
     have hsum:(Wx (ps.take (j+1))).length=(Wx (ps.take j)).length+n':=by rw[hts,qao,hn']
     have Hts:=χ hts
     have Hs:=χ hsum
     have Hn:qau ((Yz p.2).length=n'*3):=χ (by rw[Kk,hn'])
     have H1:qau (∀u∈Yz p.2,u.oneCell'=true):=χ (fun u hu=>by
      unfold Yz at hu
      obtain⟨q,-,hq⟩:=List.mem_flatMap.1 hu
      exact Og q u hq)
     have hcell1:=(hbel.cell (p:=⟨b,o+j,none⟩) hb).trans hcell
     have iw:=iy.below hbel
     have hsz:=hbel.size
     have hn1:(Wx (ps.take j)).length+n'<=100000:=by omega
     clear hsum hts hx hn' hle1 hcell iy
     go_wp2_with (at_builtin;refine Iy _ rfl (.tmp 31) (.tmp 32) rfl wo.heap.size _ (Wx (ps.take j)).length (Yz (Wx (ps.take j))) rfl hown wo.heap.size A' n' c' (Yz p.2) rfl Hn.out iw H1.out (by omega) hsz ?_;intro v2 w2 hown2 hgrow2)
     go_roundw
     case rel=>exact⟨j+1,hlt2,by go_num,by rw[Hs.out,Hts.out,Ur];exact hown2,hbel.grown hgrow2 (by omega) (fun g hg=>(hown.lt g hg).1)⟩
     case measure=>simp[intOf];omega
    ·obtain rfl:j=k:=by omega
     go_wp2
     go_ret
     rw[qaK (by rw[Hl.out];omega)]at hown
     exact⟨_,rfl,hown,hbel⟩
end Go.Proofs.YtmehhgfbnfbnaaaGreat.Zl

namespace Go.Proofs.YtmehhgfbnfbnaaaGreat.Zl
open Go.RowKit Zq Meta Av Apart
section
variable {n:Nat}
theorem zX(w:qae){bm:Nat}{at_:Int->Sx}{th:Int->Bool}(h:Zu XA Xz zx w bm at_ th n):
  ∃w',(∀ty,(qaI #[125] ty #[.map (some bm)]).run Tryz.prog w=.ok (.tuple #[]) w')/\Zu XA Xz zx w' bm (fun _=>zx) (fun _=>false) 0/\Kept (· =bm) w w':=by
 obtain⟨D,⟨es,clock,hb,F,hs,hD⟩,h2⟩:=h
 have hset:=MapKept.heap_set (o':=.map #[] clock) hb
 refine⟨{w with heap:=w.heap.setIfInBounds bm (.map #[] clock)},?_,⟨.map [],⟨#[],clock,hset.1,⟨by simp,MapKept.stamped_empty clock,by simp⟩,qai _,rfl⟩,fun _=>rfl,fun _=>rfl,rfl⟩,⟨rfl,rfl,rfl,by simp,fun i _ hi=>hset.2 i hi⟩⟩
 intro ty
 simp[qaI,qaG Tryz.underlying125,MapKept.run_getObj_map hb,MapKept.run_setObj_map _ hb,qaH]
theorem nW{F T q b bj:Nat}{k:Dk Sx}{P:Nat->Prop}{w:qae}(hP:UH.vO F n T)(Ce:3<=n)(hT:T<=4096)(h:Dl F n q b bj k P w)(hR:UH.Rest F n T k q){l:List (Nat × Sx)}(hl:l≠[])(hv:UH.IJ F n T l)(hr:(stored l).length+1<=n)(hq:q+1<18446744073709551615){A:Option qaJ}{m c lo:Nat}(hm:l.length=m)(hmc:m<=c)(hp:XR w (fun t=>lo<=t/\t<w.heap.size) A (ints l))(hlo:∀i,P i->i<lo):
  qam Tryz.prog 75 #[.pointer bj,.slice A m c] w fun e w'=>∃(k':Dk Sx)(q':Nat)(x:Int),e=.returned (.int .i64 x)/\Done F n T q k k' l q' x/\Nx (Dl F n q' b bj k') P w w':=by
 obtain⟨S,hd,hPS⟩:=h
 have adS:=hP.lo
 have hhi:=hP.hi
 have hlen:=hR.img.len
 obtain⟨p0,hp0⟩:∃p0,l[0]? =some p0:=by
  cases l with
  |nil=>exact absurd rfl hl
  |cons p l=>exact⟨p,rfl⟩
 obtain⟨b0,o0,_,_,_,rfl,_⟩:=hp 0 _ (TC hp0)
 have hpos:=List.length_pos_iff.2 hl
 have hcall:=IB hd.jb hd.disk hd.off (by omega) Ce (by omega) (by omega) b0 o0 hp (fun t ht=>⟨fun hs=>by have:=hlo t ((hPS t).2 (.inl hs));have:=ht.1;omega,ht.2⟩) m c hm (by omega) hmc (by rw[hlen];exact IA hr hv) (by omega) (by omega) (by rw[hR.un];exact qap _)
 refine hcall.mono ?_
 rintro e w' ⟨rfl,hK,S',hD',hS',hJ',hoff⟩
 have hnx:Nx (Dl F n (if (k.XY F q l).1=0 then q+1 else q) b bj (k.XY F q l).2) P w w':=by
  refine⟨fun i=>S' i\/i=bj,⟨S',⟨hD',hJ',hoff,fun _ _=>qap _,qap _⟩,fun i=>Iff.rfl⟩,⟨hK.os,hK.tape,hK.output,hK.size,fun i hi hne=>hK.block i hi (fun h=>hne ((hPS i).2 h))⟩,fun i hi=>?_⟩
  rcases hi with hi|rfl
  ·refine⟨?_,hD'.lt hi⟩
   rcases hS' i hi with h1|h1
   ·exact .inl ((hPS i).2 (.inl h1))
   ·exact .inr h1
  ·exact⟨.inl ((hPS _).2 (.inr rfl)),hJ'.lt⟩
 rcases UH.Iz hP hR hl hv hr (by omega)with⟨f1,f2,f3,f4⟩|⟨f0,f1,f2⟩
 ·rw[f1]at hnx
  exact⟨_,_,_,rfl,.inl ⟨f1,rfl,f2,by rw[f3];exact UH.vH hP _ _ hr,f4,f3⟩,hnx⟩
 ·rw[if_neg (by rw[f1];decide)]at hnx
  exact⟨_,_,_,rfl,.inr ⟨f0,f1,rfl,f2⟩,hnx⟩
end
end Go.Proofs.YtmehhgfbnfbnaaaGreat.Zl

namespace Go.Proofs.YtmehhgfbnfbnaaaGreat.Zl
open Go.RowKit Zq Meta Av Apart
section
variable {w w' u:qae}{bm bv n c base:Nat}{x:Meta.Mem}{m:Meta.Met}{A:Option qaJ}{P Q:Nat->Prop}{rest:List qah}{L:List Sc}{l:List (List UInt8)}
theorem VL{S T:Nat->Prop}(h:Kept S w w')(hT:∀i,S i->T i):Kept T w w':=⟨h.os,h.tape,h.output,h.size,fun i hi hne=>h.block i hi (fun hs=>hne (hT i hs))⟩
theorem OI(h:Vs P w bv x m bm rest)(hb:Bd P w)(hd:∀i,P i->¬ Q i)(hk:Kept Q w u):Vs P u bv x m bm rest:=
 h.frame (fun i hi=>hk.block i (hb i hi) (hd i hi))
theorem Re(h:Zx w base (.slice A n c) L l)(hq:∀i,Q i->i<base)(hk:Kept Q w u):Zx u base (.slice A n c) L l:=by
 have hf:∀i,base<=i/\i<w.heap.size->u.heap[i]? =w.heap[i]? :=fun i hi=>hk.block i hi.2 (fun h=>by have:=hq i h;omega)
 have hrow:=h.row
 have hn:=h.at_.1
 subst hn
 refine⟨h.len,?_,fun k s y h1 h2=>?_⟩
 ·exact Xq (P:=fun i=>base<=i/\i<w.heap.size) hrow (fun a ha=>hrow.lt _ (by rw[ha];rfl)) hf
 ·have hr:=h.each k s y h1 h2
  exact Xq (P:=fun i=>base<=i/\i<w.heap.size) hr (fun a ha=>hr.lt _ (by rw[ha];rfl)) hf
theorem EO(h:Zx w base (.slice A n c) L l):At (fun i=>base<=i/\i<w.heap.size) A/\∀s∈L,At (fun i=>base<=i/\i<w.heap.size) s.A:=by
 refine⟨fun a ha=>h.row.lt _ (by rw[ha];rfl),fun s hs=>?_⟩
 obtain⟨k,hk⟩:=List.getElem?_of_mem hs
 have hlt:=(qav.1 hk).1
 obtain⟨y,hy⟩:∃y,l[k]? =some y:=⟨_,qag (by rw[<-h.len];exact hlt)⟩
 exact fun a ha=>(h.each k s y hk hy).lt _ (by rw[ha];rfl)
theorem Kr{ops:Array Oper}{rest:List Oper}{o:Oper}{a:Act}{Q:Exit->Act->qae->Prop}(hgd:o.guard=none)(s:Operand)(ho:o.op=.call {callee:=.builtin .clear,args:=#[s],argTypes:=#[125]})(hs:a.eval s=.map (some bm))(hrun:(qaI #[125] o.type #[.map (some bm)]).run Tryz.prog w=.ok (.tuple #[]) w')(h:wpList Tryz.prog ops Q rest (a.put o.dst (.tuple #[])) w'):wpList Tryz.prog ops Q (o::rest) a w:=by
 refine wpList_plain hgd fun K hK=>?_
 unfold Oper.wp execOp
 simp only[ho,resolve,invoke,builtin,Sem.run_bind,Sem.run_pure,Result.andThen_ok,List.map_toArray,List.map_cons,List.map_nil,hs,hrun]
 exact hK _ _ h
theorem Kq{rest':List qah}(h:Vs P w bv x m bm rest)(q:Nat)(v:qah)(he:(Rk x m bm rest).set q v=Rk x m bm rest'):Vs P (w.setCell ⟨bv,q,none⟩ v) bv x m bm rest':=
 ⟨he▸h.box.set q v,Y1.other h.box (Xp w bv q v) h.met,h.pv,h.pr,h.po,h.pu,h.pi⟩
theorem vN{j i g pp:Nat}(Za:VG j i g pp){Pv Pd:Nat->Prop}{b bj q:Nat}{be:qah}{at_:Int->Sx}{there:Int->Bool}{k:Dk Sx}(h:Vs Pv w bv x m bm (ZZ j i g pp b bj be A c false))(hM:Zu XA Xz zx w bm at_ there n)(hpm:Pv bm)(hbv:Bd Pv w)(hn:n<=4096)(hN:∀k,there k=true->∃a:Nat,k=(a:Int)/\a<g*pp)(hR:Meta.Right ⟨j,i,g,pp⟩ m)(ho:Rc m){L0:List Sc}{l0:List (List UInt8)}(h0:Zd w w.heap.size A L0 l0)(hl0:l0.length=3+i/2)(hsl:(secs m).length=3+i/2)(EN:∀y∈secs m,y.length=64)(hms:m.own.length<=1000000/\m.used.length<=1000000/\m.ino.length<=1000000)(hD:Dl 1 j q b bj k Pd w)(hbd:Bd Pd w)(Oh:∀i,Pv i->¬ Pd i){R:Dk Sx->Nat->Int->Prop}(hC:∀(u:qae)(v:qah)(Pl:List Pc),Dl 1 j q b bj k Pd u->u.ownsRow w.heap.size 140 3 v Pl.length (Yz Pl)->(∀p∈Pl,Us u w.heap.size p)->w.heap.size<=u.heap.size->Pl.map (fun p=>(p.s,p.x))=Vj (1+j) (secs m) l0 (3+i/2)++Ql j i (g*pp) at_ there->qam Tryz.prog 75 #[.pointer bj,v] u fun e w'=>∃(k':Dk Sx)(q':Nat)(y:Int),e=.returned (.int .i64 y)/\(y=0\/y=6)/\R k' q' y/\Nx (Dl 1 j q' b bj k') Pd u w'):
  qam Tryz.prog 25 #[.pointer bv] w fun e w'=>∃(k':Dk Sx)(q':Nat)(y:Int),e=.returned (.int .i64 y)/\R k' q' y/\∃z,(w.heap.size<=z/\z<=w'.heap.size)/\(∃oM:Nat->Prop,Dl 1 j q' b bj k' oM w'/\∀i,oM i->(Pd i\/z<=i)/\i<w'.heap.size)/\Kept (fun i=>i=bv\/i=bm\/Pd i) w w'/\
   ((y=0/\∃A2 c2 L2,Vs Pv w' bv x m bm (ZZ j i g pp b bj (.pointer none) A2 c2 false)/\Zu XA Xz zx w' bm (fun _=>zx) (fun _=>false) 0/\Zx w' w.heap.size (.slice A2 (3+i/2) c2) L2 (secs m)/\At (fun i=>w.heap.size<=i/\i<z) A2/\∀s∈L2,At (fun i=>w.heap.size<=i/\i<z) s.A)\/(y=6/\Vs Pv w' bv x m bm (ZZ j i g pp b bj be A c true)/\Zu XA Xz zx w' bm at_ there n)):=by
 have HV:qau (∀u:qae,Kept Pd w u->Vs Pv u bv x m bm (ZZ j i g pp b bj be A c false)/\Zu XA Xz zx u bm at_ there n):=χ (fun u hu=>⟨OI h hbv Oh hu,hM.keep (hu.block bm (hbv bm hpm) (Oh bm hpm))⟩)
 have HBV:=χ (hbv bv h.pv)
 have jM:=χ (hbv bm hpm)
 have HNM:=χ (Kv h.box hM.isMap)
 have HDS:qau (¬ Pd bv/\¬ Pd bm):=χ ⟨Oh _ h.pv,Oh _ hpm⟩
 have Cg:qau (∀u:qae,qaj w.heap.size w u->Dl 1 j q b bj k Pd u):=χ (fun u hu=>(Qm ..).out _ _ _ hD (fun i hi=>hu.block i (hbd i hi)) hu.size)
 have HBD:=χ hbd
 have HPV:=χ hbv
 have vM:qau (∀u:qae,Kept Pd w u->qam Tryz.prog 74 #[.agg #[j,.int .i64 i,g,pp],.agg #[.slice x.rA m.rows.length x.rc,.slice x.oA m.own.length x.oc,.slice x.uA m.used.length x.uc,.slice x.iA m.ino.length x.ic]] u fun e w'=>∃A2 c2 L2,e=.returned (.tuple #[.slice A2 (3+i/2:Nat) c2,()])/\Zx w' u.heap.size (.slice A2 (3+i/2:Nat) c2) L2 (secs m)/\qaj u.heap.size u w'):=χ (fun u hu=>by
  have hv:=OI h hbv Oh hu
  have hc:=Meta.Ko ⟨j,i,g,pp⟩ m ho x u hv.met.lies hms
  rw[Wn hR]at hc
  refine hc.mono ?_
  intro e w' hh
  obtain⟨A2,c2,L2,he,h1,-,-,-,h2⟩:=hh.got
  rw[hsl]at he h1
  exact⟨A2,c2,L2,he,h1,h2⟩)
 have aZ:qau (∀(u:qae)(A1:Option qaJ)(c1:Nat)(L:List Sc),qaj w.heap.size w u->Zx u w.heap.size (.slice A1 (3+i/2:Nat) c1) L (secs m)->qam Tryz.prog 77 #[.pointer bv,.slice A1 (3+i/2:Nat) c1] u fun e w'=>∃A' c' Pl,e=.returned (.slice A' (Vj (1+j) (secs m) l0 (3+i/2)).length c')/\Zc w' w.heap.size (.slice A' (Vj (1+j) (secs m) l0 (3+i/2)).length c') Pl/\Pl.map (fun p=>(p.s,p.x))=Vj (1+j) (secs m) l0 (3+i/2)/\qaj u.heap.size u w'):=χ (fun u A1 c1 L hu hs=>Af Za (OI h hbv Oh (Kept.of_below hu)).box (h0.later hu) hl0 hs hsl EN hu.size)
 have HBP:qau (∀u:qae,qaj w.heap.size w u->qam Tryz.prog 78 #[.pointer bv] u fun e w'=>∃A' c' Pl,e=.returned (.slice A' (Ql j i (g*pp) at_ there).length c')/\Zc w' u.heap.size (.slice A' (Ql j i (g*pp) at_ there).length c') Pl/\Pl.map (fun p=>(p.s,p.x))=Ql j i (g*pp) at_ there/\qaj u.heap.size u w'):=χ (fun u hu=>Ae Za (VM.start (OI h hbv Oh (Kept.of_below hu)) (hM.keep (hu.block bm (hbv bm hpm))) hpm) hn hN)
 have hl1:(Vj (1+j) (secs m) l0 (3+i/2)).length<=100:=by
  have hi:=Za.v.i2
  unfold Vj
  rw[qaf]
  have:=qaz (fun a=>(secs m)[a]? != l0[a]?) (qat (3+i/2))
  rw[qaB]at this
  omega
 have hl2:(Ql j i (g*pp) at_ there).length<=512:=by
  have V8:=Za.v.gp
  rw[<-Int.natCast_mul]at V8
  unfold Ql
  rw[qaf]
  have:=Qk (g*pp) there
  omega
 have HC:=χ hC
 obtain⟨D1,hD1⟩:∃D1,Vj (1+j) (secs m) l0 (3+i/2)=D1:=⟨_,rfl⟩
 obtain⟨D2,hD2⟩:∃D2,Ql j i (g*pp) at_ there=D2:=⟨_,rfl⟩
 rw[hD1]at hl1 aZ HC
 rw[hD2]at hl2 HBP HC
 generalize secs m=sm at*
 obtain⟨nl,hnl⟩:∃nl,3+i/2=nl:=⟨_,rfl⟩
 have HK0:=χ (Kept.refl Pd w)
 have abB:qau (∀(v:qah)(A2:Option qaJ)(c2:Nat),ZZ j i g pp b bj v A2 c2 false=[v]++(ZZ j i g pp b bj v A2 c2 false).tail):=χ (fun v A2 c2=>rfl)
 have Xr:qau (D1.length<=100/\D2.length<=512):=χ ⟨hl1,hl2⟩
 clear h hM hpm hbv hn hN hR ho h0 hl0 hsl EN hms hD hbd Oh hC hD1 hD2 Za hl1 hl2 abB hnl nl
 have c20:w.cell? ⟨bv,20,none⟩=some (.bool false):=(HV.out w HK0.out).1.box.cell 20
 go_enter Tryz.func25,Tryz.ntmps25
 go_upto_region 5 with fail
 clear c20
 have hS0:Kept Pd w w.drew:=HK0.out.drew
 have HB0:=χ ((qak w.heap.size w).drew)
 refine qas (S:=fun u=>Kept Pd w u) (by kernel_rfl) hS0 (fun hHeld=>?_)
 clear hS0
 generalize hu0:w.drew=vL at*
 clear hu0
 refine tk 0 ?_ (y:=.inl ⟨by rfl,?hya0⟩) (s:=by exact hHeld) (h:=?V6)
 case hya0=>exact zhq0
 try simp only[qad,qaa,qab,qac]
 refine tk 1 ?_ (y:=.inl ⟨by rfl,?hya1⟩) (s:=by exact hHeld) (h:=?V5)
 case hya1=>exact zhq0
 try simp only[qad,qaa,qab,qac]
 refine tk 2 ?_ (y:=.inl ⟨by rfl,?hya2⟩) (s:=by exact hHeld) (h:=?V4)
 case hya2=>exact zhq0
 try simp only[qad,qaa,qab,qac]
 refine tk 3 ?_ (y:=.inl ⟨by rfl,?hya3⟩) (s:=by exact hHeld) (h:=?TD)
 case hya3=>exact zhq0
 try simp only[qad,qaa,qab,qac]
 refine tk 4 ?_ (y:=.inl ⟨by rfl,?hya4⟩) (s:=by exact hHeld) (h:=?TN)
 case hya4=>exact zhq0
 try simp only[qad,qaa,qab,qac]
 refine tk 5 ?_ (y:=.inl ⟨by rfl,?hya5⟩) (s:=by exact hHeld) (h:=?Vi)
 case hya5=>exact zhq0
 try simp only[qad,qaa,qab,qac]
 refine tk 6 ?_ (y:=.inl ⟨by rfl,?hya6⟩) (s:=by exact hHeld) (h:=?UR)
 case hya6=>exact zhq0
 try simp only[qad,qaa,qab,qac]
 refine tk 7 ?_ (y:=.inl ⟨by rfl,?hya7⟩) (s:=by exact hHeld) (h:=?RU)
 case hya7=>exact zhq0
 try simp only[qad,qaa,qab,qac]
 refine tk 8 ?_ (y:=.inl ⟨by rfl,?hya8⟩) (s:=by exact hHeld) (h:=?RS)
 case hya8=>exact zhq0
 try simp only[qad,qaa,qab,qac]
 refine rd 9 (h:=fun K_ hK=>?_)
 go_simp
 (with_reducible refine(vM.out _ hHeld).mono ?_)
 rintro e w1 ⟨A2,c2,L2,he,hs,hb⟩;obtain rfl:=he
 have hSz:Kept Pd w w1:=Kept.of_below (HB0.out.trans (hb.mono HB0.out.size))
 have HB1:=χ (HB0.out.trans (hb.mono HB0.out.size))
 have HS2:=χ (hs.base HB0.out.size)
 clear hb hs
 go_simp
 refine hK.out _ _ hSz (fun Z5=>?_)
 clear hK K_ hHeld hSz
 have hHeld:=Z5
 clear Z5
 try simp only[qad,qaa,qab,qac]
 refine tk 10 ?_ (y:=.inl ⟨by rfl,?hya10⟩) (s:=by exact hHeld) (h:=?Vb)
 case hya10=>exact zhq0
 try simp only[qad,qaa,qab,qac]
 refine tk 11 ?_ (y:=.inl ⟨by rfl,?hya11⟩) (s:=by exact hHeld) (h:=?Rb)
 case hya11=>exact zhq0
 try simp only[qad,qaa,qab,qac]
 refine tk 12 ?_ (y:=.inl ⟨by rfl,?hya12⟩) (s:=by exact hHeld) (h:=?Ra)
 case hya12=>exact zhq0
 try simp only[qad,qaa,qab,qac]
 refine tk 13 ?_ (y:=.inl ⟨by rfl,?hya13⟩) (s:=by exact hHeld) (h:=?LQ)
 case hya13=>exact zhq0
 try simp only[qad,qaa,qab,qac]
 refine tk 14 ?_ (y:=.inl ⟨by rfl,?hya14⟩) (s:=by exact hHeld) (h:=?Cf)
 case hya14=>exact zhq0
 try simp only[qad,qaa,qab,qac]
 refine qaF (by kernel_rfl) ?_ _
 clear hHeld HB0 vM
 go_upto_region 6 with fail
 have hS0:Kept Pd w w1.drew:=(Kept.of_below HB1.out).drew
 have HB2:=χ (HB1.out.drew)
 have Cj:=χ (HS2.out.below (qak _ w1).drew)
 refine qas (S:=fun u=>Kept Pd w u) (by kernel_rfl) hS0 (fun hHeld=>?_)
 clear hS0
 generalize hu0:w1.drew=y1_ at*
 clear hu0 HS2 HB1
 refine tk 0 ?_ (y:=.inl ⟨by rfl,?hyb0⟩) (s:=by exact hHeld) (h:=?Ad)
 case hyb0=>exact zhq0
 try simp only[qad,qaa,qab,qac]
 refine tk 1 ?_ (y:=.inl ⟨by rfl,?hyb1⟩) (s:=by exact hHeld) (h:=?Ac)
 case hyb1=>exact zhq0
 try simp only[qad,qaa,qab,qac]
 refine tk 2 ?_ (y:=.inl ⟨by rfl,?hyb2⟩) (s:=by exact hHeld) (h:=?Ab)
 case hyb2=>exact zhq0
 try simp only[qad,qaa,qab,qac]
 refine tk 3 ?_ (y:=.inl ⟨by rfl,?hyb3⟩) (s:=by exact hHeld) (h:=?Aa)
 case hyb3=>exact zhq0
 try simp only[qad,qaa,qab,qac]
 refine tk 4 ?_ (y:=.inl ⟨by rfl,?hyb4⟩) (s:=by exact hHeld) (h:=?zZ)
 case hyb4=>exact zhq0
 try simp only[qad,qaa,qab,qac]
 refine tk 5 ?_ (y:=.inl ⟨by rfl,?hyb5⟩) (s:=by exact hHeld) (h:=?vK)
 case hyb5=>exact zhq0
 try simp only[qad,qaa,qab,qac]
 refine tk 7 ?_ (y:=.inl ⟨by rfl,?hyb7⟩) (s:=by exact hHeld) (h:=?vJ)
 case hyb7=>exact zhq0
 try simp only[qad,qaa,qab,qac]
 refine rd 6 (h:=fun K_ hK=>?_)
 go_simp
 (with_reducible refine(aZ.out _ _ _ _ HB2.out Cj.out).mono ?_)
 rintro e w2 ⟨A3,c3,P1,he,hp,hpm,hb⟩;obtain rfl:=he
 have HB3:=χ (HB2.out.trans (hb.mono HB2.out.size))
 have hSz:Kept Pd w w2:=Kept.of_below HB3.out
 have EU:=χ (Cj.out.below hb)
 have HP1:=χ hp
 have iD:=χ hpm
 clear hb hp hpm Cj HB2
 go_simp
 refine hK.out _ _ hSz (fun Z5=>?_)
 clear hK K_ hHeld hSz
 have hHeld:=Z5
 clear Z5
 try simp only[qad,qaa,qab,qac]
 refine rd 8 (h:=fun K_ hK=>?_)
 go_simp
 (with_reducible refine(HBP.out _ HB3.out).mono ?_)
 rintro e w3 ⟨A4,c4,P2,he,hp,hpm,hb⟩;obtain rfl:=he
 have VT:=χ (HB3.out.trans (hb.mono HB3.out.size))
 have hSz:Kept Pd w w3:=Kept.of_below VT.out
 have ou:=χ (EU.out.below hb)
 have HP2:=χ (HP1.out.below hb)
 have E9:=χ (hp.lower HB3.out.size)
 have iC:=χ hpm
 clear hb hp hpm EU HB3 HP1
 go_simp
 refine hK.out _ _ hSz (fun Z5=>?_)
 clear hK K_ hHeld hSz
 have hHeld:=Z5
 clear Z5
 try simp only[qad,qaa,qab,qac]
 refine rd 9 (h:=fun K_ hK=>?_)
 go_simp
 have hb:=Z0 w3 (.cells #[.slice A3 D1.length c3,.slice A4 D2.length c4] 137)
 have V9:=χ (VT.out.trans (hb.mono VT.out.size))
 have hSz:Kept Pd w (w3.alloc (.cells #[.slice A3 D1.length c3,.slice A4 D2.length c4] 137)):=Kept.of_below V9.out
 have ae:=χ (ou.out.below hb)
 have aa:=χ (HP2.out.below hb)
 have HQ3:=χ (E9.out.below hb)
 have OH:=χ (Bk.new w3 137 [.slice A3 D1.length c3,.slice A4 D2.length c4])
 clear hb ou HP2 E9 VT
 refine hK.out _ _ hSz (fun Z5=>?_)
 clear hK K_ hHeld hSz
 have hHeld:=Z5
 clear Z5
 try simp only[qad,qaa,qab,qac]
 generalize hg3:w3.heap.size=g3 at*
 clear hg3
 generalize w3.alloc (.cells #[.slice A3 D1.length c3,.slice A4 D2.length c4] 137)=w4 at*
 have hl1:P1.length=D1.length:=by rw[<-iD.out,qaf]
 have hl2:P2.length=D2.length:=by rw[<-iC.out,qaf]
 have hr1:=aa.out.row
 have hr2:=HQ3.out.row
 rw[hl1]at hr1
 rw[hl2]at hr2
 obtain⟨hc1,-,hd1⟩:=WR hr1
 obtain⟨hc2,-,hd2⟩:=WR hr2
 have RQ:qau (qam Tryz.prog 76 #[.slice g3 2 2] w4 fun e w'=>∃v,e=.returned v/\w'.ownsRow w4.heap.size 140 3 v (P1++P2).length (Yz (P1++P2))/\qaj w4.heap.size w4 w'):=χ (by
  have:=nV [(.slice A3 D1.length c3,P1),(.slice A4 D2.length c4,P2)] (some ⟨g3,0,none⟩) 2 2 w4 rfl (.inr ⟨g3,0,rfl,OH.out.lt,fun q v hv=>by rw[qaq,OH.out.cell q];exact hv⟩) (fun q hq=>by
   rcases List.mem_cons.1 hq with rfl|hq
   ·exact⟨A3,_,c3,rfl,hl1,hc1,hd1⟩
   ·obtain rfl:=List.mem_singleton.1 hq
    exact⟨A4,_,c4,rfl,hl2,hc2,hd2⟩) (by
   have:=Xr.out
   simp[Wx]
   omega) (by omega)
  simpa[Wx]using this)
 clear hl1 hl2 hr1 hr2 hc1 hc2 hd1 hd2 OH
 refine rd 10 (h:=fun K_ hK=>?_)
 go_simp
 (with_reducible refine RQ.out.mono ?_)
 rintro e w5 ⟨v5,he,hrow,hb⟩;obtain rfl:=he
 have Mo:=χ (V9.out.trans (hb.mono V9.out.size))
 have hSz:Kept Pd w w5:=Kept.of_below Mo.out
 have HS7:=χ (ae.out.below hb)
 have HP4:=χ (aa.out.below hb)
 have HQ4:=χ (HQ3.out.below hb)
 have aY:=χ (ZL hrow V9.out.size)
 clear hb hrow ae aa HQ3 V9 RQ
 go_simp
 refine hK.out _ _ hSz (fun Z5=>?_)
 clear hK K_ hHeld hSz
 have hHeld:=Z5
 clear Z5
 try simp only[qad,qaa,qab,qac]
 have Kn:qau (∀p∈P1++P2,Us w5 w.heap.size p):=χ (fun p hp=>(List.mem_append.1 hp).elim (fun h=>HP4.out.each p h) (fun h=>HQ4.out.each p h))
 have wO:qau ((P1++P2).map (fun p=>(p.s,p.x))=D1++D2):=χ (by rw[qan,iD.out,iC.out])
 clear HP4 HQ4 iD iC
 refine rd 11 (h:=fun K_ hK=>?_)
 go_simp
 (with_reducible refine(HC.out w5 v5 _ (Cg.out _ Mo.out) aY.out Kn.out Mo.out.size wO.out).mono ?_)
 rintro e w6 ⟨k2,q2,y,he,hy,hr,Pd2,hd2,hk2,aaa⟩;obtain rfl:=he
 have hSz:Kept Pd w w6:=(Kept.of_below Mo.out).trans hk2 (fun i hi=>.inl hi)
 have iB:=χ hSz
 have HS8:=χ (Re HS7.out HBD.out hk2)
 have HAT:=χ (EO HS7.out)
 have HZ5:qau (w.heap.size<=w5.heap.size/\w5.heap.size<=w6.heap.size):=χ ⟨Mo.out.size,hk2.size⟩
 have HD2:=χ hd2
 have zY:qau (∀i,Pd2 i->(Pd i\/w5.heap.size<=i)/\i<w6.heap.size):=χ aaa
 have HY:=χ hy
 have HRR:=χ hr
 clear hd2 hk2 aaa hr hy HS7 Kn wO aY Mo HC aZ HBP Cg
 go_simp
 refine hK.out _ _ hSz (fun Z5=>?_)
 clear hK K_ hHeld hSz
 have hHeld:=Z5
 clear Z5
 try simp only[qad,qaa,qab,qac]
 refine tk 12 ?_ (y:=.inl ⟨by rfl,?hyb12⟩) (s:=by exact hHeld) (h:=?vI)
 case hyb12=>exact zhq0
 try simp only[qad,qaa,qab,qac]
 refine qaF (by kernel_rfl) ?_ _
 clear hHeld
 obtain⟨nU,HM6⟩:=HV.out _ iB.out
 have HW6:=χ nU
 have HX6:=χ HM6
 have c20:w6.cell? ⟨bv,20,none⟩=some (.bool false):=nU.box.cell 20
 have c19:w6.cell? ⟨bv,19,none⟩=some (.slice A (3+i/2:Nat) c):=nU.box.cell 19
 have c5:w6.cell? ⟨bv,5,none⟩=some be:=nU.box.cell 5
 obtain⟨-,-,-,-,c4⟩:=nU.cells
 have fz:=fun q=>nU.box.frozen q
 clear nU HM6 HV
 have nT:qau (∀u:qae,Kept (fun i=>i=bv\/i=bm) w6 u->(w.heap.size<=w5.heap.size/\w5.heap.size<=u.heap.size)/\(∃oM:Nat->Prop,Dl 1 j q2 b bj k2 oM u/\∀i,oM i->(Pd i\/w5.heap.size<=i)/\i<u.heap.size)/\Kept (fun i=>i=bv\/i=bm\/Pd i) w u/\Zx u w.heap.size (.slice A2 (3+i/2:Nat) c2) L2 sm):=χ (fun u hu=>by
  have hne:∀i,Pd2 i->¬ (i=bv\/i=bm):=fun i hi h=>by
   have h1:=HBV.out
   have h2:=jM.out
   rcases(zY.out i hi).1 with h3|h3
   ·rcases h with h4|h4
    ·rw[h4]at h3;exact HDS.out.1 h3
    ·rw[h4]at h3;exact HDS.out.2 h3
   ·have h5:=HZ5.out.1
    omega
  refine⟨⟨HZ5.out.1,qax HZ5.out.2 hu.size⟩,⟨Pd2,(Qm ..).out _ _ _ HD2.out (fun i hi=>hu.block i (zY.out i hi).2 (hne i hi)) hu.size,fun i hi=>⟨(zY.out i hi).1,qaA (zY.out i hi).2 hu.size⟩⟩,?_,Re HS8.out (fun i hi=>by have h1:=HBV.out;have h2:=jM.out;omega) hu⟩
  exact(VL iB.out (fun i hi=>.inr (.inr hi))).trans hu (fun i hi=>.inl (hi.imp id .inl)))
 have hkb:∀(u:qae)(q:Nat)(v:qah),Kept (fun i=>i=bv\/i=bm) u (u.setCell ⟨bv,q,none⟩ v):=fun u q v=>VL (YY u bv q v) (fun i hi=>.inl hi)
 have hmk:∀(u:qae)(q:Nat)(v:qah),Zu XA Xz zx u bm at_ there n->Zu XA Xz zx (u.setCell ⟨bv,q,none⟩ v) bm at_ there n:=fun u q v hm=>hm.keep (Xp u bv q v bm hm.lt HNM.out)
 rcases HY.out with h0|h6
 ·subst h0
  clear HY
  have HW7:=Kq HW6.out 20 (.bool false) (rest':=ZZ j i g pp b bj be A c false) rfl
  have HW8:=Kq HW7 19 (.slice A2 (3+i/2:Nat) c2) (rest':=ZZ j i g pp b bj be A2 c2 false) rfl
  have HW9:=Kq HW8 5 (.pointer none) (rest':=ZZ j i g pp b bj (.pointer none) A2 c2 false) rfl
  have HX9:=hmk _ 5 (.pointer none) (hmk _ 19 (.slice A2 (3+i/2:Nat) c2) (hmk _ 20 (.bool false) HX6.out))
  have HK9:=((hkb w6 20 (.bool false)).trans (hkb _ 19 (.slice A2 (3+i/2:Nat) c2)) (fun i hi=>.inl hi)).trans (hkb _ 5 (.pointer none)) (fun i hi=>.inl hi)
  obtain⟨iM,hrun,aab,hk10⟩:=zX _ HX9
  have Sm:=χ hrun
  have abC:=χ aab
  have abD:=χ (HW9.map HX9.isMap hk10)
  have HF:=χ (nT.out _ (HK9.trans (VL hk10 (fun i hi=>.inr hi)) (fun i hi=>.inl hi)))
  clear HW6 HX6 HW7 HW8 HW9 HX9 HK9 hrun aab hk10 nT hkb hmk HS8 HD2 zY iB
  go_wp2_with (refine Kr rfl (.tmp 58) rfl rfl (Sm.out _) ?_)
  go_ret
  exact⟨k2,q2,0,rfl,HRR.out,_,HF.out.1,HF.out.2.1,HF.out.2.2.1,.inl ⟨rfl,A2,c2,L2,abD.out,abC.out,HF.out.2.2.2,HAT.out.1,HAT.out.2⟩⟩
 ·subst h6
  clear HY
  have HWF:=χ (Kq HW6.out 20 (.bool true) (rest':=ZZ j i g pp b bj be A c true) rfl)
  have HXF:=χ (hmk _ 20 (.bool true) HX6.out)
  have HF:=χ (nT.out _ (hkb w6 20 (.bool true)))
  clear HW6 HX6 nT hkb hmk HS8 HD2 zY iB
  go_wp2
  go_ret
  exact⟨k2,q2,6,rfl,HRR.out,_,HF.out.1,HF.out.2.1,HF.out.2.2.1,.inr ⟨rfl,HWF.out,HXF.out⟩⟩
end
end Go.Proofs.YtmehhgfbnfbnaaaGreat.Zl

namespace Go.Proofs.YtmehhgfbnfbnaaaGreat.Zl
open Go.RowKit Zq Meta
section
variable {g n bm:Nat}{w:qae}{there:Int->Bool}{e ty:TypeId}{x:Meta.Mem}{m:Meta.Met}{rest:List qah}
theorem Zu.bE {β:Type}{R:qah->Option (DataW Unit × List MemPlace)}{dat:β->DataW Unit}{z:β}{b:Nat}{at_:Int->β}(h:Zu R dat z w b at_ there n):
  ∃es clock,w.heap[b]? =some (.map es clock)/\Zu R dat z (w.alloc (.map es clock)) w.heap.size at_ there n:=by
 obtain⟨D,⟨es,clock,hb,F,hs,hD⟩,h2⟩:=h
 exact⟨es,clock,hb,D,⟨es,clock,(Go.MapKept.heap_alloc _ _).1,F,hs,hD⟩,h2⟩
theorem bD(w:qae)(b:Nat)(es:Array MapEntry)(clock:Nat)(hb:w.heap[b]? =some (.map es clock)):
  qam Tryz.prog 133 #[.map (some b)] w fun e w'=>e=.returned (.map (some w.heap.size))/\w'=w.alloc (.map es clock):=by
 have hq:=fun w=>run_eql_map_nil_sl (P:=Tryz.prog) w 125 _ _ (some b) Tryz.underlying125
 go_enter Tryz.func133,Tryz.ntmps133
 go_wp2
 rw[run_callFunc_extern (f:=205) (P:=Tryz.prog) Tryz.func205 (by kernel_rfl) (by kernel_rfl) (by kernel_rfl) (e:=Extern.MapsClone.clone) (by kernel_rfl),run_maps_clone_sl w 125 hb]
 simp only[qaH]
 rw[Oper.upon_value]
 go_wp2
 rw[run_typeAssert_map_sl _ 125 20 _ _ _ Tryz.underlying125]
 simp only[qaH]
 rw[Oper.upon_value]
 go_wp2
 go_ret
 exact⟨rfl,rfl⟩
def iQ:List qah->Nat->List qah->List qah
 |xs,_,[]=>xs
 |xs,o,v::vs=>iQ (xs.set o v) (o+1) vs
theorem OL(vs:List qah):∀(u:qae)(o:Nat)(xs:List qah),Bk u g e xs->Bk (u.setCells g o vs) g e (iQ xs o vs):=by
 induction vs with
 |nil=>exact fun _ _ _ h=>h
 |cons v vs ih=>exact fun u o xs h=>ih _ _ _ (h.set o v)
theorem Rh{u:qae}{xs:List qah}(h:Bk u g e xs)(hn:n<=xs.length):u.there g 0 n:=fun j hj=>by
 rw[qaq]
 exact⟨by rw[h.cell j,qag (by omega)];rfl,h.frozen j⟩
theorem I5:(Tryz.prog.info? 127).map (·.size)=some 5:=by kernel_rfl
theorem Wd(h:Bk w g ty (Rk x m bm rest)):w.cell? ⟨g,0,none⟩=some (.slice x.rA m.rows.length x.rc)/\w.cell? ⟨g,1,none⟩=some (.slice x.oA m.own.length x.oc)/\w.cell? ⟨g,2,none⟩=some (.slice x.uA m.used.length x.uc)/\w.cell? ⟨g,3,none⟩=some (.slice x.iA m.ino.length x.ic)/\w.cell? ⟨g,4,none⟩=some (.map (some bm)):=
 ⟨h.cell 0,h.cell 1,h.cell 2,h.cell 3,h.cell 4⟩
theorem Ff(hB:Bk w g ty (Rk x m bm rest))(hl:Meta.Wv w w.heap.size x m){at_:Int->Sx}(hM:Zu XA Xz zx w bm at_ there n)(ho:Rc m)(hlen:m.rows.length<=65536/\m.own.length<=65536/\m.used.length<=65536/\m.ino.length<=65536):
  qam Tryz.prog 73 #[.pointer g] w fun e w'=>∃(y:Meta.Mem)(Rn:Nat),e=.returned (.agg #[.slice y.rA m.rows.length y.rc,.slice y.oA m.own.length y.oc,.slice y.uA m.used.length y.uc,.slice y.iA m.ino.length y.ic,.map (some Rn)])/\Y1 w' w.heap.size y m/\Zu XA Xz zx w' Rn at_ there n/\w.heap.size<=Rn/\qaj w.heap.size w w':=by
 have hal:=Z0 w (.cells #[.slice none 0 0,.slice none 0 0,.slice none 0 0,.slice none 0 0,.map none] 127)
 have HB:=χ hal
 have Zk:=χ (Bk.new w 127 [.slice none 0 0,.slice none 0 0,.slice none 0 0,.slice none 0 0,.map none])
 have HG:=χ (hB.below hal hB.lt)
 have HL:=χ (hl.later hal)
 have HM:=χ (hM.keep (hal.block bm hM.lt))
 have hsz:w.heap.size<=(w.alloc (.cells #[.slice none 0 0,.slice none 0 0,.slice none 0 0,.slice none 0 0,.map none] 127)).heap.size:=by simp
 have HZ:=χ hsz
 have HC:qau (∀u:qae,Meta.Wv u u.heap.size x m->qam Tryz.prog 96 #[.agg #[.slice x.rA m.rows.length x.rc,.slice x.oA m.own.length x.oc,.slice x.uA m.used.length x.uc,.slice x.iA m.ino.length x.ic]] u fun e w'=>∃y:Meta.Mem,e=.returned (.agg #[.slice y.rA m.rows.length y.rc,.slice y.oA m.own.length y.oc,.slice y.uA m.used.length y.uc,.slice y.iA m.ino.length y.ic])/\Y1 w' u.heap.size y m/\qaj u.heap.size u w'):=χ (fun u hu=>FM m ho x u hu hlen)
 have HS:qau (∀u u':qae,Bk u g ty (Rk x m bm rest)/\Meta.Wv u u.heap.size x m/\Zu XA Xz zx u bm at_ there n->qaj u.heap.size u u'->Bk u' g ty (Rk x m bm rest)/\Meta.Wv u' u'.heap.size x m/\Zu XA Xz zx u' bm at_ there n):=χ (fun u u' h hb=>⟨h.1.below hb h.1.lt,h.2.1.later hb,h.2.2.keep (hb.block bm h.2.2.lt)⟩)
 have uX:qau (∀u:qae,Bk u g ty (Rk x m bm rest)->u.rangeAt g 0 [.slice x.rA m.rows.length x.rc,.slice x.oA m.own.length x.oc,.slice x.uA m.used.length x.uc,.slice x.iA m.ino.length x.ic]):=χ (fun u hu=>fun j v hj=>by
  rw[qaq,hu.cell j]
  match j with
  |0|1|2|3=>exact hj
  |k+4=>cases hj)
 have acV:qau ((Tryz.prog.info? 60).map (·.size)=some 4):=χ (by kernel_rfl)
 have hS:Bk (w.alloc (.cells #[.slice none 0 0,.slice none 0 0,.slice none 0 0,.slice none 0 0,.map none] 127)) g ty (Rk x m bm rest)/\Meta.Wv (w.alloc (.cells #[.slice none 0 0,.slice none 0 0,.slice none 0 0,.slice none 0 0,.map none] 127)) (w.alloc (.cells #[.slice none 0 0,.slice none 0 0,.slice none 0 0,.slice none 0 0,.map none] 127)).heap.size x m/\Zu XA Xz zx (w.alloc (.cells #[.slice none 0 0,.slice none 0 0,.slice none 0 0,.slice none 0 0,.map none] 127)) bm at_ there n:=⟨HG.out,HL.out,HM.out⟩
 have HSF:qau (∀u':qae,qaj w.heap.size w u'->Bk u' g ty (Rk x m bm rest)/\Meta.Wv u' u'.heap.size x m/\Zu XA Xz zx u' bm at_ there n):=χ (fun u' hb=>⟨hB.below hb hB.lt,hl.later hb,hM.keep (hb.block bm hM.lt)⟩)
 clear hB hl hM ho hlen hal hsz
 obtain⟨U,hU⟩:∃U,w.alloc (.cells #[.slice none 0 0,.slice none 0 0,.slice none 0 0,.slice none 0 0,.map none] 127)=U:=⟨_,rfl⟩
 rw[hU]at hS HB Zk HZ
 clear HG HL HM
 go_enter Tryz.func73,Tryz.ntmps73
 go_upto_region 1 with fail
 clear hU
 generalize hg0:w.heap.size=gx at*
 have hS0:=HS.out _ _ hS (qak _ U).drew
 refine qas (S:=fun u=>Bk u g ty (Rk x m bm rest)/\Meta.Wv u u.heap.size x m/\Zu XA Xz zx u bm at_ there n) (by kernel_rfl) hS0 (fun hHeld=>?_)
 clear hS0
 have Cn:=χ (Zk.out.below (qak _ U).drew Zk.out.lt)
 have HB0:=χ HB.out.drew
 generalize hu0:U.drew=vL at*
 refine tk 0 ?_ (y:=.inl ⟨by rfl,?hya0⟩) (s:=by exact hHeld) (h:=?V6)
 case hya0=>exact zhq2
 try simp only[qad,qaa,qab,qac]
 refine tk 1 ?_ (y:=.inl ⟨by rfl,?hya1⟩) (s:=by exact hHeld) (h:=?V5)
 case hya1=>exact zhq2
 try simp only[qad,qaa,qab,qac]
 refine tk 2 ?_ (y:=.inl ⟨by rfl,?hya2⟩) (s:=by exact hHeld) (h:=?V4)
 case hya2=>exact zhq2
 try simp only[qad,qaa,qab,qac]
 refine tk 3 _ (y:=(yieldsIf_load_mid (by rfl) 60 _ rfl g 0 rfl [.slice x.rA m.rows.length x.rc,.slice x.oA m.own.length x.oc,.slice x.uA m.used.length x.uc,.slice x.iA m.ino.length x.ic] _ (fun u hu=>uX.out u hu.1) Tryz.underlying60 rfl acV.out)) (s:=by exact hHeld) (h:=?_)
 try simp only[qad,qaa,qab,qac]
 refine tk 5 ?_ (y:=.inl ⟨by rfl,?hya5⟩) (s:=by exact hHeld) (h:=?Vi)
 case hya5=>exact zhq2
 try simp only[qad,qaa,qab,qac]
 refine tk 6 ?_ (y:=.inl ⟨by rfl,?hya6⟩) (s:=by exact hHeld) (h:=?UR)
 case hya6=>exact zhq2
 try simp only[qad,qaa,qab,qac]
 refine tk 7 ?_ (y:=.inl ⟨by rfl,?hya7⟩) (s:=by exact hHeld) (h:=?RU)
 case hya7=>exact zhq2
 try simp only[qad,qaa,qab,qac]
 refine tk 8 ?_ (y:=.inl ⟨by rfl,?hya8⟩) (s:=by exact hHeld) (h:=?RS)
 case hya8=>exact zhq2
 try simp only[qad,qaa,qab,qac]
 refine rd 4 (h:=fun K_ hK=>?_)
 go_simp
 (with_reducible refine(HC.out _ hHeld.2.1).mono ?_)
 rintro e w1 ⟨y,he,hy,hb⟩;obtain rfl:=he
 have hSz:=HS.out _ _ hHeld hb
 go_simp
 refine hK.out _ _ hSz (fun Z5=>?_)
 clear hK K_ hHeld hSz
 have hHeld:=Z5
 clear Z5
 try simp only[qad,qaa,qab,qac]
 have hb0:=hb
 clear hb
 refine rd 9 (h:=fun K_ hK=>?_)
 go_simp
 obtain⟨es,clock,hes,hmm⟩:=Zu.bE hHeld.2.2
 (with_reducible refine(bD _ _ _ _ hes).mono ?_)
 rintro e w2 ⟨he,hw⟩;obtain rfl:=he;subst hw
 have hb:=Z0 w1 (.map es clock)
 have hSz:=HS.out _ _ hHeld hb
 go_simp
 refine hK.out _ _ hSz (fun Z5=>?_)
 clear hK K_ hHeld hSz
 have hHeld:=Z5
 clear Z5
 try simp only[qad,qaa,qab,qac]
 have HZ0:qau (gx<=vL.heap.size):=χ (by have:=Cn.out.lt;omega)
 have HHM:=χ hmm
 have HOY:=χ (hy.below hb)
 have HB2:=χ ((HB0.out.trans (hb0.mono HZ0.out)).trans (hb.mono (qax HZ0.out hb0.size)))
 have Rj:=χ ((Cn.out.below hb0 Cn.out.lt).below hb (Cn.out.below hb0 Cn.out.lt).lt)
 have hlt1:gx<w1.heap.size:=(Cn.out.below hb0 Cn.out.lt).lt
 clear hmm hy hb hb0 hes
 generalize hg2:w1.heap.size=g2 at*
 generalize w1.alloc (.map es clock)=w2 at*
 refine tk 10 ?_ (y:=.inl ⟨by rfl,?hya10⟩) (s:=by exact hHeld) (h:=?Vb)
 case hya10=>exact zhq2
 try simp only[qad,qaa,qab,qac]
 refine rd 11 (h:=fun K_ hK=>?_)
 rw[if_pos (by rfl)]
 refine wp_store_mid 127 _ _ rfl gx 0 #[.slice y.rA m.rows.length y.rc,.slice y.oA m.own.length y.oc,.slice y.uA m.used.length y.uc,.slice y.iA m.ino.length y.ic,.map (some g2)] rfl rfl (Rh Rj.out (qai 5)) I5 (by kernel_rfl) ?_
 simp only[qad]
 have HF:qau (Bk (w2.setCells gx 0 [.slice y.rA m.rows.length y.rc,.slice y.oA m.own.length y.oc,.slice y.uA m.used.length y.uc,.slice y.iA m.ino.length y.ic,.map (some g2)]) gx 127 [.slice y.rA m.rows.length y.rc,.slice y.oA m.own.length y.oc,.slice y.uA m.used.length y.uc,.slice y.iA m.ino.length y.ic,.map (some g2)]):=χ (OL _ _ 0 _ Rj.out)
 have oL:qau (qaj gx w (w2.setCells gx 0 [.slice y.rA m.rows.length y.rc,.slice y.oA m.own.length y.oc,.slice y.uA m.used.length y.uc,.slice y.iA m.ino.length y.ic,.map (some g2)])):=χ (Meta.below_setCells (qai _) _ 0 HB2.out)
 have hko:∀i,i≠gx->(w2.setCells gx 0 [.slice y.rA m.rows.length y.rc,.slice y.oA m.own.length y.oc,.slice y.uA m.used.length y.uc,.slice y.iA m.ino.length y.ic,.map (some g2)]).heap[i]? =w2.heap[i]? :=fun i hi=>ZJ gx _ 0 w2 i hi
 have HOF:=χ (Y1.other Rj.out (fun i _ hi=>hko i hi) HOY.out)
 have HMF:=χ (HHM.out.keep (hko g2 (by omega)))
 clear hko
 have hGF:Bk (w2.setCells gx 0 [.slice y.rA m.rows.length y.rc,.slice y.oA m.own.length y.oc,.slice y.uA m.used.length y.uc,.slice y.iA m.ino.length y.ic,.map (some g2)]) g ty (Rk x m bm rest)/\Meta.Wv (w2.setCells gx 0 [.slice y.rA m.rows.length y.rc,.slice y.oA m.own.length y.oc,.slice y.uA m.used.length y.uc,.slice y.iA m.ino.length y.ic,.map (some g2)]) (w2.setCells gx 0 [.slice y.rA m.rows.length y.rc,.slice y.oA m.own.length y.oc,.slice y.uA m.used.length y.uc,.slice y.iA m.ino.length y.ic,.map (some g2)]).heap.size x m/\Zu XA Xz zx (w2.setCells gx 0 [.slice y.rA m.rows.length y.rc,.slice y.oA m.own.length y.oc,.slice y.uA m.used.length y.uc,.slice y.iA m.ino.length y.ic,.map (some g2)]) bm at_ there n:=HSF.out _ oL.out
 refine hK.out _ _ hGF (fun Z5=>?_)
 clear hK K_ hHeld hGF
 have hHeld:=Z5
 clear Z5
 try simp only[qad,qaa,qab,qac]
 refine qaF (by kernel_rfl) ?_ _
 clear hHeld
 generalize w2.setCells gx 0 [.slice y.rA m.rows.length y.rc,.slice y.oA m.own.length y.oc,.slice y.uA m.used.length y.uc,.slice y.iA m.ino.length y.ic,.map (some g2)]=w3 at*
 obtain⟨d0,d1,d2,d3,d4⟩:=N9 HF.out
 go_wp2
 subst hg0
 refine bodyPost_ret (v:=.agg #[.slice y.rA m.rows.length y.rc,.slice y.oA m.own.length y.oc,.slice y.uA m.used.length y.uc,.slice y.iA m.ino.length y.ic,.map (some g2)]) (by simp[results,Tryz.results73,go_sem,d0,d1,d2,d3,d4]) rfl ⟨y,_,rfl,?_,?_,?_,?_⟩
 ·exact HOF.out.base HZ0.out
 ·exact HMF.out
 ·omega
 ·exact oL.out
end
end Go.Proofs.YtmehhgfbnfbnaaaGreat.Zl

namespace Go.Proofs.YtmehhgfbnfbnaaaGreat.Zl
open Go.RowKit Zq Meta
section
variable {w:qae}{bj b n q bv bm j i g pp c:Nat}{x:Meta.Mem}{m:Meta.Met}{be:qah}{A:Option qaJ}{dead:Bool}
theorem oV{w':qae}{f:Nat}(h:JB w bj b f n q)(hb:qaj w.heap.size w w'):JB w' bj b f n q:=(hb.block bj h.lt).trans h
theorem oU(h:Bk w bv 132 (Rk x m bm (ZZ j i g pp b bj be A c dead)))(v:qah):Bk (w.setCell ⟨bv,5,none⟩ v) bv 132 (Rk x m bm (ZZ j i g pp b bj v A c dead)):=h.set 5 v
theorem vS(Za:VG j i g pp){P:Nat->Prop}{at_:Int->Sx}{there:Int->Bool}(h:VM P w w bv bm x m (ZZ j i g pp b bj be A c dead) at_ there n)(hJ:JB w bj b 1 j q)(hj:3<=j/\j<=4096)(ho:Rc m)(hlen:m.rows.length<=65536/\m.own.length<=65536/\m.used.length<=65536/\m.ino.length<=65536)(hroom:(n:Int)<=(room j:Int)-(3+(i:Int)/2)-80):
  qam Tryz.prog 23 #[.pointer bv] w fun e w'=>e=.returned (.int .i64 0)/\∃(bb Rn:Nat)(y:Meta.Mem),Bk w' bv 132 (Rk x m bm (ZZ j i g pp b bj (.pointer bb) A c dead))/\Bk w' bb 127 (Rk y m Rn [])/\Y1 w' w.heap.size y m/\Zu XA Xz zx w' Rn at_ there n/\w.heap.size<=bb/\w.heap.size<=Rn/\Kept (· =bv) w w':=by
 have HD:qau (∀u:qae,VM P w u bv bm x m (ZZ j i g pp b bj be A c dead) at_ there n/\JB u bj b 1 j q->qam Tryz.prog 46 #[.pointer bv] u fun e w'=>e=.returned (.int .i64 n)/\u=w'):=χ (fun u hu=>qj hu.1)
 have HR:qau (∀u:qae,VM P w u bv bm x m (ZZ j i g pp b bj be A c dead) at_ there n/\JB u bj b 1 j q->qam Tryz.prog 71 #[.pointer bj] u fun e w'=>e=.returned (.int .i64 (room j:Int))/\u=w'):=χ (fun u hu=>Nf u bj b 1 j q hu.2 hj.1 hj.2)
 have HM:qau (∀u:qae,qam Tryz.prog 72 #[.agg #[j,.int .i64 i,g,pp]] u fun e w'=>e=.returned (.int .i64 (3+(i:Int)/2))/\qaj u.heap.size u w'):=χ (fun u=>ZG.Q7 Za.v u)
 have HS:qau (∀u u':qae,VM P w u bv bm x m (ZZ j i g pp b bj be A c dead) at_ there n/\JB u bj b 1 j q->qaj u.heap.size u u'->VM P w u' bv bm x m (ZZ j i g pp b bj be A c dead) at_ there n/\JB u' bj b 1 j q):=χ (fun u u' hu hb=>⟨hu.1.below hb,oV hu.2 hb⟩)
 have HC:qau (∀u:qae,VM P w u bv bm x m (ZZ j i g pp b bj be A c dead) at_ there n/\JB u bj b 1 j q->qam Tryz.prog 73 #[.pointer bv] u fun e w'=>∃(y:Meta.Mem)(Rn:Nat),e=.returned (.agg #[.slice y.rA m.rows.length y.rc,.slice y.oA m.own.length y.oc,.slice y.uA m.used.length y.uc,.slice y.iA m.ino.length y.ic,.map (some Rn)])/\Y1 w' u.heap.size y m/\Zu XA Xz zx w' Rn at_ there n/\u.heap.size<=Rn/\qaj u.heap.size u w'):=χ (fun u hu=>Ff hu.1.vs.box hu.1.vs.met.lies hu.1.map ho hlen)
 have k1:qaw.wrap ((room j:Int)-(3+(i:Int)/2))=(room j:Int)-(3+(i:Int)/2):=by
  rw[qal]
  have:=Za.v.i2
  unfold room
  omega
 have k2:qaw.wrap ((room j:Int)-(3+(i:Int)/2)-80)=(room j:Int)-(3+(i:Int)/2)-80:=by
  rw[qal]
  have:=Za.v.i2
  unfold room
  omega
 have k3:¬ (room j:Int)-(3+(i:Int)/2)-80<(n:Int):=by omega
 have hS:VM P w w bv bm x m (ZZ j i g pp b bj be A c dead) at_ there n/\JB w bj b 1 j q:=⟨h,hJ⟩
 clear Za ho hlen hroom h hJ
 go_enter Tryz.func23,Tryz.ntmps23
 go_upto_region 3 with fail
 have hS0:=HS.out _ _ hS (qak _ w).drew
 refine qas (S:=fun u=>VM P w u bv bm x m (ZZ j i g pp b bj be A c dead) at_ there n/\JB u bj b 1 j q) (by kernel_rfl) hS0 (fun hHeld=>?_)
 clear hS0
 generalize hu0:w.drew=vL at*
 refine tk 0 ?_ (y:=.inl ⟨by rfl,?hya0⟩) (s:=by exact hHeld) (h:=?V6)
 case hya0=>exact zhq1
 try simp only[qad,qaa,qab,qac]
 refine tk 2 ?_ (y:=.inl ⟨by rfl,?hya2⟩) (s:=by exact hHeld) (h:=?V4)
 case hya2=>exact zhq1
 try simp only[qad,qaa,qab,qac]
 refine tk 3 ?_ (y:=.inl ⟨by rfl,?hya3⟩) (s:=by exact hHeld) (h:=?TD)
 case hya3=>exact zhq1
 try simp only[qad,qaa,qab,qac]
 refine tk 4 ?_ (y:=.inl ⟨by rfl,?hya4⟩) (s:=by exact hHeld) (h:=?TN)
 case hya4=>exact zhq1
 try simp only[qad,qaa,qab,qac]
 refine tk 5 ?_ (y:=.inl ⟨by rfl,?hya5⟩) (s:=by exact hHeld) (h:=?Vi)
 case hya5=>exact zhq1
 try simp only[qad,qaa,qab,qac]
 refine tk 7 ?_ (y:=.inl ⟨by rfl,?hya7⟩) (s:=by exact hHeld) (h:=?RU)
 case hya7=>exact zhq1
 try simp only[qad,qaa,qab,qac]
 refine tk 8 ?_ (y:=.inl ⟨by rfl,?hya8⟩) (s:=by exact hHeld) (h:=?RS)
 case hya8=>exact zhq1
 try simp only[qad,qaa,qab,qac]
 refine tk 9 ?_ (y:=.inl ⟨by rfl,?hya9⟩) (s:=by exact hHeld) (h:=?OW)
 case hya9=>exact zhq1
 try simp only[qad,qaa,qab,qac]
 refine tk 10 ?_ (y:=.inl ⟨by rfl,?hya10⟩) (s:=by exact hHeld) (h:=?Vb)
 case hya10=>exact zhq1
 try simp only[qad,qaa,qab,qac]
 refine rd 1 (h:=fun K_ hK=>?_)
 go_simp
 (with_reducible refine(HD.out _ hHeld).mono ?_)
 rintro e w1 ⟨he,hw⟩;obtain rfl:=he;subst hw
 go_simp
 refine hK.out _ _ hHeld (fun Z5=>?_)
 clear hK K_ hHeld
 have hHeld:=Z5
 clear Z5
 try simp only[qad,qaa,qab,qac]
 refine rd 6 (h:=fun K_ hK=>?_)
 go_simp
 (with_reducible refine(HR.out _ hHeld).mono ?_)
 rintro e w1 ⟨he,hw⟩;obtain rfl:=he;subst hw
 go_simp
 refine hK.out _ _ hHeld (fun Z5=>?_)
 clear hK K_ hHeld
 have hHeld:=Z5
 clear Z5
 try simp only[qad,qaa,qab,qac]
 refine rd 11 (h:=fun K_ hK=>?_)
 go_simp
 (with_reducible refine(HM.out _).mono ?_)
 rintro e w1 ⟨he,hb⟩;obtain rfl:=he
 have oQ:=HS.out _ _ hHeld hb
 clear hHeld
 have hHeld:=oQ
 clear oQ
 go_simp
 refine hK.out _ _ hHeld (fun Z5=>?_)
 clear hK K_ hHeld
 have hHeld:=Z5
 clear Z5
 try simp only[qad,qaa,qab,qac]
 refine tk 12 ?_ (y:=.inl ⟨by rfl,?hya12⟩) (s:=by exact hHeld) (h:=?Ra)
 case hya12=>exact zhq1
 try simp only[qad,qaa,qab,qac]
 refine tk 13 ?_ (y:=.inl ⟨by rfl,?hya13⟩) (s:=by exact hHeld) (h:=?LQ)
 case hya13=>exact zhq1
 try simp only[qad,qaa,qab,qac]
 refine tk 14 ?_ (y:=.inl ⟨by rfl,?hya14⟩) (s:=by exact hHeld) (h:=?Cf)
 case hya14=>exact zhq1
 try simp only[qad,qaa,qab,qac]
 refine qaF (by kernel_rfl) ?_ _
 have hbw:qaj w.heap.size w w1:=by
  have h1:qaj w.heap.size w vL:=by rw[<-hu0];exact(qak _ w).drew
  exact h1.trans (hb.mono h1.size)
 have HB1:=χ hbw
 clear hb hbw hu0 hS k1 k2 HD HR HM
 go_upto_region 7 with fail
 go_upto_region 8 with(first
  |(go_at_call 73;go_must (with_reducible refine(HC.out _ hHeld).mono ?_);rintro e w2 ⟨y,Rn,he,hy,hm,hlt,hb⟩;obtain rfl:=he;have HY:=χ hy;have Fz:=χ hm;have Ol:=χ hlt;have VJ:=χ hb;have htw:=HS.out _ _ hHeld hb;have HTZ:=χ htw;have acU:=χ (qax HB1.out.size hlt);clear hy hm hlt hb htw hHeld HC)
  |(refine qaE rfl 127 (.tmp 4) (.tmp 30) rfl w2.heap.size 0 #[.slice y.rA m.rows.length y.rc,.slice y.oA m.own.length y.oc,.slice y.uA m.used.length y.uc,.slice y.iA m.ino.length y.ic,.map (some Rn)] rfl rfl (Rh (Bk.new w2 127 [.slice none 0 0,.slice none 0 0,.slice none 0 0,.slice none 0 0,.map none]) (qai 5)) I5 (by kernel_rfl) ?_))
 have Rj:=χ (OL [.slice y.rA m.rows.length y.rc,.slice y.oA m.own.length y.oc,.slice y.uA m.used.length y.uc,.slice y.iA m.ino.length y.ic,.map (some Rn)] _ 0 _ (Bk.new w2 127 [.slice none 0 0,.slice none 0 0,.slice none 0 0,.slice none 0 0,.map none]))
 have HB2:=χ (Meta.below_setCells (qai w2.heap.size) [.slice y.rA m.rows.length y.rc,.slice y.oA m.own.length y.oc,.slice y.uA m.used.length y.uc,.slice y.iA m.ino.length y.ic,.map (some Rn)] 0 (Z0 w2 (.cells #[.slice none 0 0,.slice none 0 0,.slice none 0 0,.slice none 0 0,.map none] 127)))
 generalize hw3:(w2.alloc (.cells #[.slice none 0 0,.slice none 0 0,.slice none 0 0,.slice none 0 0,.map none] 127)).setCells w2.heap.size 0 [.slice y.rA m.rows.length y.rc,.slice y.oA m.own.length y.oc,.slice y.uA m.used.length y.uc,.slice y.iA m.ino.length y.ic,.map (some Rn)]=w3 at*
 have hbb:qaj w.heap.size w w2:=HB1.out.trans (VJ.out.mono HB1.out.size)
 have hb3:qaj w.heap.size w w3:=hbb.trans (HB2.out.mono hbb.size)
 have hv3:=HS.out _ _ HTZ.out HB2.out
 have hbv:bv<w2.heap.size:=HTZ.out.1.vs.box.lt
 have vR:Rn<w2.heap.size:=Fz.out.lt
 have hmv:Rn≠bv:=Kv HTZ.out.1.vs.box Fz.out.isMap
 have ho:∀i,i<w3.heap.size->i≠bv->(w3.setCell ⟨bv,5,none⟩ (.pointer w2.heap.size)).heap[i]? =w3.heap[i]? :=Xp w3 bv 5 _
 have HF1:=χ (oU hv3.1.vs.box (.pointer w2.heap.size))
 have HF2:qau (Bk (w3.setCell ⟨bv,5,none⟩ (.pointer w2.heap.size)) w2.heap.size 127 (Rk y m Rn [])):=χ ((ho w2.heap.size Rj.out.lt (by omega)).trans Rj.out)
 have HF3:=χ ((Y1.other hv3.1.vs.box ho (HY.out.below HB2.out)).base HB1.out.size)
 have HF4:=χ ((Fz.out.keep (HB2.out.block Rn vR)).keep (ho Rn (qaA vR HB2.out.size) hmv))
 have HF5:=χ hbb.size
 have HF6:=χ ((Kept.of_below (S:=(· =bv)) hb3).trans (YY w3 bv 5 (.pointer w2.heap.size)) (fun i hi=>.inl hi))
 have c5:w3.cell? ⟨bv,5,none⟩=some be:=hv3.1.vs.box.cell 5
 have f5:=hv3.1.vs.box.frozen 5
 clear hbb hb3 hv3 hbv vR hmv ho HTZ HY Fz Ol Rj HB2 HB1 VJ HS hw3
 go_wp2
 go_ret
 exact⟨rfl,_,Rn,y,HF1.out,HF2.out,HF3.out,HF4.out,HF5.out,acU.out,HF6.out⟩
end
end Go.Proofs.YtmehhgfbnfbnaaaGreat.Zl

namespace Go.Proofs.YtmehhgfbnfbnaaaGreat.Zl
open Go.RowKit Zq Meta
section
variable {w:qae}{bv bm j i g pp b bj c:Nat}{x:Meta.Mem}{m:Meta.Met}{A:Option qaJ}{dead:Bool}
theorem wR(w:qae)(g o:Nat)(vs:List qah):Kept (· =g) w (w.setCells g o vs):=by
 induction vs generalizing w o with
 |nil=>exact Kept.refl _ _
 |cons v vs ih=>exact(YY w g o v).trans (ih _ _) (fun i hi=>.inl hi)
theorem EP(h:Bk w bv 132 (Rk x m bm (ZZ j i g pp b bj (.pointer none) A c dead))):
  qam Tryz.prog 24 #[.pointer bv] w fun e w'=>e=.returned (.tuple #[])/\w=w':=by
 have c5:w.cell? ⟨bv,5,none⟩=some (.pointer none):=h.cell 5
 clear h
 go_enter Tryz.func24,Tryz.ntmps24
 go_wp2
 refine bodyPost_ret (v:=.tuple #[]) (by simp[results,Tryz.results24,go_sem]) rfl ?_
 exact⟨rfl,rfl⟩
theorem vQ{bb Rn:Nat}{y:Meta.Mem}{m2:Meta.Met}(h:Bk w bv 132 (Rk x m bm (ZZ j i g pp b bj (.pointer bb) A c dead)))(hB:Bk w bb 127 (Rk y m2 Rn []))(hl:Meta.Wv w w.heap.size y m2){at_:Int->Sx}{there:Int->Bool}{n:Nat}(hM:Zu XA Xz zx w Rn at_ there n)(ho:Rc m2)(hlen:m2.rows.length<=65536/\m2.own.length<=65536/\m2.used.length<=65536/\m2.ino.length<=65536):
  qam Tryz.prog 24 #[.pointer bv] w fun e w'=>e=.returned (.tuple #[])/\∃(Fb:Nat)(z:Meta.Mem),Bk w' bv 132 (Rk z m2 Fb (ZZ j i g pp b bj (.pointer bb) A c dead))/\Y1 w' w.heap.size z m2/\Zu XA Xz zx w' Fb at_ there n/\w.heap.size<=Fb/\Kept (· =bv) w w':=by
 have c5:w.cell? ⟨bv,5,none⟩=some (.pointer bb):=h.cell 5
 have HV:=χ h
 have HC:=χ (Ff hB hl hM ho hlen)
 clear h hB hl hM ho hlen
 go_enter Tryz.func24,Tryz.ntmps24
 go_upto_region 2 with(first
  |(go_at_call 73;go_must (with_reducible refine HC.out.mono ?_);rintro e w2 ⟨z,Fb,he,hy,hm,hlt,hb⟩;obtain rfl:=he;have HY:=χ hy;have Fz:=χ hm;have Ol:=χ hlt;have VJ:=χ hb;have XT:=χ (HV.out.below hb HV.out.lt);clear hy hm hlt hb HC c5)
  |(refine qaE rfl 127 (.tmp 18) (.tmp 16) rfl bv 0 #[.slice z.rA m2.rows.length z.rc,.slice z.oA m2.own.length z.oc,.slice z.uA m2.used.length z.uc,.slice z.iA m2.ino.length z.ic,.map (some Fb)] rfl rfl (Rh XT.out (by show 5<=21;omega)) I5 (by kernel_rfl) ?_))
 have hbv:bv<w.heap.size:=HV.out.lt
 have hmv:Fb≠bv:=by have:=Ol.out;omega
 have ho:∀i,i≠bv->(w2.setCells bv 0 [.slice z.rA m2.rows.length z.rc,.slice z.oA m2.own.length z.oc,.slice z.uA m2.used.length z.uc,.slice z.iA m2.ino.length z.ic,.map (some Fb)]).heap[i]? =w2.heap[i]? :=fun i hi=>ZJ bv _ 0 w2 i hi
 have HF1:qau (Bk (w2.setCells bv 0 [.slice z.rA m2.rows.length z.rc,.slice z.oA m2.own.length z.oc,.slice z.uA m2.used.length z.uc,.slice z.iA m2.ino.length z.ic,.map (some Fb)]) bv 132 (Rk z m2 Fb (ZZ j i g pp b bj (.pointer bb) A c dead))):=χ (OL [.slice z.rA m2.rows.length z.rc,.slice z.oA m2.own.length z.oc,.slice z.uA m2.used.length z.uc,.slice z.iA m2.ino.length z.ic,.map (some Fb)] _ 0 _ XT.out)
 have HF2:=χ (Y1.other XT.out (fun i _ hi=>ho i hi) HY.out)
 have HF3:=χ (Fz.out.keep (ho Fb hmv))
 have HF4:=χ ((Kept.of_below (S:=(· =bv)) VJ.out).trans (wR w2 bv 0 [.slice z.rA m2.rows.length z.rc,.slice z.oA m2.own.length z.oc,.slice z.uA m2.used.length z.uc,.slice z.iA m2.ino.length z.ic,.map (some Fb)]) (fun i hi=>.inl hi))
 clear hbv hmv ho XT HY Fz VJ HV
 generalize w2.setCells bv 0 [.slice z.rA m2.rows.length z.rc,.slice z.oA m2.own.length z.oc,.slice z.uA m2.used.length z.uc,.slice z.iA m2.ino.length z.ic,.map (some Fb)]=w3 at*
 go_wp2
 go_end0
 exact⟨rfl,Fb,z,HF1.out,HF2.out,HF3.out,Ol.out,HF4.out⟩
end
end Go.Proofs.YtmehhgfbnfbnaaaGreat.Zl
