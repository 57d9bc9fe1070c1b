import Derived.Test.YtmehhgfbnfbnaaaGreatQVolO
import Derived.Test.YtmehhgfbnfbnaaaGreatQTk
import Derived.Test.YtmehhgfbnfbnaaaGreatQVolM
set_option maxRecDepth 100000
set_option maxHeartbeats 25600000
open Go renaming Value->qaa
open List renaming length_append->qab
namespace Go.Proofs.YtmehhgfbnfbnaaaGreat.Zl
open Go.RowKit Zq Meta Apart
structure VK where
 (j i g pp bv b bj bm bw c:Nat)
 be:qaa
 A:Option Addr
 dead:Bool
 base:Nat->List UInt8
def VK.af (K:VK)(s:PS):TP:=Vl K.j K.i K.g K.pp K.bv K.b K.bj K.bm K.be K.A K.c K.dead K.base s
def VK.ref (K:VK)(s:PS):TP:=Rl K.j K.i K.g K.pp K.bw s
def VK.two (K:VK)(s t:PS):TP:=star (K.af s) (K.ref t)
theorem Kt(K:VK)(s:PS):XH (K.af s):=dx ..
theorem Az(K:VK)(s:PS):XH (K.ref s):=vU ..
theorem Zh(K:VK)(s t:PS):XH (K.two s t):=XH.star (Kt K s) (Az K t)
section
variable {K:VK}{s s' t t':PS}{D:TP}{P:Nat->Prop}{w u:World}{F:FuncId}{args:Array qaa}{R:Ending->Prop}
theorem Ub(hD:XH D)(h:Nx (star (K.two s t) D) P w u)(hc:∀P1,K.af s P1 u->Bd P1 u->Calls Tryz.prog F args u fun e w'=>R e/\Nx (K.af s') P1 u w'):Calls Tryz.prog F args u fun e w'=>R e/\Nx (star (K.two s' t) D) P w w':=
 h.call (fun _ h1 h2=>VN hD h1 h2 (fun _ h3 h4=>VN (Az K t) h3 h4 hc))
theorem VV(hD:XH D)(h:Nx (star (K.two s t) D) P w u)(hc:∀P1,K.ref t P1 u->Bd P1 u->Calls Tryz.prog F args u fun e w'=>R e/\Nx (K.ref t') P1 u w'):Calls Tryz.prog F args u fun e w'=>R e/\Nx (star (K.two s t') D) P w w':=
 h.call (fun _ h1 h2=>VN hD h1 h2 (fun _ h3 h4=>CL (Kt K s) h3 h4 hc))
end
end Go.Proofs.YtmehhgfbnfbnaaaGreat.Zl

namespace Go.Proofs.YtmehhgfbnfbnaaaGreat.Zl
open Go.RowKit Zq Meta Apart
section
variable {g:Nat}{A C:TP}{P:Nat->Prop}{w u:World}{e:TypeId}{xs:List qaa}
theorem cell1(h:Nx (star A (star (Bx g e xs) C)) P w u):Bk u g e xs:=by
 obtain⟨P',⟨P1,P2,-,⟨P3,P4,h2,-⟩,-,-⟩,-⟩:=h
 exact h2.1
theorem Ux(h:Nx (star A (star C (Bx g e xs))) P w u):Bk u g e xs:=by
 obtain⟨P',⟨P1,P2,-,⟨P3,P4,-,h2,-⟩,-,-⟩,-⟩:=h
 exact h2.1
theorem set2(h:Nx (star A (star C (Bx g e xs))) P w u)(hA:XH A)(hC:XH C)(i:Nat)(v:qaa):Nx (star A (star C (Bx g e (xs.set i v)))) P w (u.setCell ⟨g,i,none⟩ v):=
 h.step (fun _ h1 h2=>Nx.right hA h1 h2 (fun _ h3 h4=>Nx.right hC h3 h4 (fun _ h5 h6=>dm h5 h6 i v)))
theorem Fs{j i pp:Nat}{s:PS}(hp:Yb j i g pp s)(a:Int):Z9.YP (YM s a).1:=by
 unfold YM
 split
 ·cases h:s.m.ino[a.toNat]? with
  |none=>exact Z9.YP.z
  |some n=>
   simp only
   split
   ·exact Z9.YP.z
   ·exact hp.ord.Vk.ino n (List.mem_of_getElem? h)
 ·exact Z9.YP.z
end
end Go.Proofs.YtmehhgfbnfbnaaaGreat.Zl

namespace Go.Proofs.YtmehhgfbnfbnaaaGreat.Zl
open Go.RowKit Zq Meta Apart
section
variable {P:Nat->Prop}{w u:World}{xs:List qaa}{A C:TP}{e:TypeId}{n k c g:Nat}{v:qaa}
def Ow(e:TypeId)(k:Nat)(v:qaa)(n:Nat)(xs:List qaa):TP:=fun P w=>w.ownsRow 0 e k v n xs/\∀i,P i↔v.ownBlock=some i
theorem CK(e:TypeId)(k:Nat)(v:qaa)(n:Nat)(xs:List qaa):XH (Ow e k v n xs):=⟨fun P w w' ⟨h1,h2⟩ hk _=>by
 refine⟨?_,h2⟩
 obtain⟨A,c,rfl,-⟩:=YT h1
 refine Xq (P:=P) h1 (fun a ha=>?_) hk
 obtain⟨g,o⟩:=a
 subst ha
 rcases h1.2 with⟨h4,_⟩|⟨q2,cap2,JF,h4,_,hc2,_⟩
 ·cases h4
 ·injection h4 with h4
  injection h4 with h4
  cases h4
  exact(h2 _).2 rfl⟩
theorem I8(h:Nx (star A (star C (Ow e k v n xs))) P w u):u.ownsRow 0 e k v n xs:=by
 obtain⟨P',⟨P1,P2,-,⟨P3,P4,-,h2,-⟩,-,-⟩,-⟩:=h
 exact h2.1
theorem dh{u':World}{base:Nat}(h:Nx A P w u)(hA:XH A)(hb:Below u.heap.size u u')(hv:u'.ownsRow base e k v n xs)(hbase:u.heap.size<=base):Nx (star A (Ow e k v n xs)) P w u':=
 h.step (fun P' h1 h2=>Nx.add hA h1 h2 hb ⟨fun i=>v.ownBlock=some i,⟨ZL hv (Nat.zero_le _),fun i=>Iff.rfl⟩,fun i hi=>by
  have:=hv.lt i hi
  omega⟩)
theorem bF(h:Ow e 1 (.slice g n c) n xs P w)(hb:Bd P w)(i:Nat)(v:qaa):Nx (Ow e 1 (.slice g n c) n (xs.set i v)) P w (w.setCell ⟨g,i,none⟩ v):=by
 obtain⟨h1,h2⟩:=h
 have hs:(w.setCell ⟨g,i,none⟩ v).heap.size=w.heap.size:=by simp
 exact⟨P,⟨(h1.stored i v).1,h2⟩,Kept.Y4 (ZT (World.grownBy.refl w (some g)) i v) (fun k hk=>by cases hk;exact(h2 _).2 rfl),fun k hk=>⟨.inl hk,by rw[hs];exact hb k hk⟩⟩
theorem kK(h:Nx (star A (star C (Ow e 1 (.slice g n c) n xs))) P w u)(hA:XH A)(hC:XH C)(i:Nat)(v:qaa):Nx (star A (star C (Ow e 1 (.slice g n c) n (xs.set i v)))) P w (u.setCell ⟨g,i,none⟩ v):=
 h.step (fun _ h1 h2=>Nx.right hA h1 h2 (fun _ h3 h4=>Nx.right hC h3 h4 (fun _ h5 h6=>bF h5 h6 i v)))
theorem AL{A:Option Addr}(h:Rd w w.heap.size A xs)(hk:Kept P w u)(hn:∀x,A=some x->¬ P x.block):Rd u u.heap.size A xs:=by
 rcases h with h0|⟨b,o,rfl,hb,hc⟩
 ·exact .inl h0
 ·exact .inr ⟨b,o,rfl,Nat.lt_of_lt_of_le hb hk.size,fun i x hx=>(World.cell?_of_block (a:=⟨b,o+i,none⟩) (hk.block b hb (hn _ rfl))).trans (hc i x hx)⟩
theorem AJ(h:Nx A P w u):Kept P w u:=by
 obtain⟨P',-,h2,-⟩:=h
 exact h2
end
end Go.Proofs.YtmehhgfbnfbnaaaGreat.Zl

namespace Go.Proofs.YtmehhgfbnfbnaaaGreat.Zl
open Go.RowKit Zq Meta Apart
section
variable {j i g pp:Nat}{s:PS}{a:VA}
def asked(s:PS)(a:VA):Z9.ZC:=if (YM s a.at_).2.2=0/\a.c%2=0 then{a.m with k:=(YM s a.at_).1.k,r:=(YM s a.at_).1.r}else a.m
noncomputable def Qs(g pp:Nat)(s:PS)(a:VA):PS:=
 match a.k%13 with
 |0=>(Zi pp s a.lab).1
 |1=>(WC g pp s a.at_).1
 |2=>(YW g pp s a.at_ (List.replicate 64 (UInt8.ofNat a.c))).1
 |3=>(YX s a.c a.lab).1
 |4=>(Yw s a.at_).1
 |5=>(Yc s a.at_ (asked s a)).1
 |12=>(YW g pp s a.at_ a.b).1
 |_=>s
theorem PD(hp:Yb j i g pp s)(hm:Z9.YP a.m):Z9.YP (asked s a):=by
 unfold asked
 have h:=Fs hp a.at_
 split
 ·exact⟨hm.len,h.k,h.r⟩
 ·exact hm
theorem Yb.does (hp:Yb j i g pp s)(hl:a.lab<65536)(hm:Z9.YP a.m):Yb j i g pp (Qs g pp s a):=by
 unfold Qs
 split
 ·exact hp.alloc hl
 ·exact hp.free _
 ·exact hp.write _ _
 ·exact hp.make _ _ hl
 ·exact(hp.CQ _).1
 ·exact hp.set _ _ (PD hp hm)
 ·exact hp.write _ _
 ·exact hp
end
end Go.Proofs.YtmehhgfbnfbnaaaGreat.Zl

namespace Go.Proofs.YtmehhgfbnfbnaaaGreat.Zl
open Go.RowKit Zq Meta Apart Go.ChangeShapes Go.WideShapes Go.ChangeAt Go.Deep Go.Joins
def Pz(l:List VA):List qaa:=l.flatMap ZQ
section
variable {H:Type}{enc:TypeId × qaa->H}{W:World}
theorem Aw{base:Nat}{v:qaa}{d:DataW H}{p:List MemPlace}(hval:qaa.okWide Tryz.prog W .any base 22 v)(h:DataW.Trod enc Tryz.prog W 0 (fun _=>true) true 22 v d p)(hlt:∀x∈p,x.block<W.heap.size):
  ∃(A:Option Addr)(n c:Nat)(l:List VA),v=.slice A n c/\l.length=n/\n<=c/\c<=maxLen/\Rd W W.heap.size A (Pz l)/\(∀x∈l,wQ W x):=by
 obtain⟨a1,len,cap,rfl⟩:=okWide_slice Tryz.underlying22 hval
 obtain⟨fuel,hf⟩:=h
 obtain⟨A,n,c,l,h1,h2,h3,h4,h5,h6,_⟩:=open_list Tryz.underlying22 bK (by omega) ZQ .z (wQ W) (fun fuel cs d p hcl hl h=>kg fuel cs d p hcl hl h) hf hlt
 exact⟨A,n,c,l,h1,h2,h3,h4,h5,h6⟩
end
section
variable {W:World}{a:VA}{l:List VA}{i:Nat}
theorem OM(h:wQ W a):(ZQ a).length=20:=by
 unfold ZQ
 rw[qab,qab,Z9.Y5 h.m]
 rfl
theorem ow(a:VA):∀v∈ZQ a,v.oneCell'=true:=by
 intro v hv
 unfold ZQ at hv
 simp only[List.mem_append,List.mem_cons,List.mem_nil_iff,or_false]at hv
 rcases hv with((rfl|rfl|rfl|rfl|rfl)|hv)|rfl
 ·rfl
 ·rfl
 ·rfl
 ·rfl
 ·rfl
 ·exact Yj _ _ hv
 ·rfl
theorem Py(h:∀x∈l,wQ W x):(Pz l).length=l.length*20:=by
 induction l with
 |nil=>rfl
 |cons a l ih=>
  have h1:=OM (h a (by simp))
  have h2:=ih (fun x hx=>h x (by simp[hx]))
  unfold Pz at h2⊢
  rw[List.flatMap_cons,qab,h1,h2,List.length_cons]
  omega
theorem jU(h:∀x∈l,wQ W x)(hi:l[i]? =some a){q:Nat}{u:qaa}(hu:(ZQ a)[q]? =some u):(Pz l)[i*20+q]? =some u:=by
 induction l generalizing i with
 |nil=>simp at hi
 |cons b l ih=>
  have h1:=OM (h b (by simp))
  have h2:=fun(i:Nat) (hi:l[i]? =some a)=>ih (fun x hx=>h x (by simp[hx])) (i:=i) hi
  unfold Pz at h2⊢
  rw[List.flatMap_cons]
  cases i with
  |zero=>
   simp only[List.getElem?_cons_zero,Option.some.injEq]at hi
   subst hi
   have:=(List.getElem?_eq_some_iff.1 hu).1
   rw[Nat.zero_mul,Nat.zero_add,List.getElem?_append_left (by omega)]
   exact hu
  |succ i=>
   simp only[List.getElem?_cons_succ]at hi
   rw[List.getElem?_append_right (by omega),h1]
   have:=h2 i hi
   rw[show(i+1)*20+q-20=i*20+q by omega]
   exact this
theorem wz{w:World}{B b o:Nat}(hr:Rd w B (some ⟨b,o,none⟩) (Pz l))(h:∀x∈l,wQ W x)(hi:l[i]? =some a):w.rangeAt b (o+i*20) (ZQ a):=fun q u hu=>by
 have h1:=jU h hi hu
 rcases hr with h0|⟨b9,o9,h9,-,h11⟩
 ·rw[h0]at h1;simp at h1
 ·cases h9
  have:=h11 _ _ h1
  rwa[show o+(i*20+q)=o+i*20+q by omega]at this
theorem oz(l:List VA)(A:Option Addr)(n c:Nat)(w:World)(hn:l.length=n)(hc:n<=c)(hr:Rd w w.heap.size A (Pz l))(ho:∀x∈l,wQ W x):
  Calls Tryz.prog 20 #[.slice A n c] w fun e w'=>∃m,e=.returned (.slice A m c)/\w=w'/\m<=n/\m<=100/\∀q x,q<m->l[q]? =some x->x.b.length<=200:=by
 have Hn:=χ hn
 have Hr:=χ hr
 have HO:=χ ho
 clear hn hr ho
 go_enter Tryz.func20,Tryz.ntmps20
 go_wp2
 go_loopw [3,6] (fun _ kc wr=>∃k:Nat,kc=.int .i64 k/\k<=n/\k<=100/\wr=w/\Hid (∀q x,q<k->l[q]? =some x->x.b.length<=200)) (fun _ kc _=>n-(intOf kc).toNat)
 case atStart=>exact⟨0,rfl,Nat.zero_le _,Nat.zero_le _,rfl,χ (fun q x hq=>by omega)⟩
 case round=>
  obtain⟨k,rfl,hk,hk1,hw,TH⟩:=hrel
  subst hw
  by_cases hlt:k<n
  ·obtain⟨a,ha⟩:∃a,l[k]? =some a:=⟨_,List.getElem?_eq_getElem (by rw[Hn.out];exact hlt)⟩
   obtain⟨b,o,hA,hb⟩:=YU Hr.out (by rw[Py HO.out,Hn.out];omega)
   have HAA:=χ hA
   subst hA
   have z4:=wz Hr.out HO.out ha 4 _ (show(ZQ a)[4]? =some (.slice a.A a.b.length a.cap)from rfl)
   have HA:=χ ha
   have V7:(k:Int)<(n:Int):=by omega
   have h00:(0:Int)<=(k:Int):=by omega
   have hwk:IntKind.i64.wrap ((k:Int)+1)=((k+1:Nat):Int):=by rw[IntKind.wrap_i64];omega
   clear ha
   by_cases bC:k=100
   ·have e1:(100:Int)<=(k:Int):=by omega
    have hkc:(k:Int)<=(c:Int):=by omega
    have HR:Hid (∀q x,q<k->l[q]? =some x->x.b.length<=200):=TH
    have HK:=χ (And.intro hk hk1)
    clear TH bC
    go_wp2
    go_ret
    exact⟨k,rfl,rfl,HK.out.1,HK.out.2,HR.out⟩
   ·have e1:¬ (100:Int)<=(k:Int):=by omega
    by_cases hbl:a.b.length<=200
    ·have e2:¬ (200:Int)<(a.b.length:Int):=by omega
     have Ue:Hid (∀q x,q<k+1->l[q]? =some x->x.b.length<=200):=χ (fun q x hq hx=>by
      rcases Nat.lt_or_ge q k with h|h
      ·exact TH.out q x h hx
      ·obtain rfl:q=k:=by omega
       rw[HA.out]at hx
       cases hx
       exact hbl)
     have hk2:k+1<=100:=by omega
     clear bC TH hbl
     go_wp2
     go_roundw
     case rel=>exact⟨k+1,by first|rfl|(congr 1),hlt,hk2,by first|trivial|rfl,Ue⟩
     case measure=>simp[intOf];omega
    ·have e2:(200:Int)<(a.b.length:Int):=by omega
     have hkc:(k:Int)<=(c:Int):=by omega
     have HR:Hid (∀q x,q<k->l[q]? =some x->x.b.length<=200):=TH
     have HK:=χ (And.intro hk hk1)
     clear TH bC hbl
     go_wp2
     go_ret
     exact⟨k,rfl,rfl,HK.out.1,HK.out.2,HR.out⟩
  ·obtain rfl:k=n:=by omega
   go_wp2
   go_ret
   exact⟨k,rfl,rfl,Nat.le_refl _,hk1,TH.out⟩
end
end Go.Proofs.YtmehhgfbnfbnaaaGreat.Zl
