import Derived.Test.YtmehhgfbnfbnaaaGreatQF
import Derived.Test.YtmehhgfbnfbnaaaGreatQMetaF
import Derived.Test.YtmehhgfbnfbnaaaGreatQMetaB
import Derived.Test.YtmehhgfbnfbnaaaGreatQMetaX4
import Derived.Test.YtmehhgfbnfbnaaaGreatQTk
import Derived.Deep.Slices
import Derived.Deep.Fields
import Derived.ChangeSame
import Derived.Lib.SmallJoins
set_option maxRecDepth 100000
set_option maxHeartbeats 25600000
open Go.DataW renaming trod_int->qaa,trod->qab
open List renaming getElem?_eq_some_iff->qac,mem_range->qad,flatMap_cons->qae,getElem?_eq_getElem->qag,mem_map->qah
open Go renaming Value->qaf
namespace Go.Proofs.YtmehhgfbnfbnaaaGreat.Meta
open Go.Proofs.YtmehhgfbnfbnaaaGreat
open Go.RowKit Go.ChangeShapes Go.WideShapes Go.ChangeAt Go.Deep Go.Joins
theorem own:ownKnob Tryz.prog.godebug=none:=by kernel_rfl
theorem laid:laidOutB Tryz.prog=true:=by kernel_rfl
theorem cells5:Tryz.prog.cellsOf 5=1:=by kernel_rfl
def Fe(s:Int):Prop:= -9223372036854775808<=s/\s<=9223372036854775807
section
variable {H:Type}{enc:TypeId × qaf->H}{W:World}
end
section
variable {α:Type}{k:Nat}
theorem jW{f:α->List qaf}{l:List α}(hf:∀x∈l,(f x).length=k){i:Nat}{x:α}(h:l[i]? =some x){j:Nat}{u:qaf}(hu:(f x)[j]? =some u):(l.flatMap f)[i*k+j]? =some u:=by
 induction l generalizing i with
 |nil=>simp at h
 |cons m l ih=>
  have hl:=hf m (by simp)
  rw[qae]
  cases i with
  |zero=>
   obtain rfl:m=x:=by simpa using h
   have hj:=(qac.1 hu).1
   rw[List.getElem?_append_left (by omega),Nat.zero_mul,Nat.zero_add]
   exact hu
  |succ i=>
   rw[Nat.succ_mul,List.getElem?_append_right (by omega),show i*k+k+j-(f m).length=i*k+j by omega]
   exact ih (fun y hy=>hf y (by simp[hy])) (by simpa using h)
theorem Fg{f:α->List qaf}{l:List α}(hf:∀x∈l,(f x).length=k):(l.flatMap f).length=l.length*k:=by
 induction l with
 |nil=>simp
 |cons m l ih=>
  rw[qae,List.length_append,hf m (by simp),ih (fun y hy=>hf y (by simp[hy])),List.length_cons,Nat.succ_mul,Nat.add_comm]
end
section
variable {H:Type}{enc:TypeId × qaf->H}{P:Program}{W:World}
theorem open_list{α:Type}{t e:TypeId}{k:Nat}(ht:P.underlying t=some (.slice e))(hk:P.cellsOf e=k)(hk0:0<k)(f:α->List qaf)(z:α)(Φ:α->Prop)
  (hone:∀(fuel:Nat)(cs:List qaf)(d:DataW H)(p:List MemPlace),cs.length=k->(∀y∈p,y.block<W.heap.size)->qab enc P W 0 (fun _=>true) true fuel e cs=some (d,p)->∃x:α,cs=f x/\Φ x)
  {fuel:Nat}{v:qaf}{d:DataW H}{p:List MemPlace}(h:qab enc P W 0 (fun _=>true) true fuel t [v]=some (d,p))(hlt:∀y∈p,y.block<W.heap.size):
  ∃(A:Option Addr)(n c:Nat)(l:List α),v=.slice A n c/\l.length=n/\n<=c/\c<=maxLen/\Rd W W.heap.size A (l.flatMap f)/\(∀x∈l,Φ x)/\∀x∈l,(f x).length=k:=by
 rcases open_slice ht h with⟨hcs,hx⟩|⟨a,len,cap,m,n,D,Pl,hcs,_,hl,hm,hmm,hx,hi⟩
 ·obtain rfl:v=.slice none 0 0:=by simpa using hcs
  exact⟨none,0,0,[],rfl,rfl,Nat.le_refl _,Nat.zero_le _,.inl rfl,fun x hx=>(by cases hx),fun x hx=>(by cases hx)⟩
 ·obtain rfl:v=.slice (some a) len cap:=by simpa using hcs
  simp only[Prod.mk.injEq]at hx
  obtain⟨rfl,rfl⟩:=hx
  simp only[if_true]at hmm
  subst hmm
  rw[hk]at hi hlt
  have hat:∀i,∃x:α,i<len->Φ x/\(f x).length=k/\∀j u,(f x)[j]? =some u->W.cell? ((a.add (i*k)).add j)=some u:=by
   intro i
   by_cases hlt':i<len
   ·obtain⟨cs',hc,ht'⟩:=hi i (by omega)
    obtain⟨_,hcl,hcc⟩:=World.cells?_some hc
    obtain⟨x,hx1,hx2⟩:=hone n cs' (D i) (Pl i) hcl (fun y hy=>hlt y (by
     simp only[List.mem_append,List.mem_flatMap,qad]
     exact .inr ⟨i,by omega,hy⟩)) ht'
    subst hx1
    exact⟨x,fun _=>⟨hx2,hcl,fun j u hu=>by rw[hcc j (by have:=(qac.1 hu).1;omega),hu]⟩⟩
   ·exact⟨z,fun h=>absurd h hlt'⟩
  obtain⟨F,hF⟩:=Classical.axiomOfChoice hat
  have hget:∀i,i<len->((List.range len).map F)[i]? =some (F i):=fun i hi=>by rw[List.getElem?_map,List.getElem?_range hi];rfl
  have hlen:∀x∈(List.range len).map F,(f x).length=k:=fun x hx=>by
   obtain⟨i,hi',rfl⟩:=qah.1 hx
   exact(hF i (qad.1 hi')).2.1
  refine⟨some a,len,_,(List.range len).map F,rfl,by simp,hl,hm,?_,fun x hx=>?_,hlen⟩
  ·by_cases h0:len=0
   ·subst h0;exact .inl rfl
   ·obtain⟨ab,ao,spot⟩:=a
    have hspot:spot=none:=by
     obtain⟨u,hu⟩:∃u,(f (F 0))[0]? =some u:=⟨_,qag (by rw[(hF 0 (by omega)).2.1];exact hk0)⟩
     have:=(hF 0 (by omega)).2.2 0 u hu
     simpa[Addr.add]using World.cell?_spot this
    subst hspot
    refine .inr ⟨ab,ao,rfl,?_,fun j u hu=>?_⟩
    ·refine hlt (.cell ab ao) ?_
     simp only[MemPlace.row,List.mem_append,qah,qad]
     exact .inl ⟨0,Nat.mul_pos (by omega) hk0,rfl⟩
    ·have hj:j<len*k:=by
      have:=(qac.1 hu).1
      rw[Fg hlen]at this
      simpa using this
     have hil:j/k<len:=Nat.div_lt_of_lt_mul (by rw[Nat.mul_comm];exact hj)
     have hjk:j%k<k:=Nat.mod_lt _ hk0
     have e2:j/k*k+j%k=j:=by rw[Nat.mul_comm];exact Nat.div_add_mod j k
     obtain⟨u',hu'⟩:∃u,(f (F (j/k)))[j%k]? =some u:=⟨_,qag (by rw[(hF _ hil).2.1];exact hjk)⟩
     have g:=jW hlen (hget _ hil) hu'
     rw[e2,hu]at g
     have hc:=(hF _ hil).2.2 _ _ hu'
     rw[Addr.add_lit,Addr.add_lit,Nat.add_assoc,e2]at hc
     rw[g]
     exact hc
  ·obtain⟨i,hi',rfl⟩:=qah.1 hx
   exact(hF i (qad.1 hi')).1
end
section
variable {n:Int}
theorem Fh(l:List UInt8):Z6 l=l.flatMap fun x=>[XG x]:=by
 induction l with
 |nil=>rfl
 |cons r l ih=>rw[qae,<-ih];rfl
theorem Mx(h:(Lit.int .u8 n).wf=true):∃m:Nat,n=(m:Int)/\m<256:=by
 have:=bounds_u8 h
 exact⟨n.toNat,by omega,by omega⟩
theorem jX(h:(Lit.int .u16 n).wf=true):∃m:Nat,n=(m:Int)/\m<65536:=by
 have:=bounds_u16 h
 exact⟨n.toNat,by omega,by omega⟩
theorem TY:Tryz.prog.cellsOf 5=1/\Tryz.prog.cellsOf 3=1/\Tryz.prog.cellsOf 68=2/\Tryz.prog.cellsOf 40=14/\Tryz.prog.cellsOf 37=1/\Tryz.prog.cellsOf 36=1/\Tryz.prog.cellsOf 38=8:=by
 refine⟨?_,?_,?_,?_,?_,?_,?_⟩<;>kernel_rfl
end
section
variable {H:Type}{enc:TypeId × qaf->H}{W:World}
section
variable {α:Type}
theorem bH(fuel:Nat)(cs:List qaf)(d:DataW H)(p:List MemPlace)(_hl:cs.length=1)(_hp:∀y∈p,y.block<W.heap.size)(h:qab enc Tryz.prog W 0 (fun _=>true) true fuel 5 cs=some (d,p)):∃x:UInt8,cs=[XG x]/\True:=by
 obtain⟨z,e,_,w⟩:=qaa Tryz.underlying5 h
 obtain⟨m,rfl,hm⟩:=Mx w
 refine⟨UInt8.ofNat m,?_,trivial⟩
 rw[e]
 simp[XG]
 omega
theorem TZ{l:List α}(h:l.length=7):∃a b c d e f g,l=[a,b,c,d,e,f,g]:=by
 match l,h with
 |[a,b,c,d,e,f,g],_=>exact⟨a,b,c,d,e,f,g,rfl⟩
theorem Cr{l:List α}(h:l.length=8):∃a b c d e f g i,l=[a,b,c,d,e,f,g,i]:=by
 match l,h with
 |[a,b,c,d,e,f,g,i],_=>exact⟨a,b,c,d,e,f,g,i,rfl⟩
theorem LZ{l:List α}(h:l.length=14):∃a b c d e f g i j k m n o p,l=[a,b,c,d,e,f,g,i,j,k,m,n,o,p]:=by
 match l,h with
 |[a,b,c,d,e,f,g,i,j,k,m,n,o,p],_=>exact⟨a,b,c,d,e,f,g,i,j,k,m,n,o,p,rfl⟩
theorem jY(fuel:Nat)(cs:List qaf)(d:DataW H)(p:List MemPlace)(hcl:cs.length=14)(_hp:∀y∈p,y.block<W.heap.size)(h:qab enc Tryz.prog W 0 (fun _=>true) true fuel 40 cs=some (d,p)):∃x:Z9.ZC,cs=Z9.ZX x/\Z9.YP x:=by
 have hl:(Tryz.prog.fieldsOf 40).toList.length=7:=by kernel_rfl
 have hm:(Tryz.prog.fieldsOf 40).toList.map (fun f=>(f.type,f.offset))=[(5,0),(5,1),(3,2),(3,3),(38,4),(3,12),(3,13)]:=by kernel_rfl
 obtain⟨f0,f1,f2,f3,f4,f5,f6,e⟩:=TZ hl
 have e':Tryz.prog.fieldsOf 40= #[f0,f1,f2,f3,f4,f5,f6]:=by rw[<-Array.toList_inj];exact e
 rw[e]at hm
 simp only[List.map_cons,List.map_nil,List.cons.injEq,Prod.mk.injEq,and_true]at hm
 obtain⟨⟨t0,o0⟩,⟨t1,o1⟩,⟨t2,o2⟩,⟨t3,o3⟩,⟨t4,o4⟩,⟨t5,o5⟩,t6,o6⟩:=hm
 have hs:Tryz.prog.underlying 40=some (.struct #[f0,f1,f2,f3,f4,f5,f6]):=by rw[Z9.JG,e']
 have cells5:=TY.1
 have cells3:=TY.2.1
 have jV:=TY.2.2.2.2.2.2
 obtain⟨c0,c1,c2,c3,c4,c5,c6,c7,c8,c9,c10,c11,c12,c13,rfl⟩:=LZ hcl
 obtain⟨xs,n,_,_,_,hlen,hfs⟩:=DataW.trod_struct hs h
 obtain⟨y0,y1,y2,y3,y4,y5,y6,rfl⟩:=TZ (show xs.length=7 by simpa using hlen)
 have h0:=hfs 0 f0 rfl
 have h1:=hfs 1 f1 rfl
 have h2:=hfs 2 f2 rfl
 have h3:=hfs 3 f3 rfl
 have h4:=hfs 4 f4 rfl
 have h5:=hfs 5 f5 rfl
 have h6:=hfs 6 f6 rfl
 rw[t0,o0,cells5]at h0
 rw[t1,o1,cells5]at h1
 rw[t2,o2,cells3]at h2
 rw[t3,o3,cells3]at h3
 rw[t4,o4,jV]at h4
 rw[t5,o5,cells3]at h5
 rw[t6,o6,cells3]at h6
 have h0:qab enc Tryz.prog W 0 (fun _=>true) true n 5 [c0]=some y0:=h0
 have h1:qab enc Tryz.prog W 0 (fun _=>true) true n 5 [c1]=some y1:=h1
 have h2:qab enc Tryz.prog W 0 (fun _=>true) true n 3 [c2]=some y2:=h2
 have h3:qab enc Tryz.prog W 0 (fun _=>true) true n 3 [c3]=some y3:=h3
 have h4:qab enc Tryz.prog W 0 (fun _=>true) true n 38 [c4,c5,c6,c7,c8,c9,c10,c11]=some y4:=h4
 have h5:qab enc Tryz.prog W 0 (fun _=>true) true n 3 [c12]=some y5:=h5
 have h6:qab enc Tryz.prog W 0 (fun _=>true) true n 3 [c13]=some y6:=h6
 obtain⟨zs,m,_,_,_,hzl,hz⟩:=DataW.trod_array Tryz.underlying38 h4
 obtain⟨z0,z1,z2,z3,z4,z5,z6,z7,rfl⟩:=Cr hzl
 rw[cells3]at hz
 have g0:qab enc Tryz.prog W 0 (fun _=>true) true m 3 [c4]=some z0:=hz 0 (by omega)
 have g1:qab enc Tryz.prog W 0 (fun _=>true) true m 3 [c5]=some z1:=hz 1 (by omega)
 have g2:qab enc Tryz.prog W 0 (fun _=>true) true m 3 [c6]=some z2:=hz 2 (by omega)
 have g3:qab enc Tryz.prog W 0 (fun _=>true) true m 3 [c7]=some z3:=hz 3 (by omega)
 have g4:qab enc Tryz.prog W 0 (fun _=>true) true m 3 [c8]=some z4:=hz 4 (by omega)
 have g5:qab enc Tryz.prog W 0 (fun _=>true) true m 3 [c9]=some z5:=hz 5 (by omega)
 have g6:qab enc Tryz.prog W 0 (fun _=>true) true m 3 [c10]=some z6:=hz 6 (by omega)
 have g7:qab enc Tryz.prog W 0 (fun _=>true) true m 3 [c11]=some z7:=hz 7 (by omega)
 obtain⟨k,hk,_,wk⟩:=qaa Tryz.underlying5 h0
 obtain⟨r,hr,_,wr⟩:=qaa Tryz.underlying5 h1
 obtain⟨s2,hs2,_,_⟩:=qaa Tryz.underlying3 h2
 obtain⟨s3,hs3,_,_⟩:=qaa Tryz.underlying3 h3
 obtain⟨p0,hp0,_,_⟩:=qaa Tryz.underlying3 g0
 obtain⟨p1,hp1,_,_⟩:=qaa Tryz.underlying3 g1
 obtain⟨p2,hp2,_,_⟩:=qaa Tryz.underlying3 g2
 obtain⟨p3,hp3,_,_⟩:=qaa Tryz.underlying3 g3
 obtain⟨p4,hp4,_,_⟩:=qaa Tryz.underlying3 g4
 obtain⟨p5,hp5,_,_⟩:=qaa Tryz.underlying3 g5
 obtain⟨p6,hp6,_,_⟩:=qaa Tryz.underlying3 g6
 obtain⟨p7,hp7,_,_⟩:=qaa Tryz.underlying3 g7
 obtain⟨p8,hp8,_,_⟩:=qaa Tryz.underlying3 h5
 obtain⟨p9,hp9,_,_⟩:=qaa Tryz.underlying3 h6
 obtain⟨k',rfl,bk⟩:=Mx wk
 obtain⟨r',rfl,br⟩:=Mx wr
 simp only[List.cons.injEq,and_true]at hk hr hs2 hs3 hp0 hp1 hp2 hp3 hp4 hp5 hp6 hp7 hp8 hp9
 exact⟨⟨k',r',s2,s3,[p0,p1,p2,p3,p4,p5,p6,p7,p8,p9]⟩,by rw[hk,hr,hs2,hs3,hp0,hp1,hp2,hp3,hp4,hp5,hp6,hp7,hp8,hp9];rfl,rfl,bk,br⟩
end
end
end Go.Proofs.YtmehhgfbnfbnaaaGreat.Meta
