import Derived.Test.YtmehhgfbnfbnaaaGreatQMetaX7
import Derived.Test.YtmehhgfbnfbnaaaGreatQMetaA
import Derived.Test.YtmehhgfbnfbnaaaGreatQInodeX9
import Derived.Test.YtmehhgfbnfbnaaaGreatQTk
import Derived.Deep.AppendLies
set_option maxRecDepth 100000
set_option maxHeartbeats 25600000
open Go renaming World->qaa
namespace Go.Proofs.YtmehhgfbnfbnaaaGreat.Meta
open Go.Proofs.YtmehhgfbnfbnaaaGreat
open Go.RowKit Go.Shelf
attribute [local go_sem] Oper.semAt_some
section
variable {lo n D k:Nat}{ds:List Nat}{W W':qaa}{F:Fence}{l:List (List UInt8)}{s:List UInt8}
theorem KR(vs:List Value):∀(n o:Nat)(arr:Array Value)(k:Nat),((vs.zipIdx n).foldl (fun cs x=>cs.setIfInBounds (o+x.2) x.1) arr)[k]? =if o+n<=k/\k<o+n+vs.length/\k<arr.size then vs[k-(o+n)]? else arr[k]? :=by
 induction vs with
 |nil=>intro n o arr k;simp;omega
 |cons v r ih=>
  intro n o arr k
  rw[List.zipIdx_cons,List.foldl_cons,ih (n+1) o _ k]
  simp only[Array.size_setIfInBounds,List.length_cons,Array.getElem?_setIfInBounds]
  by_cases h1:k=o+n
  ·subst h1
   rw[if_neg (by omega)]
   by_cases h2:o+n<arr.size
   ·simp[h2]
   ·simp[h2]
  ·by_cases h2:o+n<=k/\k<o+n+(r.length+1)/\k<arr.size
   ·rw[if_pos (by omega),if_pos h2]
    have e:k-(o+n)=(k-(o+(n+1)))+1:=by omega
    rw[e,List.getElem?_cons_succ]
   ·rw[if_neg (by omega),if_neg h2,if_neg (by omega)]
theorem xI(W:qaa):(zeroValue 40).run Tryz.prog W=.ok (.agg (Z9.ZX .z).toArray) W:=by
 obtain⟨i0,hi,hz0,_,_⟩:=info_parts Q4
 simp[zeroValue,typeInfo,hi,hz0]
theorem CZ(W:qaa)(v:List Value)(hl:v.length=14):(Instr.buildSlice 58 1 #[(0,.agg v.toArray)]).run Tryz.prog W=.ok (.slice W.heap.size 1 1) (W.alloc (.cells v.toArray 40)):=by
 obtain⟨Z,hZ⟩:∃Z:Array Value,Z=(Array.range 14).map ((Value.agg (Z9.ZX .z).toArray).cells[· %(Value.agg (Z9.ZX .z).toArray).cells.size]!):=⟨_,rfl⟩
 have hZs:Z.size=14:=by rw[hZ];simp
 have hz:∀W:qaa,(zeroValue 40).run Tryz.prog W=.ok (.agg (Z9.ZX .z).toArray) W:=xI
 have FY:v.zipIdx.foldl (fun cs x=>cs.setIfInBounds (0+x.2) x.1) Z=v.toArray:=by
  apply Array.ext_getElem?
  intro k
  rw[KR,hZs]
  simp only[hl,List.getElem?_toArray]
  rcases Nat.lt_or_ge k 14 with hk|hk
  ·rw[if_pos (by omega)]
   congr 1
  ·rw[if_neg (by omega),Array.getElem?_eq_none (by omega),List.getElem?_eq_none (by omega)]
 have c1:(Value.agg v.toArray).cells=v.toArray:=rfl
 unfold Instr.buildSlice
 simp only[Sem.run_bind,Tryz.runUnderlying58,Result.andThen_ok,Tryz.sizeOf40]
 simp only[Nat.zero_add]at FY
 simp[Instr.fill,hz]
 rw[<-hZ]
 simp[c1,hl,FY]
 simp[newRow]
theorem OO{ops:Array Oper}{rest:List Oper}{op:Oper}{a:Act}{w:qaa}{Q:Exit->Act->qaa->Prop}(hgd:op.guard=none)(x:Operand)(ho:op.op=.buildSlice 58 1 #[(0,x)])(v:List Value)(hx:a.eval x=.agg v.toArray)(hl:v.length=14)(h:wpListIn F n Tryz.prog ops Q rest (a.put op.dst (.slice w.heap.size 1 1)) (w.alloc (.cells v.toArray 40))):wpListIn F n Tryz.prog ops Q (op::rest) a w:=by
 refine wpListIn_plain hgd fun K hK=>?_
 unfold Oper.wpIn
 refine⟨?_,?_⟩
 ·simp[Oper.about,ho]
 ·rw[Oper.semAt_plain F _ _ (by rw[ho];intro c hc';cases hc')]
  unfold execOp
  simp only[ho,List.map_toArray,List.map_cons,List.map_nil,hx,Sem.run_bind,CZ w v hl,Result.andThen_ok]
  exact hK _ _ h
theorem qy(w:qaa)(ty:TypeId)(base:Nat)(v:Value)(l:List Z9.ZC)(n:Nat)(hn:l.length=n)(hown:w.ownsRow base 40 14 v n (Y3 l))(x:Z9.ZC)(hx:Z9.YP x)(g:Nat)(hg:Bk w g 40 (Z9.ZX x))(h63:n<=100000)(hbase:base<=w.heap.size):
  ∃g2 cap w',(Builtin.append_ #[58,58] ty #[v,.slice g 1 1]).run Tryz.prog w=.ok (.slice (some ⟨g2,0,none⟩) (n+1) cap) w'/\w'.ownsRow base 40 14 (.slice (some ⟨g2,0,none⟩) (n+1) cap) (n+1) (Y3 (l++[x]))/\w.grownBy w' v.ownBlock:=by
 obtain⟨i0,hi,hz0,hz1,hz2⟩:=info_parts Q4
 obtain⟨g2,cap,w',hrun,hown,hgr,-,-⟩:=run_append_lies (P:=Tryz.prog) (w:=w) 58 ty base 40 i0 _ 14 104 Tryz.underlying58 hi hz0 hz1 hz2 rfl (by decide) v n (Y3 l) hown ⟨g,0,none⟩ 1 1 (Z9.ZX x) (by rw[Z9.Y5 hx]) (fun j u hu=>by
  rw[Addr.add_lit,Nat.zero_add]
  exact(hg.cell j).trans hu) (Yj x) (by decide) (by unfold maxLen;omega) (by omega) hbase w.heap.size rfl
 refine⟨g2,cap,w',hrun,?_,hgr⟩
 rw[J9]
 have:Y3 [x]=Z9.ZX x:=by simp[Y3]
 rw[this]
 exact hown
def mark(D:Nat):Deferred:={target:=.collected D,args:=#[]}
theorem MU{fn:Func}{tmps:Array Value}{R:Ending->qaa->Prop}{base:Nat}(Φ:qaa->Prop)(hΦ:∀W D,Φ W->base<=D->W.heap[D]? =some (.deferred (some []))->Φ (W.putObj D (.deferred none)))(hend:∀W,Φ W->∃v,(results fn tmps).run Tryz.prog W=.ok v W/\R (.returned v) W):
  ∀(ds:List Nat)(W:qaa),ds.Nodup->(∀D∈ds,base<=D/\W.heap[D]? =some (.deferred (some [])))->Φ W->LeavesInM F n Tryz.prog fn tmps R (ds.map mark) .returning W
 |[],W,_,_,h=>hend W h
 |D::ds,W,hnd,hD,h=>by
  obtain⟨h1,h2⟩:=hD D (by simp)
  obtain⟨h3,h4⟩:=List.nodup_cons.1 hnd
  refine⟨by simp,.inl ⟨D,_,rfl,run_takeDeferred h2,?_⟩⟩
  refine MU Φ hΦ hend ds _ h4 (fun E hE=>?_) (hΦ W D h h1 h2)
  obtain⟨h5,h6⟩:=hD E (by simp[hE])
  exact⟨h5,(qaa.putObj_heap_other (by rintro rfl;exact h3 hE)).trans h6⟩
def O3(n₀ Bs:Nat)(l:List Z9.ZC)(W:qaa):Prop:=∃v,Boxed W Bs 58 v/\W.ownsRow n₀ 40 14 v l.length (Y3 l)
theorem O3.nc {n₀ Bs:Nat}{l:List Z9.ZC}{X Y:qaa}{row:Option Nat}(h:O3 n₀ Bs l X)(hg:X.grownBy Y row)(hrow:∀r,row=some r->∃o:Obj,X.heap[r]? =some o/\o.isCells=false):O3 n₀ Bs l Y:=by
 obtain⟨v,hb,hs⟩:=h
 refine⟨v,hb.kept hg (fun e'=>?_),PL hs hg hrow⟩
 obtain⟨o,ho,hc⟩:=hrow Bs e'.symm
 rw[show X.heap[Bs]? =_ from hb]at ho;cases ho;cases hc
theorem xK{β:Type}(n₀ Bs:Nat)(f:β->List Z9.ZC):Own (fun s W=>O3 n₀ Bs (f s) W):=fun _ _ _ _ h hg hrow=>h.nc hg hrow
def Marks(lo:Nat)(ds:List Nat)(W:qaa):Prop:=ds.Nodup/\∀D∈ds,lo<=D/\W.heap[D]? =some (.deferred (some []))
theorem Marks.lt (h:Marks lo ds W)(hD:D∈ds):D<W.heap.size:=(Array.getElem?_eq_some_iff.1 (h.2 D hD).2).1
theorem Marks.below (h:Marks lo ds W)(hb:Below W.heap.size W W'):Marks lo ds W':=⟨h.1,fun D hD=>⟨(h.2 D hD).1,(hb.block D (h.lt hD)).trans (h.2 D hD).2⟩⟩
theorem Marks.keeps (h:Marks lo ds W)(hk:KeepsOthers W W'):Marks lo ds W':=⟨h.1,fun D hD=>⟨(h.2 D hD).1,hk.same D _ (h.2 D hD).2 rfl⟩⟩
theorem Marks.cons (h:Marks lo ds W)(hlo:lo<=D)(hD:W.heap[D]? =some (.deferred (some [])))(hn:∀E∈ds,E<D):Marks lo (D::ds) W:=
 ⟨List.nodup_cons.2 ⟨fun hm=>absurd (hn D hm) (Nat.lt_irrefl _),h.1⟩,fun E hE=>by
  rcases List.mem_cons.1 hE with rfl|hE
  ·exact⟨hlo,hD⟩
  ·exact h.2 E hE⟩
def part(s:List UInt8)(x:Nat):List UInt8:=(s.drop (32*x)).take 32
noncomputable def YM(l:List (List UInt8))(k:Nat):List Z9.ZC:=(l.take k).flatMap fun s=>[(Z9.Xk (part s 0)).1,(Z9.Xk (part s 1)).1]
theorem xL(l:List (List UInt8)):YM l 0=[]:=by simp[YM]
theorem PK(h:l[k]? =some s):YM l (k+1)=YM l k++[(Z9.Xk (part s 0)).1,(Z9.Xk (part s 1)).1]:=by
 unfold YM
 rw[List.take_add_one,h,List.flatMap_append]
 simp
theorem O1(h:k<=l.length):(YM l k).length=2*k:=by
 induction k with
 |zero=>simp[YM]
 |succ k ih=>
  obtain⟨s,hs⟩:∃s,l[k]? =some s:=⟨_,List.getElem?_eq_getElem (by omega)⟩
  rw[PK hs,List.length_append,ih (by omega)]
  simp
  omega
theorem xJ:(List.range ((64+31)/32)).map (fun x=>(Z9.Xk (part s x)).1)=[(Z9.Xk (part s 0)).1,(Z9.Xk (part s 1)).1]:=rfl
end
end Go.Proofs.YtmehhgfbnfbnaaaGreat.Meta
