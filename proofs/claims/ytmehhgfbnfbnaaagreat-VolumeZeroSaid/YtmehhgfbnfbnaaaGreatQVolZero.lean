/-
 A block that is taken is bytes 0, whatever was done before: for every list of acts and every label.
 No condition is set.
-/
import Derived.Test.YtmehhgfbnfbnaaaGreatQVolQ
import Derived.Test.YtmehhgfbnfbnaaaGreatQTk
set_option maxRecDepth 100000
set_option maxHeartbeats 25600000
namespace Go.Proofs.YtmehhgfbnfbnaaaGreat
open Go.RowKit Go.ChangeShapes Go.WideShapes Go.ChangeAt Go.Deep Go.Joins Meta
theorem Y7.lH (l:List VA)(A0:Option Addr)(n c:Nat)(a:Int)(W:World)(hn:l.length=n)(hc:n<=c)(hr:Rd W W.heap.size A0 (SS l))(ho:∀x∈l,Eo W x)(ha:0<=a/\a<=65535):
  Calls Tryz.prog 7 #[.slice A0 n c,.int .u16 a] W fun e w'=>e=.returned (.bool true)/\Below W.heap.size W w':=by
 have h:=Y7.lG l A0 n c a.toNat W hn hc hr ho (by omega)
 rwa[Int.toNat_of_nonneg ha.1]at h
theorem OB(H:Type)(enc:TypeId × Value->H)(W:World)(base:Nat)(args:Array Value)(ds gs:List (DataW H))(before:List MemPlace)
  (hval:∀(j:Nat) t v,Tryz.f7.params[j]? =some t->args[j]? =some v->Value.okWide Tryz.prog W .any base t v)
  (hW:DataW.Whole enc Tryz.prog Tryz.f7.params.toList Rows.volumeZeroSpec.vars false W args.toList ds gs before):
  Calls Tryz.prog 7 args W fun e W'=>∃v,e=.returned v/\Rows.volumeZeroSpec.post enc Tryz.prog Tryz.f7 false true false false W args v W':=by
 have hW':=hW
 have hlt:∀x∈before,x.block<W.heap.size:=fun x hx=>hW.lt x hx
 obtain⟨p,q,WL,hV,rfl,_,_⟩:=hW
 have hA:DataW.TrodAll enc Tryz.prog W 0 (fun _=>true) true Tryz.f7.params.toList args.toList ds p:=WL
 rw[Tryz.params7]at hA hval
 obtain⟨v0,vs0,d0,ds0,p0,q0,hargs,rfl,rfl,h0,r0⟩:=trodAll_cons hA
 obtain⟨v1,vs1,d1,ds1,p1,q1,rfl,rfl,rfl,h1,r1⟩:=trodAll_cons r0
 obtain⟨rfl,rfl,rfl⟩:=trodAll_nil r1
 obtain rfl:args= #[v0,v1]:=by cases args;simp_all
 obtain⟨rfl,rfl⟩:=trodVars_none hV
 clear WL
 obtain⟨A0,n0,c0,l0,rfl,hn0,hc0,hm0,hr0,ho0⟩:=Y7.En (hval 0 22 v0 rfl rfl) h0 (fun x hx=>hlt x (by simp[hx]))
 obtain⟨a1,rfl,rfl,rfl,wa1⟩:=open_int Tryz.underlying36 (hval 1 36 v1 rfl rfl) h1
 have bd1:=bounds_u16 wa1
 refine(Y7.lH l0 A0 n0 c0 a1 W hn0 hc0 hr0 ho0 bd1).mono fun e W' ⟨he,hb⟩=>?_
 subst he
 exact⟨_,rfl,Bo laid (by kernel_rfl) Tryz.underlying4 (by rw[Tryz.params7];decide+kernel) rfl hW' ⟨rfl,rfl,rfl⟩ hb⟩
theorem K6(os:Os)(started:os.Started)(H:Type)(enc:TypeId × Value->H):
  ReturnsInHanded {} Tryz.checked os 7 .any (Rows.volumeZeroSpec.pre6 enc Tryz.prog Tryz.f7 Rows.volumeZeroRow.domain false) (Rows.volumeZeroSpec.post enc Tryz.prog Tryz.f7 false true false false):=by
 refine returnsInHanded_of_change (C:=Tryz.checked) own started (by kernel_rfl) Tryz.func7
  (ChangeSpec.witness6 (enc:=enc) (C:=Tryz.checked) false ⟨#[],#[.slice none 0 0,.int .u16 0],[]⟩ 8 (by kernel_rfl) (by kernel_rfl) (by kernel_rfl) (by kernel_rfl)) ?_
 intro W base args ds gs before hval hW _ _
 exact OB H enc W base args ds gs before hval hW
theorem zero_holds:Rows.VolumeZeroSaid:=
 OpenClaim.holds_of_wide 7 Tryz.f7 rfl rfl rfl rfl rfl rfl rfl ⟨rfl,rfl,rfl,rfl,rfl⟩ rfl rfl rfl rfl rfl (by kernel_rfl) Tryz.func7 (by kernel_rfl)
  (of_decide_eq_true (by kernel_rfl)) (by unfold Func.isWrapper;first|(rw[if_pos (by decide+kernel)];kernel_rfl)|(rw[if_neg (by decide+kernel)];exact⟨rfl,rfl⟩))
  (fun os started H enc _=>K6 os started H enc)
end Go.Proofs.YtmehhgfbnfbnaaaGreat
