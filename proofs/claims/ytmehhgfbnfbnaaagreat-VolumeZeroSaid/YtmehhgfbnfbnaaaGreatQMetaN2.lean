import Derived.Test.YtmehhgfbnfbnaaaGreatQMetaN
import Derived.Test.YtmehhgfbnfbnaaaGreatQTk
set_option maxRecDepth 100000
set_option maxHeartbeats 25600000
open List renaming replicate->qaa
open Int renaming eq_ofNat_of_zero_le->qab
namespace Go.Proofs.YtmehhgfbnfbnaaaGreat.Meta
open Go.Proofs.YtmehhgfbnfbnaaaGreat
open Go.RowKit
section
variable {G:Geo}
theorem tQ(j p:Int)(gn Ze:Nat)(hv:ZF.Valid j (Ze:Int) (gn:Int) p)(w:World):
  Calls Tryz.prog 67 #[.agg #[j,Ze,gn,p]] w fun e w'=>WH w (⟨qaa 16 .z,qaa gn 0,qaa 64 0,qaa Ze .z⟩,0) e w':=by
 have UC:gn<=64:=by have:=hv.g2;omega
 have OO:Ze<=64:=by have:=hv.i2;omega
 have h1:=Z8.Rt
 have h2:=Z9.Rp gn (by omega)
 have h3:∀u:World,(Instr.makeSlice 37 (.int .i64 64) (.int .i64 64)).run Tryz.prog u=.ok (.slice u.heap.size 64 64) (u.alloc (.cells (Z7 (qaa 64 0)).toArray 5)):=YG 64 (by omega)
 have h4:=Dq Ze (by omega)
 have hg0:(0:Int)<=(gn:Int):=by omega
 have hi0:(0:Int)<=(Ze:Int):=by omega
 have HV:Hid (∀u:World,Calls Tryz.prog 131 #[.agg #[j,Ze,gn,p]] u fun e w'=>e=.returned (.bool true)/\ZF.Boxed u j Ze gn p w'):=χ (fun u=>ZF.GZ hv u)
 clear hv
 go_enter Tryz.func67,Tryz.ntmps67
 go_wp2_with (go_at_call 131;(with_reducible refine(HV.out _).mono ?_);rintro e w1 ⟨he,n,hw⟩;obtain rfl:=he;subst hw)
 generalize hB0:Z8.ZV Z8.frees=x0 at*
 generalize hB1:Z9.ZM (qaa gn 0)=x1 at*
 generalize hB2:Z7 (qaa 64 0)=x2 at*
 generalize hB3:YZ (qaa Ze .z)=x3 at*
 go_region
 all_goals go_wp2
 all_goals(apply vk OO UC hB0 hB1 hB2 hB3 rfl)
 all_goals first
  |(simp[results,Tryz.results67,go_sem];exact⟨rfl,rfl,rfl,rfl⟩)
  |(with_reducible refine Wj ?_ _;(repeat(first|(with_reducible refine Fb _ ?_;simp;done)|with_reducible refine Wj ?_ _));done)
  |(with_reducible refine Fb _ ?_;simp;done)
  |omega
  |((repeat(first|with_reducible exact Below.refl _ _|with_reducible refine below_drewN ?_ _|with_reducible refine Below.drew ?_|with_reducible refine Below.setCell ?_ ?_ _|with_reducible refine Below.alloc ?_ ?_ _));all_goals(simp<;>omega);done)
noncomputable def xy(G:Geo):Met × Nat:=if Z9.TF G.Ok then(XE G,0)else(.z,1)
theorem Ji(h:G.Ok):xy G=(XE G,0):=by unfold xy;rw[Z9.Wh h];rfl
theorem tO(h:¬ G.Ok):xy G=(.z,1):=by unfold xy;rw[Z9.Xm h];rfl
theorem xx(G:Geo)(w:World):Calls Tryz.prog 67 #[.agg #[G.j,G.i,G.g,G.p]] w fun e w'=>WH w (xy G) e w':=by
 by_cases hv:G.Ok
 ·rw[Ji hv]
  have h1:=hv.i1
  have h2:=hv.g1
  obtain⟨j,i,g,p⟩:=G
  obtain⟨Ze,hi⟩:=qab (show 0<=i by simp only at h1;omega)
  obtain⟨gn,hg⟩:=qab (show 0<=g by simp only at h2;omega)
  subst hi hg
  exact tQ j p gn Ze hv w
 ·rw[tO hv]
  exact ve hv w
end
end Go.Proofs.YtmehhgfbnfbnaaaGreat.Meta
