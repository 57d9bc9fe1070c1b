import Derived.Test.YtmehhgfbnfbnaaaGreatQMetaN
import Derived.Test.YtmehhgfbnfbnaaaGreatQTk
set_option maxRecDepth 100000
set_option maxHeartbeats 25600000
open List renaming replicate->qaa
open Int renaming eq_ofNat_of_zero_le->qab
namespace Go.Proofs.YtmehhgfbnfbnaaaGreat.Meta
open Go.Proofs.YtmehhgfbnfbnaaaGreat
open Go.RowKit
section
variable {G:Geo}
theorem kX(j p:Int)(gn Y6:Nat)(hv:ZG.Valid j (Y6:Int) (gn:Int) p)(w:World):
  Calls Tryz.prog 67 #[.agg #[j,Y6,gn,p]] w fun e w'=>V3 w (⟨qaa 16 .z,qaa gn 0,qaa 64 0,qaa Y6 .z⟩,0) e w':=by
 have S9:gn<=64:=by have:=hv.g2;omega
 have MW:Y6<=64:=by have:=hv.i2;omega
 have h1:=Z8.Qa
 have h2:=Z9.PV gn (by omega)
 have h3:∀u:World,(Instr.makeSlice 37 (.int .i64 64) (.int .i64 64)).run Tryz.prog u=.ok (.slice u.heap.size 64 64) (u.alloc (.cells (Z6 (qaa 64 0)).toArray 5)):=YD 64 (by omega)
 have h4:=zF Y6 (by omega)
 have hg0:(0:Int)<=(gn:Int):=by omega
 have hi0:(0:Int)<=(Y6:Int):=by omega
 have HV:Hid (∀u:World,Calls Tryz.prog 131 #[.agg #[j,Y6,gn,p]] u fun e w'=>e=.returned (.bool true)/\ZG.Boxed u j Y6 gn p w'):=χ (fun u=>ZG.Eo hv u)
 clear hv
 go_enter Tryz.func67,Tryz.ntmps67
 go_wp2_with (go_at_call 131;(with_reducible refine(HV.out _).mono ?_);rintro e w1 ⟨he,n,hw⟩;obtain rfl:=he;subst hw)
 generalize hB0:Z8.ZV Z8.frees=x0 at*
 generalize hB1:Z9.ZM (qaa gn 0)=x1 at*
 generalize hB2:Z6 (qaa 64 0)=x2 at*
 generalize hB3:Y3 (qaa Y6 .z)=x3 at*
 go_region
 all_goals go_wp2
 all_goals(apply nA MW S9 hB0 hB1 hB2 hB3 rfl)
 all_goals first
  |(simp[results,Tryz.results67,go_sem];exact⟨rfl,rfl,rfl,rfl⟩)
  |(with_reducible refine Y2 ?_ _;(repeat(first|(with_reducible refine SN _ ?_;simp;done)|with_reducible refine Y2 ?_ _));done)
  |(with_reducible refine SN _ ?_;simp;done)
  |omega
  |((repeat(first|with_reducible exact Below.refl _ _|with_reducible refine below_drewN ?_ _|with_reducible refine Below.drew ?_|with_reducible refine Below.setCell ?_ ?_ _|with_reducible refine Below.alloc ?_ ?_ _));all_goals(simp<;>omega);done)
noncomputable def qD(G:Geo):Met × Nat:=if Z9.Sj G.Ok then(XC G,0)else(.z,1)
theorem FL(h:G.Ok):qD G=(XC G,0):=by unfold qD;rw[Z9.VD h];rfl
theorem kW(h:¬ G.Ok):qD G=(.z,1):=by unfold qD;rw[Z9.WO h];rfl
theorem qC(G:Geo)(w:World):Calls Tryz.prog 67 #[.agg #[G.j,G.i,G.g,G.p]] w fun e w'=>V3 w (qD G) e w':=by
 by_cases hv:G.Ok
 ·rw[FL hv]
  have h1:=hv.i1
  have h2:=hv.g1
  obtain⟨j,i,g,p⟩:=G
  obtain⟨Y6,hi⟩:=qab (show 0<=i by simp only at h1;omega)
  obtain⟨gn,hg⟩:=qab (show 0<=g by simp only at h2;omega)
  subst hi hg
  exact kX j p gn Y6 hv w
 ·rw[kW hv]
  exact nz hv w
end
end Go.Proofs.YtmehhgfbnfbnaaaGreat.Meta
