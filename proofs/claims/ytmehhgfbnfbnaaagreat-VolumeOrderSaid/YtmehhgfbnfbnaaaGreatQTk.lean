import Derived.Deep.RegionHeld3
import Derived.Lib.Hide

namespace Go.Proofs.YtmehhgfbnfbnaaaGreat
open Go
instance:Coe Int Value:=⟨.int .i64⟩
instance:Coe Nat Value:=⟨fun n=>.int .i64 (n:Int)⟩
instance:Coe Nat (Option Addr):=⟨fun n=>some ⟨n,0,none⟩⟩
instance:Coe Unit Value:=⟨fun _=>.int .i64 0⟩
instance:Coe String Value:=⟨fun _=>.int .u8 0⟩
instance:Coe Bool Value:=⟨.bool⟩
theorem χ{p:Prop}(h:p):RowKit.Hid p:=Lib.hid h
section
variable {P:Program}{md:Region.Mode}{ops:Array Oper}{Q:Exit->Act->World->Prop}{S:World->Prop}
section
variable {fuel:Nat}{listed:Array Bool}{a:Act}{w:World}
theorem tk(i:Nat)(v:Value){oi:Oper}(hi:ops[i]? =some oi:=by simp only[List.getElem?_toArray,List.getElem?_cons_succ,List.getElem?_cons_zero];rfl)(hs:Region.noSelect ops=true:=by kernel_rfl)(hf:Region.free md ops listed i=true:=by kernel_rfl)(hr:(Region.ready md ops listed).contains i=true:=by kernel_rfl)(hQ:∀c a w,Q (.panic c) (a.put oi.dst v) w->Q (.panic c) a w:=by exact fun _ _ _ h=>h)(y:YieldsIf P ops S oi v a)(s:S w)(h:wpAnyH P md ops Q S fuel (listed.setIfInBounds i true) (a.put oi.dst v) w):wpAnyH P md ops Q S (fuel+1) listed a w:=
  wpAnyH_take hi hs hf hr hQ y s h
theorem rd(i:Nat){o:Oper}(hr:Region.ready md ops listed=[i]:=by kernel_rfl)(ho:ops[i]? =some o:=by simp only[List.getElem?_toArray,List.getElem?_cons_succ,List.getElem?_cons_zero];rfl)(h:∀K':Act->World->Prop,Shut (∀a w,S w->(S w->wpAnyH P md ops Q S fuel (listed.setIfInBounds i true) a w)->K' a w)->if Region.wanted o (yielded ops a.tmps)=true then Oper.wp P o a w K' Q else K' (a.put o.dst undef) w):wpAnyH P md ops Q S (fuel+1) listed a w:=
  wpAnyH_ready hr (by simp) (.cons ho h .nil)
end
end
end Go.Proofs.YtmehhgfbnfbnaaaGreat
