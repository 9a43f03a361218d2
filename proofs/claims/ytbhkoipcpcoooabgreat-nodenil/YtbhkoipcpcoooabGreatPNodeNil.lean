/-
  A switch that isn't there does nothing. For every act.
-/
import Derived.Test.YtbhkoipcpcoooabGreatJ1
import Derived.SizedLaws
import Derived.Test.YtbhkoipcpcoooabGreatJ25
import Derived.Test.YtbhkoipcpcoooabGreatJ23
import Derived.Test.YtbhkoipcpcoooabGreatJ22
namespace Go.Proofs.YtbhkoipcpcoooabGreat
set_option maxRecDepth 20000
set_option maxHeartbeats 64000000
open Go
open Go.Proofs.Tryz renaming prog → aA, f3 → aB, checked → aC
section
open Go.ChangeAt Go.ChangeShapes Go.RowKit Go.WideElems Go.WideMaps Go.WideShapes
set_option maxRecDepth 100000 in
theorem nodeNil_lifted(os:Os)(started:os.Started)(H:Type)(enc:TypeId×Value→H):
  ReturnsInHanded {} aC os 3 .any (Rows.nodeNilSpec.pre6 enc aA aB Rows.nodeNilRow.domain false) (Rows.nodeNilSpec.post enc aA aB false true false false):=by
 refine returnsInHanded_of_change_sized (C:=aC) Agf started (by kernel_rfl) Tryz.func3
  (ChangeSpec.witness6 (enc:=enc) (C:=aC) false ⟨#[],#[.agg (Dd Yf)],[]⟩ 8 (by kernel_rfl) (by kernel_rfl) (by kernel_rfl) (by kernel_rfl)) ?_
 intro W base args ds gs before hval0 hW _ hsz0 _;have hval:∀(j:Nat) t v,aB.params[j]?=some t→args[j]?=some v→Value.okWide aA W .any base t v:=hval0;have hsz:(DataW.weightsEach aA (aB.params.toList++Rows.nodeNilSpec.plain.varTypes aA) (ds++gs)).all (· ≤reachBytes)=true:=hsz0;have hW':=hW;obtain⟨p,q,hA0,hV,rfl,hfz,hnd⟩:=hW;have hA:DataW.TrodAll enc aA W 0 (fun _=>true) true aB.params.toList args.toList ds p:=hA0;rw[Tryz.params3] at hA hval hsz;obtain⟨v0,vs0,d0,ds0,p0,q0,hargs,rfl,rfl,h0,r0⟩:=trodAll_cons hA;obtain⟨rfl,rfl,rfl⟩:=trodAll_nil r0;obtain rfl:args=#[v0]:=by cases args;simp_all
 obtain⟨rfl,rfl⟩:=trodVars_none hV;have k0:=h0;have lt0:∀x∈p0,x.block<W.heap.size:=by obtain⟨m,hm⟩:=k0;exact DataW.trod_lt m _ _ _ hm
 have hw0:∀m∈d0.weights aA 29,m≤reachBytes:=fun m hm=>of_decide_eq_true (List.all_eq_true.1 hsz _ (DataW.weights_mem_each (j:=0) rfl rfl m hm));obtain⟨x0,rfl⟩:=WR (hval 0 29 v0 rfl rfl) h0 hw0;clear hA0 hval0 hsz0 hsz;refine(Sg W x0).mono fun e W' ⟨he,bel⟩=> ?_;subst he;exact⟨_,rfl,_,_,_,[],_,[],hW',trodAll_mk1 (shut_bool Tryz.underlying4 _),(trodAll_cons_mk (Below.trod Ag1 (by kernel_rfl) (of_decide_eq_true (by kernel_rfl)) k0 bel lt0) (trodAll_mk0)),rfl,bel.frame _,fun h=>by cases h⟩
theorem nodeNil_holds:Rows.NodeNilSaid:=
 OpenClaim.holds_of_wide 3 aB rfl rfl rfl rfl rfl rfl rfl ⟨rfl,rfl,rfl,rfl,rfl⟩ rfl rfl rfl rfl rfl (by kernel_rfl) Tryz.func3 (by kernel_rfl)
  (of_decide_eq_true (by kernel_rfl)) (by unfold Func.isWrapper;first|(rw[if_pos (by decide+kernel)];kernel_rfl)|(rw[if_neg (by decide+kernel)];exact⟨rfl,rfl⟩))
  (fun os started H enc _=>nodeNil_lifted os started H enc)
end
end Go.Proofs.YtbhkoipcpcoooabGreat
