import Derived.Test.YtbhkoipcpcoooabGreatJ11
import Derived.Test.YtbhkoipcpcoooabGreatJ1
import Derived.Test.YtbhkoipcpcoooabGreatJ2
import Derived.Lib.UnsafeStr
import Derived.Laws.AppendOwn
import Derived.Laws.OwnMore
import Derived.Laws.AppendOwnNone
import Derived.Laws.BytesArg
import Derived.Maps.AppendAt
import Derived.Laws.Bits64b
import Derived.Great.BuildSlice
namespace Go.Proofs.YtbhkoipcpcoooabGreat
set_option maxRecDepth 20000
set_option maxHeartbeats 64000000
open Go
open _root_.Option.some renaming inj → aA, injEq → aH
open Go.Proofs.Tryz renaming prog → aB, underlying85 → aI, underlying5 → aZ, underlying9 → bA, ntmps101 → bH, ntmps126 → bI, func101 → bQ, func126 → bS
open _root_.Array renaming getD_eq_getD_getElem? → aC, getElem?_eq_getElem → aD, getElem?_setIfInBounds_self_of_lt → aL, getElem?_eq_none → aP, replicate → bC, any_eq_true' → bK
open Go.Lib renaming byteCells → aG, byteCells_length → bF
open _root_.List renaming getElem?_eq_some_iff → aJ, getElem?_eq_getElem → aM, length_append → aN, replicate → aV, length_take → bB, length_replicate → bE, take_add_one → bT, all_eq_true → bW, take_length → bY, length_cons → bZ
open Go.Instr renaming fieldAt → aK, loadAt → bN
open Go.RowKit.Below renaming refl → aO
open _root_.Nat renaming le_refl → aQ, zero_le → aR, lt_or_ge → bJ, mul_comm → bR
open _root_.Option renaming map_some → aT
open Go.Result renaming andThen_ok → aW
open Go.Value.slice renaming injEq → aX
open Go.Region renaming binds → aY
open _root_.UInt8 renaming ofNat → bD
open Go.Sem renaming run_bind → bO, run_pure → bP
open _root_.Int renaming pow_mul → bU, natCast_ediv → cA
section
open Go.RowKit
theorem Kv{P:Program}{id:Nat}{Q:Exit→Act→World→Prop}{a0:Act}{w0:World}{lo:List Oper}(n m:Nat)(V:Nat→Value→World→Prop)(I:Bool→World→Prop)(D:List Nat)(hm:P.follows .mixedOrders=true)(hmn:m<n)
  (hn:lo.length=n+1) (hD:(lo.filterMap (·.dst))=D) (hnd:D.Nodup) (hsz:∀d∈D,d<a0.tmps.size) (hdag:(lo.zipIdx.all fun x=>x.1.after.all fun e=>decide (e.on<x.2))=true)
  (hlast:(lo[n]?).map (fun o=>(List.range n).all fun j=>o.after.any fun e=>aY .any e&&(e.on==j || ((lo[e.on]?).map fun o'=>o'.after.any fun e'=>e'.on==j&&aY .any e').getD false))=some true)
  (hV:∀j v w w',V j v w→Below w.heap.size w w'→V j v w') (hI:∀b w w',I b w→Below w.heap.size w w'→I b w') (hI0:I false w0.drew)
  (hop:∀i o,lo[i]?=some o→i<n→i≠m→∀b a w,AtM lo.toArray V D I b a0 o a w→wpOp P lo.toArray Q i (fun a' w'=> ∃v,a'=a.put o.dst v∧Below w.heap.size w w'∧∀d,o.dst=some d→V i v w') a w)
  (hmid:∀o,lo[m]?=some o→∀a w,AtM lo.toArray V D I false a0 o a w→wpOp P lo.toArray Q m (fun a' w'=> ∃v,a'=a.put o.dst v∧I true w'∧(∀j u,j≠m→V j u w→V j u w')∧∀d,o.dst=some d→V m v w') a w)
  (hend:∀a w,I true w→a.tmps.size=a0.tmps.size→a.defers=a0.defers→(∀d,d∉D→a.eval (.tmp d)=a0.eval (.tmp d))→(∀j o d,j<n→lo[j]?=some o→o.dst=some d→V j (a.eval (.tmp d)) w)→wpOp P lo.toArray Q n (fun a' w'=>Q .normal a' w') a w):(Code.region id lo.toArray true).wp P Q a0 w0:=by
 refine wp_region_any hm ?_
 have hdag':∀(i:Nat) (o:Oper),lo.toArray[i]?=some o→∀e∈o.after,e.on<i:=fun i o ho e he=>by
  rw[bW] at hdag;have ho':lo[i]?=some o:=by simpa using ho
  obtain⟨hi,rfl⟩:=aJ.1 ho';have:=hdag (lo[i],i) (List.mem_zipIdx_iff_getElem?.2 (aM hi));simp only[Array.all_eq_true_iff_forall_mem] at this;simpa using this e he
 have hnd':=hnd;have hDa:(lo.toArray.toList.filterMap (·.dst))=D:=by simpa using hD
 have inD:∀(i:Nat) (o:Oper) (d:Nat),lo.toArray[i]?=some o→o.dst=some d→d∈D:=fun i o d ho hd=>by
  rw[←hD,List.mem_filterMap];exact⟨o,List.mem_of_getElem? (by simpa using ho),hd⟩
 have key:∀(f:Nat) (listed:Array Bool) (a:Act) (w:World),listed.toList.count false=f→listed.size=n+1→listed.getD n true=false→(∀(j:Nat) (oj:Oper),lo.toArray[j]?=some oj→listed.getD j false=true→∀e∈oj.after,aY .any e=true→listed.getD e.on false=true)→Agp lo.toArray V D I m a0 listed a w→wpAny P .any lo.toArray Q f listed a w:=by
  intro f;induction f with
  | zero=>
   intro listed a w hc hs hln hcl inv;exfalso
   have:false∈listed.toList:=by
    rw[aC,aD (by omega)] at hln;have h3:listed[n]'(by omega)=false:=by simpa using hln
    rw[←h3];exact Array.mem_toList_iff.2 (Array.getElem_mem (by omega))
   have:=List.count_pos_iff.2 this;omega
  | succ f ih=>
   intro listed a w hc hs hln hcl inv;refine⟨fun hr=>absurd hr (UN (by simpa[hn] using hs) hdag' n hln),fun i hi=> ?_⟩;obtain⟨hiu,o,ho,hdeps⟩:=mem_ready.1 hi
   have hil:i<listed.size:=by
    rw[aC] at hiu;rcases bJ i listed.size with h1 | h1
    ·exact h1
    ·rw[aP h1] at hiu;simp at hiu
   have hcnt:=Vx listed i hiu
   have hup:∀k,listed.getD k false=true→(listed.setIfInBounds i true).getD k false=true:=fun k hk=>by
    by_cases hki:i=k
    ·subst hki;rw[aC,aL hil];rfl
    ·rw[Ff hki];exact hk
   have hcl':∀(j:Nat) (oj:Oper),lo.toArray[j]?=some oj→(listed.setIfInBounds i true).getD j false=true→∀e∈oj.after,aY .any e=true→(listed.setIfInBounds i true).getD e.on false=true:=fun j oj hoj hlj e he hb=>by
    by_cases hji:i=j
    ·subst hji;obtain rfl:oj=o:=aA (hoj.symm.trans ho);exact hup _ (hdeps e he hb)
    ·rw[Ff hji] at hlj;exact hup _ (hcl j oj hoj hlj e he hb)
   by_cases hin:i=n
   ·subst hin;have hol:lo[i]?=some o:=by simpa using ho
    have hall:∀j,j<i→listed.getD j false=true:=fun j hj=>by
     rw[hol] at hlast;simp only[aT,aH,bW,List.mem_range] at hlast;have:=hlast j hj;rw[bK] at this;obtain⟨e,he,hb⟩:=this;rw[Bool.and_eq_true,Bool.or_eq_true] at hb;rcases hb.2 with h1 | h1
     ·rw[←beq_iff_eq.1 h1];exact hdeps e he hb.1
     ·cases hoe:lo[e.on]? with
      | none=>rw[hoe] at h1;simp at h1
      | some oe=>
       rw[hoe] at h1;simp only[aT,Option.getD_some] at h1;rw[bK] at h1;obtain⟨e',he',hb'⟩:=h1;rw[Bool.and_eq_true,beq_iff_eq] at hb';rw[←hb'.1];exact hcl e.on oe (by simpa using hoe) (hdeps e he hb.1) e' he' hb'.2
    refine wpOp_mono (fun a' w' hQ=> ?_) (hend a w (by have:=inv.wld;rwa [hall m hmn] at this) inv.size inv.defers inv.other (fun j oj d hj hoj hd=>inv.has j oj d (by simpa using hoj) hd (hall j hj)))
    have h0:(listed.setIfInBounds i true).toList.count false=0:=by
     rw[List.count_eq_zero];intro hmem;obtain⟨j,hj,hje⟩:=List.mem_iff_getElem.1 hmem;rw[Array.getElem_toList] at hje;have hj':j<listed.size:=by simpa using hj
     by_cases hji:i=j
     ·subst hji;rw[Array.getElem_setIfInBounds_self] at hje;simp at hje
     ·rw[Array.getElem_setIfInBounds_ne hj' hji] at hje;have:=hall j (by omega);rw[aC,aD hj'] at this;simp[hje] at this
    obtain rfl:f=0:=by omega
    exact⟨UO h0,hQ⟩
   ·have hlt:i<n:=by omega
    have hol:lo[i]?=some o:=by simpa using ho
    by_cases him:i=m
    ·subst him;have hno:listed.getD i false=false:=Ad8 hiu;refine wpOp_mono (fun a' w' hK=> ?_) (hmid o hol a w ⟨by have:=inv.wld;rwa [hno] at this,inv.size,inv.defers,inv.other,fun e he hb oj d hoj hd=>inv.has e.on oj d hoj hd (hdeps e he hb)⟩);obtain⟨v,rfl,hIw,hst,hv⟩:=hK
     have hset:(listed.setIfInBounds i true).getD i false=true:=by
      rw[aC,aL hil];rfl
     refine ih _ _ _ (by omega) (by simpa using hs) (by rw[Ff hin];exact hln) hcl' ⟨by rw[hset];exact hIw,by rw[K9];exact inv.size,?_,fun d hd=> ?_,fun j oj d hoj hd hlj=> ?_⟩
     ·have:(a.put o.dst v).defers=a.defers:=by cases o.dst <;> rfl
      rw[this];exact inv.defers
     ·cases hdo:o.dst with
      | none=>exact inv.other d hd
      | some k=>
       rw[Ho _ _ _ _ (by rw[inv.size];exact hsz k (inD i o k ho hdo)),if_neg (fun h:d=k=>hd (by rw[h];exact inD i o k ho hdo))];exact inv.other d hd
     ·by_cases hji:j=i
      ·subst hji;obtain rfl:oj=o:=aA (hoj.symm.trans ho);rw[hd,Ho _ _ _ _ (by rw[inv.size];exact hsz d (inD j oj d ho hd)),if_pos rfl];exact hv d hd
      ·rw[Ff (Ne.symm hji)] at hlj;have h1:=hst _ _ hji (inv.has j oj d hoj hd hlj)
       cases hdo:o.dst with
       | none=>exact h1
       | some k=>
        have hkd:¬d=k:=fun h=>hji (QO hDa hnd' hoj ho hd (by rw[h];exact hdo));rw[Ho _ _ _ _ (by rw[inv.size];exact hsz k (inD i o k ho hdo)),if_neg hkd];exact h1
    ·refine wpOp_mono (fun a' w' hK=> ?_) (hop i o hol hlt him (listed.getD m false) a w ⟨inv.wld,inv.size,inv.defers,inv.other,fun e he hb oj d hoj hd=>inv.has e.on oj d hoj hd (hdeps e he hb)⟩);obtain⟨v,rfl,hbw,hv⟩:=hK;refine ih _ _ _ (by omega) (by simpa using hs) (by rw[Ff hin];exact hln) hcl' ⟨by rw[Ff him];exact hI _ _ _ inv.wld hbw,by rw[K9];exact inv.size,?_,fun d hd=> ?_,fun j oj d hoj hd hlj=> ?_⟩
     ·have:(a.put o.dst v).defers=a.defers:=by cases o.dst <;> rfl
      rw[this];exact inv.defers
     ·cases hdo:o.dst with
      | none=>exact inv.other d hd
      | some k=>
       rw[Ho _ _ _ _ (by rw[inv.size];exact hsz k (inD i o k ho hdo)),if_neg (fun h:d=k=>hd (by rw[h];exact inD i o k ho hdo))];exact inv.other d hd
     ·by_cases hji:j=i
      ·subst hji;obtain rfl:oj=o:=aA (hoj.symm.trans ho);rw[hd,Ho _ _ _ _ (by rw[inv.size];exact hsz d (inD j oj d ho hd)),if_pos rfl];exact hv d hd
      ·rw[Ff (Ne.symm hji)] at hlj;have h1:=(fun h=>hV _ _ _ _ h hbw) (inv.has j oj d hoj hd hlj)
       cases hdo:o.dst with
       | none=>exact h1
       | some k=>
        have hkd:¬d=k:=fun h=>hji (QO hDa hnd' hoj ho hd (by rw[h];exact hdo));rw[Ho _ _ _ _ (by rw[inv.size];exact hsz k (inD i o k ho hdo)),if_neg hkd];exact h1
 have hrep:(bC lo.toArray.size false).toList.count false=lo.toArray.size:=by simp
 refine key _ _ _ _ hrep (by simp[hn]) ?_ (fun j oj _ hl=> ?_) ⟨?_,rfl,rfl,fun _ _=>rfl,fun j o d _ _ hl=> ?_⟩
 ·rw[aC,aD (by simp[hn])];simp
 ·exfalso;rw[aC] at hl;rcases bJ j (bC lo.toArray.size false).size with h1 | h1
  ·rw[aD h1] at hl;simp at hl
  ·rw[aP h1] at hl;simp at hl
 ·rw[aC,aD (by simp[hn];omega)];simpa using hI0
 ·exfalso;rw[aC] at hl;rcases bJ j (bC lo.toArray.size false).size with h1 | h1
  ·rw[aD h1] at hl;simp at hl
  ·rw[aP h1] at hl;simp at hl
theorem ES{o:Oper}{x:Operand}(ho:o.op=.nilCheck x)(a:Act)(W:World)(ad:Addr)(hx:a.eval x=.pointer (some ad)):(execOp a.eval o).run aB W=.ok (.value (.pointer (some ad))) W:=by
  unfold execOp;simp only[ho,hx];simp[go_sem]
theorem Mj(W:World)(ad:Addr)(n:Int)(h:W.cell? ad=some (.int .i64 n)):(bN 3 (.pointer (some ad))).run aB W=.ok (.int .i64 n) W:=by
  simp[go_sem,h]
theorem Xk{L:List Int}(hL:L.length=13)(W:World)(p:Nat)(h:W.heap[p]?=some (.cells (hv L) 23 (0,0))):(bN 23 (.pointer (some ⟨p,0,none⟩))).run aB W=.ok (.agg (hv L)) W:=by
  simp only[bN,Instr.sureAddr,bO,bP,aW];exact run_loadVar_row W p 23 23 (hv L) (0,0) _ h Tryz.underlying23 rfl (Ic L hL)
theorem Yy{o:Oper}{x y:Operand}(ho:o.op=.binOp .add 3 x y 3)(a:Act)(W:World)(m n:Int)(hx:a.eval x=.int .i64 m)(hy:a.eval y=.int .i64 n)(hw:IntKind.i64.wrap (m+n)=m+n):(execOp a.eval o).run aB W=.ok (.value (.int .i64 (m+n))) W:=by
  unfold execOp;simp only[ho,hx,hy];simp[go_sem,hw]
theorem L9{o:Oper}{t:Nat}{ps:Array (Nat×Operand)}(ho:o.op=.build t ps)(a:Act)(W:World)(qs:Array (Nat×Value))(hq:(ps.map fun(i,x)=>(i,a.eval x))=qs)(v:Value)(h:(Instr.build t qs).run aB W=.ok v W):(execOp a.eval o).run aB W=.ok (.value v) W:=by
  unfold execOp;simp only[ho,bO,hq,h,aW,bP]
def Abg:List Oper:=[
  { dst := some 29, op := .move (.tmp 0), type := 61, pos := "wait.go:41", after := #[], guard := none },
  { dst := some 30, op := .move (.tmp 0), type := 61, pos := "wait.go:41", after := #[], guard := none },
  { dst := some 31, op := .nilCheck (.tmp 30), type := 0, pos := "wait.go:41", after := #[{ on := 1, ground := .data }], guard := none },
  { dst := some 32, op := .fieldAddr 105 (.tmp 31) 4, type := 0, pos := "wait.go:41", after := #[{ on := 2, ground := .data }], guard := none },
  { dst := some 33, op := .load 42 (.tmp 32), type := 42, pos := "wait.go:41", after := #[{ on := 3, ground := .data }], guard := none },
  { dst := some 34, op := .move (.tmp 0), type := 61, pos := "wait.go:41", after := #[], guard := none },
  { dst := some 35, op := .nilCheck (.tmp 34), type := 0, pos := "wait.go:41", after := #[{ on := 5, ground := .data }], guard := none },
  { dst := some 36, op := .fieldAddr 105 (.tmp 35) 3, type := 0, pos := "wait.go:41", after := #[{ on := 6, ground := .data }], guard := none },
  { dst := some 37, op := .load 3 (.tmp 36), type := 3, pos := "wait.go:41", after := #[{ on := 7, ground := .data }], guard := none },
  { dst := some 38, op := .move (.tmp 1), type := 3, pos := "wait.go:41", after := #[], guard := none },
  { dst := some 39, op := .load 23 (.tmp 6), type := 23, pos := "wait.go:41", after := #[], guard := none },
  { dst := some 40, op := .move (.tmp 3), type := 3, pos := "wait.go:41", after := #[], guard := none },
  { dst := some 41, op := .call { callee := .value (.func 52), args := #[.tmp 40], argTypes := #[3] }, type := 3, pos := "wait.go:41", after := #[{ on := 11, ground := .data }], guard := none },
  { dst := some 42, op := .move (.tmp 0), type := 61, pos := "wait.go:41", after := #[], guard := none },
  { dst := some 43, op := .nilCheck (.tmp 42), type := 0, pos := "wait.go:41", after := #[{ on := 13, ground := .data }], guard := none },
  { dst := some 44, op := .fieldAddr 105 (.tmp 43) 2, type := 0, pos := "wait.go:41", after := #[{ on := 14, ground := .data }], guard := none },
  { dst := some 45, op := .load 3 (.tmp 44), type := 3, pos := "wait.go:41", after := #[{ on := 15, ground := .data }], guard := none },
  { dst := some 46, op := .binOp .add 3 (.tmp 41) (.tmp 45) 3, type := 3, pos := "wait.go:41", after := #[{ on := 12, ground := .data }, { on := 16, ground := .data }], guard := none },
  { dst := some 47, op := .build 82 #[(0, .tmp 37), (1, .tmp 38), (2, .tmp 39), (3, .const (.int .i64 1)), (4, .tmp 46)], type := 82, pos := "wait.go:41", after := #[{ on := 8, ground := .data }, { on := 9, ground := .data }, { on := 10, ground := .data }, { on := 17, ground := .data }], guard := none },
  { dst := some 48, op := .buildSlice 42 1 #[(0, .tmp 47)], type := 42, pos := "wait.go:41", after := #[{ on := 18, ground := .data }], guard := none },
  { dst := some 49, op := .call { callee := .builtin .append, args := #[.tmp 33, .tmp 48], argTypes := #[42, 42] }, type := 42, pos := "wait.go:41", after := #[{ on := 4, ground := .data }, { on := 19, ground := .data }, { on := 12, ground := .chain }], guard := none },
  { dst := some 50, op := .nilCheck (.tmp 29), type := 0, pos := "wait.go:41", after := #[{ on := 0, ground := .data }, { on := 0, ground := .phase }, { on := 1, ground := .phase }, { on := 2, ground := .phase }, { on := 3, ground := .phase }, { on := 4, ground := .phase }, { on := 5, ground := .phase }, { on := 6, ground := .phase }, { on := 7, ground := .phase }, { on := 8, ground := .phase }, { on := 9, ground := .phase }, { on := 10, ground := .phase }, { on := 11, ground := .phase }, { on := 12, ground := .phase }, { on := 13, ground := .phase }, { on := 14, ground := .phase }, { on := 15, ground := .phase }, { on := 16, ground := .phase }, { on := 17, ground := .phase }, { on := 18, ground := .phase }, { on := 19, ground := .phase }, { on := 20, ground := .phase }], guard := none },
  { dst := some 51, op := .fieldAddr 105 (.tmp 50) 4, type := 0, pos := "wait.go:41", after := #[{ on := 21, ground := .data }, { on := 0, ground := .phase }, { on := 1, ground := .phase }, { on := 2, ground := .phase }, { on := 3, ground := .phase }, { on := 4, ground := .phase }, { on := 5, ground := .phase }, { on := 6, ground := .phase }, { on := 7, ground := .phase }, { on := 8, ground := .phase }, { on := 9, ground := .phase }, { on := 10, ground := .phase }, { on := 11, ground := .phase }, { on := 12, ground := .phase }, { on := 13, ground := .phase }, { on := 14, ground := .phase }, { on := 15, ground := .phase }, { on := 16, ground := .phase }, { on := 17, ground := .phase }, { on := 18, ground := .phase }, { on := 19, ground := .phase }, { on := 20, ground := .phase }], guard := none },
  { dst := none, op := .store 42 (.tmp 51) (.tmp 49), type := 0, pos := "wait.go:41", after := #[{ on := 22, ground := .data }, { on := 20, ground := .data }, { on := 20, ground := .chain }, { on := 0, ground := .phase }, { on := 1, ground := .phase }, { on := 2, ground := .phase }, { on := 3, ground := .phase }, { on := 4, ground := .phase }, { on := 5, ground := .phase }, { on := 6, ground := .phase }, { on := 7, ground := .phase }, { on := 8, ground := .phase }, { on := 9, ground := .phase }, { on := 10, ground := .phase }, { on := 11, ground := .phase }, { on := 12, ground := .phase }, { on := 13, ground := .phase }, { on := 14, ground := .phase }, { on := 15, ground := .phase }, { on := 16, ground := .phase }, { on := 17, ground := .phase }, { on := 18, ground := .phase }, { on := 19, ground := .phase }, { on := 20, ground := .phase }], guard := none }]
def N7:List Nat:=[29,30,31,32,33,34,35,36,37,38,39,40,41,42,43,44,45,46,47,48,49,50,51]
def MD(g B H:Nat)(L:List Int)(c:Cq)(s i t:Int)(now cl:Int)(vv:Value)(C:List Cq)(j:Nat)(v:Value)(w:World):Prop:=
  match j with
  | 0=>v=.pointer (some ⟨g,0,none⟩)
  | 1=>v=.pointer (some ⟨g,0,none⟩)
  | 2=>v=.pointer (some ⟨g,0,none⟩)
  | 3=>v=.pointer (some ⟨g,4,none⟩)
  | 4=>v=vv
  | 5=>v=.pointer (some ⟨g,0,none⟩)
  | 6=>v=.pointer (some ⟨g,0,none⟩)
  | 7=>v=.pointer (some ⟨g,3,none⟩)
  | 8=>v=.int .i64 s
  | 9=>v=.int .i64 i
  | 10=>v=.agg (hv L)
  | 11=>v=.int .i64 now
  | 12=>v=.int .i64 cl
  | 13=>v=.pointer (some ⟨g,0,none⟩)
  | 14=>v=.pointer (some ⟨g,0,none⟩)
  | 15=>v=.pointer (some ⟨g,2,none⟩)
  | 16=>v=.int .i64 t
  | 17=>v=.int .i64 (cl+t)
  | 18=>v=.agg (AL c)
  | 19=> ∃k,v=.slice (some ⟨k,0,none⟩) 1 1∧H≤k∧w.heap[k]?=some (.cells (AL c) 82 (0,0))
  | 20=>B8 B w v (C++[c])∧(v.ownBlock=vv.ownBlock∨∀k,v.ownBlock=some k→H≤k)
  | 21=>v=.pointer (some ⟨g,0,none⟩)
  | 22=>v=.pointer (some ⟨g,4,none⟩)
  | _=>True
theorem Yk(g B H:Nat)(L:List Int)(c:Cq)(s i t:Int)(now cl:Int)(vv:Value)(C:List Cq):∀j v w w',MD g B H L c s i t now cl vv C j v w→Below w.heap.size w w'→MD g B H L c s i t now cl vv C j v w':=by
  intro j v w w' h hb;revert h;unfold MD
  split <;> intro h <;> first
    | exact h
    | (obtain⟨k,h1,h2,h3⟩:=h
       exact⟨k,h1,h2,(hb.block k (gS h3)).trans h3⟩)
    | exact⟨h.1.below hb,h.2⟩
theorem UA{id:Nat}{Q:Exit→Act→World→Prop}{a0:Act}{w0:World}(hs:56≤a0.tmps.size)(g p B:Nat)(L:List Int)(hL:L.length=13)(s i t now cl:Int)(c:Cq)(hc:c=⟨s,i,L,1,cl+t⟩)(vv:Value)(C:List Cq)(cs:Array Value)
    (ho0:a0.eval (.tmp 0)=.pointer (some ⟨g,0,none⟩)) (ho1:a0.eval (.tmp 1)=.int .i64 i) (ho3:a0.eval (.tmp 3)=.int .i64 now) (ho6:a0.eval (.tmp 6)=.pointer (some ⟨p,0,none⟩))
    (hg:w0.heap[g]?=some (.cells cs 105 (0,0))) (hc2:cs[2]?=some (.int .i64 t)) (hc3:cs[3]?=some (.int .i64 s)) (hc4:cs[4]?=some (vv)) (hp:w0.heap[p]?=some (.cells (hv L) 23 (0,0)))
    (hcl:∀W,Calls aB 52 #[.int .i64 now] W fun e w'=>e=.returned (.int .i64 cl)∧w'=W) (hwt:IntKind.i64.wrap (cl+t)=cl+t) (hrow:B8 B w0 vv C) (hB:B≤w0.heap.size) (hlen:C.length≤100000)
    (hK:∀y w' u,Ao (Bn vv) w0 w'→B8 B w' u (C++[c])→(u.ownBlock=vv.ownBlock∨∀k,u.ownBlock=some k→w0.heap.size≤k)→Q .normal (Hb N7 y a0) (w'.setCell ⟨g,4,none⟩ u)):(Code.region id Abg.toArray true).wp aB Q a0 w0:=by
  have hDs:∀d∈N7,d<a0.tmps.size:=fun d hd=>by
    have:d<56:=by
      revert hd;unfold N7;intro hd;simp only[List.mem_cons,List.not_mem_nil,or_false] at hd;omega
    omega
  have fa2:∀W,(aK 105 (.pointer (some ⟨g,0,none⟩)) 2).run aB W=.ok (.pointer (some ⟨g,2,none⟩)) W:=fun W=>by simp[go_sem]
  have fa3:∀W,(aK 105 (.pointer (some ⟨g,0,none⟩)) 3).run aB W=.ok (.pointer (some ⟨g,3,none⟩)) W:=fun W=>by simp[go_sem]
  have fa4:∀W,(aK 105 (.pointer (some ⟨g,0,none⟩)) 4).run aB W=.ok (.pointer (some ⟨g,4,none⟩)) W:=fun W=>by simp[go_sem]
  have cf:∀vs W,(callFunc 52 vs).run aB W=.ok (.enter 52 vs) W:=fun vs W=>by have hf:=Tryz.func52;simp[go_sem]
  have nrg:¬Bn vv g:=Hw hrow hg (by decide);have nrp:¬Bn vv p:=Hw hrow hp (by decide);have frm:∀w,Ao (Bn vv) w0 w→w.heap[g]?=some (.cells cs 105 (0,0))∧w.heap[p]?=some (.cells (hv L) 23 (0,0))∧w0.heap.size≤w.heap.size:=fun w h=>⟨h.heap hg nrg,h.heap hp nrp,h.size⟩
  have frb:∀(b:Bool) (w:World),(if b then Ao (Bn vv) w0 w else Below w0.heap.size w0 w)→Ao (Bn vv) w0 w:=fun b w h=>by
    cases b with
    | true=>exact h
    | false=>exact Ao.of_below h
  refine Kv 23 20 (MD g B w0.heap.size L c s i t now cl vv C) (fun b w=>if b then Ao (Bn vv) w0 w else Below w0.heap.size w0 w) N7 (by kernel_rfl) (by decide) rfl (by kernel_rfl) (by decide) hDs (by kernel_rfl) (by kernel_rfl) (Yk g B w0.heap.size L c s i t now cl vv C) ?_ ?_ ?_ ?_ ?_
  · intro b w w' h hb
    cases b with
    | true=>exact Ao.add h hb
    | false=>exact Below.trans h (hb.mono (Below.size h))
  · exact(aO _ _).drew
  · intro j o ho hj hjm b a w h;have kw:=frm w (frb b w h.wld);have kws:=kw.2.2;rcases(show j=0∨j=1∨j=2∨j=3∨j=4∨j=5∨j=6∨j=7∨j=8∨j=9∨j=10∨j=11∨j=12∨j=13∨j=14∨j=15∨j=16∨j=17∨j=18∨j=19∨j=21∨j=22 by omega) with rfl | rfl | rfl | rfl | rfl | rfl | rfl | rfl | rfl | rfl | rfl | rfl | rfl | rfl | rfl | rfl | rfl | rfl | rfl | rfl | rfl | rfl
    · obtain rfl:=aA ho;have f0:a.eval (.tmp 0)=.pointer (some ⟨g,0,none⟩):=(h.other 0 (by decide)).trans ho0;exact Bt rfl rfl _ (Dy rfl _ _ _ f0) rfl
    · obtain rfl:=aA ho;have f0:a.eval (.tmp 0)=.pointer (some ⟨g,0,none⟩):=(h.other 0 (by decide)).trans ho0;exact Bt rfl rfl _ (Dy rfl _ _ _ f0) rfl
    · obtain rfl:=aA ho;have f0:a.eval (.tmp 30)=.pointer (some ⟨g,0,none⟩):=h.has ⟨1,.data⟩ (by simp) rfl _ 30 rfl rfl;exact Bt rfl rfl _ (ES rfl _ _ _ f0) rfl
    · obtain rfl:=aA ho;have f0:a.eval (.tmp 31)=.pointer (some ⟨g,0,none⟩):=h.has ⟨2,.data⟩ (by simp) rfl _ 31 rfl rfl;exact Bt rfl rfl _ (Ej rfl _ _ _ ((congrArg (fun y=>(aK 105 y 4).run aB w) f0).trans (fa4 w))) rfl
    · obtain rfl:=aA ho;have f0:a.eval (.tmp 32)=.pointer (some ⟨g,4,none⟩):=h.has ⟨3,.data⟩ (by simp) rfl _ 32 rfl rfl;exact Bt rfl rfl _ (ET rfl _ _ _ _ f0 (Kf (e:=82) Tryz.underlying42 _ _ _ (by rw[cell_of_row _ _ _ _ _ _ kw.1];exact hc4))) rfl
    · obtain rfl:=aA ho;have f0:a.eval (.tmp 0)=.pointer (some ⟨g,0,none⟩):=(h.other 0 (by decide)).trans ho0;exact Bt rfl rfl _ (Dy rfl _ _ _ f0) rfl
    · obtain rfl:=aA ho;have f0:a.eval (.tmp 34)=.pointer (some ⟨g,0,none⟩):=h.has ⟨5,.data⟩ (by simp) rfl _ 34 rfl rfl;exact Bt rfl rfl _ (ES rfl _ _ _ f0) rfl
    · obtain rfl:=aA ho;have f0:a.eval (.tmp 35)=.pointer (some ⟨g,0,none⟩):=h.has ⟨6,.data⟩ (by simp) rfl _ 35 rfl rfl;exact Bt rfl rfl _ (Ej rfl _ _ _ ((congrArg (fun y=>(aK 105 y 3).run aB w) f0).trans (fa3 w))) rfl
    · obtain rfl:=aA ho;have f0:a.eval (.tmp 36)=.pointer (some ⟨g,3,none⟩):=h.has ⟨7,.data⟩ (by simp) rfl _ 36 rfl rfl;exact Bt rfl rfl _ (ET rfl _ _ _ _ f0 (Mj _ _ _ (by rw[cell_of_row _ _ _ _ _ _ kw.1];exact hc3))) rfl
    · obtain rfl:=aA ho;have f0:a.eval (.tmp 1)=.int .i64 i:=(h.other 1 (by decide)).trans ho1;exact Bt rfl rfl _ (Dy rfl _ _ _ f0) rfl
    · obtain rfl:=aA ho;have f0:a.eval (.tmp 6)=.pointer (some ⟨p,0,none⟩):=(h.other 6 (by decide)).trans ho6;exact Bt rfl rfl _ (ET rfl _ _ _ _ f0 (Xk hL _ _ kw.2.1)) rfl
    · obtain rfl:=aA ho;have f0:a.eval (.tmp 3)=.int .i64 now:=(h.other 3 (by decide)).trans ho3;exact Bt rfl rfl _ (Dy rfl _ _ _ f0) rfl
    · obtain rfl:=aA ho;have f0:a.eval (.tmp 40)=.int .i64 now:=h.has ⟨11,.data⟩ (by simp) rfl _ 40 rfl rfl;exact Acw rfl rfl 52 #[.int .i64 now] (UI rfl cf _ _ _ f0) ((hcl w).mono fun e w1 hh=>⟨_,hh.1,by rw[hh.2];exact aO _ _,rfl⟩)
    · obtain rfl:=aA ho;have f0:a.eval (.tmp 0)=.pointer (some ⟨g,0,none⟩):=(h.other 0 (by decide)).trans ho0;exact Bt rfl rfl _ (Dy rfl _ _ _ f0) rfl
    · obtain rfl:=aA ho;have f0:a.eval (.tmp 42)=.pointer (some ⟨g,0,none⟩):=h.has ⟨13,.data⟩ (by simp) rfl _ 42 rfl rfl;exact Bt rfl rfl _ (ES rfl _ _ _ f0) rfl
    · obtain rfl:=aA ho;have f0:a.eval (.tmp 43)=.pointer (some ⟨g,0,none⟩):=h.has ⟨14,.data⟩ (by simp) rfl _ 43 rfl rfl;exact Bt rfl rfl _ (Ej rfl _ _ _ ((congrArg (fun y=>(aK 105 y 2).run aB w) f0).trans (fa2 w))) rfl
    · obtain rfl:=aA ho;have f0:a.eval (.tmp 44)=.pointer (some ⟨g,2,none⟩):=h.has ⟨15,.data⟩ (by simp) rfl _ 44 rfl rfl;exact Bt rfl rfl _ (ET rfl _ _ _ _ f0 (Mj _ _ _ (by rw[cell_of_row _ _ _ _ _ _ kw.1];exact hc2))) rfl
    · obtain rfl:=aA ho;have f0:a.eval (.tmp 41)=.int .i64 cl:=h.has ⟨12,.data⟩ (by simp) rfl _ 41 rfl rfl;have f1:a.eval (.tmp 45)=.int .i64 t:=h.has ⟨16,.data⟩ (by simp) rfl _ 45 rfl rfl;exact Bt rfl rfl _ (Yy rfl _ _ _ _ f0 f1 hwt) rfl
    · obtain rfl:=aA ho;have b0:a.eval (.tmp 37)=.int .i64 s:=h.has ⟨8,.data⟩ (by simp) rfl _ 37 rfl rfl;have b1:a.eval (.tmp 38)=.int .i64 i:=h.has ⟨9,.data⟩ (by simp) rfl _ 38 rfl rfl;have b2:a.eval (.tmp 39)=.agg (hv L):=h.has ⟨10,.data⟩ (by simp) rfl _ 39 rfl rfl;have b4:a.eval (.tmp 46)=.int .i64 (cl+t):=h.has ⟨17,.data⟩ (by simp) rfl _ 46 rfl rfl;exact Bt rfl rfl _ (L9 rfl _ _ #[(0,.int .i64 s),(1,.int .i64 i),(2,.agg (hv L)),(3,.int .i64 1),(4,.int .i64 (cl+t))] (by simp only[List.map_toArray,List.map_cons,List.map_nil,b0,b1,b2,b4];rfl) _ (by rw[hc];exact XX s i (cl+t) hL w)) rfl
    · obtain rfl:=aA ho;have f0:a.eval (.tmp 47)=.agg (AL c):=h.has ⟨18,.data⟩ (by simp) rfl _ 47 rfl rfl;refine PF rfl ?_;refine IOx (E:=Ix) Ks rfl _ rfl (AL c) rfl f0 ?_;exact⟨_,rfl,(aO _ _).alloc (aQ _) _,fun _ _=>⟨_,rfl,kws,Ac _ _ _ rfl⟩⟩
    · obtain rfl:=aA ho;have f0:a.eval (.tmp 29)=.pointer (some ⟨g,0,none⟩):=h.has ⟨0,.data⟩ (by simp) rfl _ 29 rfl rfl;exact Bt rfl rfl _ (ES rfl _ _ _ f0) rfl
    · obtain rfl:=aA ho;have f0:a.eval (.tmp 50)=.pointer (some ⟨g,0,none⟩):=h.has ⟨21,.data⟩ (by simp) rfl _ 50 rfl rfl;exact Bt rfl rfl _ (Ej rfl _ _ _ ((congrArg (fun y=>(aK 105 y 4).run aB w) f0).trans (fa4 w))) rfl
  · intro o ho a w h;obtain rfl:=aA ho;have hb:Below w0.heap.size w0 w:=h.wld;have g1:a.eval (.tmp 33)=vv:=h.has ⟨4,.data⟩ (by simp) rfl _ 33 rfl rfl;obtain⟨k,g2,g3,g4⟩:∃k,a.eval (.tmp 48)=.slice (some ⟨k,0,none⟩) 1 1∧w0.heap.size≤k∧w.heap[k]?=some (.cells (AL c) 82 (0,0)):=h.has ⟨19,.data⟩ (by simp) rfl _ 48 rfl rfl;have hown:B8 B w vv C:=hrow.below hb;refine Dt rfl ?_;refine Abb rfl _ _ rfl B vv C c g1 hown k 1 g2 g4 (by omega) (Nat.le_trans hB hb.size) ?_;intro v' w3 hown3 hgr3 hq3;have k3:Ao (Bn vv) w0 w3:=(Ao.of_below hb).trans (Ao.of_grown hgr3 fun k e=>e) fun k e=> .inl e;refine⟨v',rfl,k3,?_,fun _ _=>⟨hown3,?_⟩⟩
    · intro j z hj;unfold MD
      split <;> intro hz <;> first
        | exact hz
        | exact absurd rfl hj
        | (obtain⟨k,q1,q2,q3⟩:=hz
           exact⟨k,q1,q2,(hgr3.block k (gS q3) (fun hq=>by have:=(hrow.lt k hq.symm).2;omega)).trans q3⟩)
    · rcases hq3 with e | e
      · exact .inl e
      · exact .inr fun k e'=>by rw[e] at e';have:=aA e';have:=hb.size;omega
  · intro a w hI hsz hdf hot hh;have kw:Ao (Bn vv) w0 w:=hI;have hvm:MD g B w0.heap.size L c s i t now cl vv C 20 (a.eval (.tmp 49)) w:=hh 20 _ 49 (by decide) rfl rfl;obtain⟨q1,q2⟩:=hvm;have q3:a.eval (.tmp 51)=.pointer (some ⟨g,4,none⟩):=hh 22 _ 51 (by decide) rfl rfl;obtain⟨v',hv'⟩:∃v',a.eval (.tmp 49)=v':=⟨_,rfl⟩;rw[hv'] at q1 q2;obtain⟨o3,cap3,hv3⟩:=Lr q1;have c3:w.cell? ⟨g,4,none⟩=some vv:=by rw[cell_of_row _ _ _ _ _ _ (frm w kw).1];exact hc4
    have hst:(Instr.storeAt 42 (.pointer (some ⟨g,4,none⟩)) v').run aB w=.ok () (w.setCell ⟨g,4,none⟩ v'):=K8 (ty:=42) (fun W=>Tryz.sizeOf42 W) w ⟨g,4,none⟩ v' vv ⟨o3,_,cap3,hv3⟩ c3 (J9 (frm w kw).1 rfl);refine EP (w':=w.setCell ⟨g,4,none⟩ v') rfl rfl (Ku rfl _ _ _ _ _ q3 hv' hst) rfl ?_;show Q .normal a (w.setCell ⟨g,4,none⟩ v');rw[Mb hsz hdf hot hDs];exact hK _ w v' kw q1 q2
def Hg(p:Prop):Prop:=p
theorem Fd{p:Prop}(h:Hg p):p:=h
theorem NR(g off j:Nat):(⟨g,off,none⟩:Addr).add j=⟨g,off+j,none⟩:=by unfold Addr.add;split <;> simp_all
def Be(w:World)(v:Value)(L:List UInt8):Prop:=
 ∃(o:Option Addr) (cap:Nat),v=.slice o L.length cap∧L.length≤cap∧cap≤maxLen∧(o=none→cap=0)∧∀(i:Nat) (hi:i<L.length),∃g off cur t fr,o=some ⟨g,off,none⟩∧w.heap[g]?=some (.cells cur t fr)∧cur[off+i]?=some (.int .u8 (L[i].toNat:Int))
theorem Be.of_heap{w w':World}{v:Value}{L:List UInt8}(h:Be w v L)(hb:∀g o,w.heap[g]?=some o→v.ownBlock=some g→w'.heap[g]?=some o):Be w' v L:=by
 obtain⟨o,cap,rfl,h1,h2,h3,h4⟩:=h;refine⟨o,cap,rfl,h1,h2,h3,fun i hi=> ?_⟩;obtain⟨g,off,cur,t,fr,rfl,h5,h6⟩:=h4 i hi;exact⟨g,off,cur,t,fr,rfl,hb _ _ h5 rfl,h6⟩
theorem Be.below{w w':World}{v:Value}{L:List UInt8}(h:Be w v L)(hb:Below w.heap.size w w'):Be w' v L:=
 h.of_heap fun g _ hg _=>(hb.block g (gS hg)).trans hg
theorem Be.alloc{w:World}{v:Value}{L:List UInt8}(h:Be w v L)(x:Obj):Be (w.alloc x) v L:=
 h.of_heap fun _ _ hg _=>Af _ _ _ _ hg
theorem Be.grown{w w':World}{v:Value}{L:List UInt8}(h:Be w v L){row:Option Nat}(hg:w.grownBy w' row)(hne:∀g,v.ownBlock=some g→row≠some g):Be w' v L:=
 h.of_heap fun g _ hq hv=>(hg.block g (gS hq) fun e=>hne g hv e.symm).trans hq
theorem Be.slice{w:World}{v:Value}{L:List UInt8}(h:Be w v L):∃o cap,v=.slice o L.length cap∧L.length≤cap∧cap≤maxLen:=by
 obtain⟨o,cap,rfl,h1,h2,_⟩:=h;exact⟨o,cap,rfl,h1,h2⟩
theorem Be.len{w:World}{o:Option Addr}{n cap:Nat}{L:List UInt8}(h:Be w (.slice o n cap) L):n=L.length:=by
 obtain⟨o',cap',h1,_⟩:=h;simp only[aX] at h1;exact h1.2.1
theorem Be.at{w:World}{o:Option Addr}{n cap:Nat}{L:List UInt8}(h:Be w (.slice o n cap) L)(k:Nat)(hk:k<n):
  ∃g off,∃c:UInt8,o=some ⟨g,off,none⟩∧w.cell? ⟨g,off+k,none⟩=some (.int .u8 (c.toNat:Int))∧L[k]?=some c:=by
 obtain⟨o',cap',h1,_,_,_,h3⟩:=h;simp only[aX] at h1;obtain⟨rfl,rfl,rfl⟩:=h1;obtain⟨g,off,cur,t,fr,h4,h5,h6⟩:=h3 k hk;exact⟨g,off,L[k],h4,by rw[cell_of_row _ _ _ _ _ _ h5];exact h6,aM hk⟩
theorem Be.part{w:World}{o:Option Addr}{n cap:Nat}{L:List UInt8}(h:Be w (.slice o n cap) L)(g off p q cap':Nat)(ho:o=some ⟨g,off,none⟩)(hq:p+q≤n)(hc1:q≤cap')(hc2:cap'≤maxLen):Be w (.slice (some ⟨g,off+p,none⟩) q cap') ((L.drop p).take q):=by
 have hn:=h.len;obtain⟨o',cap0,h1,h2,h3,h4,h5⟩:=h;simp only[aX] at h1;obtain⟨rfl,rfl,rfl⟩:=h1;have hl:((L.drop p).take q).length=q:=by simp;omega
 refine⟨some ⟨g,off+p,none⟩,cap',by rw[hl],by omega,hc2,(fun e=>by cases e),fun i hi=> ?_⟩;rw[hl] at hi;obtain⟨g',off',cur,t,fr,e,h6,h7⟩:=h5 (p+i) (by omega);rw[ho] at e;simp only[aH,Addr.mk.injEq,and_true] at e;obtain⟨rfl,rfl⟩:=e;refine⟨g,off+p,cur,t,fr,rfl,h6,?_⟩;rw[Nat.add_assoc,h7];simp[List.getElem_take,List.getElem_drop]
theorem Adn(w:World):Be w (.slice none 0 0) []:=⟨none,0,rfl,aQ _,aR _,fun _=>rfl,fun i hi=>absurd hi (by simp)⟩
theorem Aac(w:World)(a:Addr)(cap:Nat)(h:cap≤maxLen):Be w (.slice (some a) 0 cap) []:=⟨some a,cap,rfl,aR _,h,(fun e=>by cases e),fun i hi=>absurd hi (by simp)⟩
def Au(B:Nat)(w:World)(v:Value)(L:List UInt8):Prop:=w.ownsRow B 5 1 v L.length (aG L)
theorem Ko(L:List UInt8)(i:Nat)(hi:i<L.length):(aG L)[i]?=some (.int .u8 (L[i].toNat:Int)):=by simp[aG,hi]
theorem Au.sl{B:Nat}{w:World}{v:Value}{L:List UInt8}(h:Au B w v L):Be w v L:=by
 obtain⟨h1,⟨rfl,h2⟩ | ⟨g,cap,cur,rfl,hB,hcur,h5,h6,_,h4⟩⟩:=h
 ·exact⟨none,0,by rw[h2],by omega,aR _,fun _=>rfl,fun i hi=>by omega⟩
 ·refine⟨_,cap,rfl,h5,h6,(fun e=>by cases e),fun i hi=>⟨g,0,cur,_,_,rfl,hcur,?_⟩⟩;rw[←Ko L i hi, ←h4,Nat.mul_one,List.getElem?_take_of_lt hi,Nat.zero_add];simp
theorem Au.nil(B:Nat)(w:World):Au B w (.slice none 0 0) []:=World.ownsRow_nil _ _ _ _
theorem Au.base{B B':Nat}{w:World}{v:Value}{L:List UInt8}(h:Au B w v L)(hB:B'≤B):Au B' w v L:=by
 obtain⟨h1,h2 | ⟨g',cap,cur,rfl,hB,h3⟩⟩:=h
 ·exact⟨h1,.inl h2⟩
 ·exact⟨h1,.inr ⟨g',cap,cur,rfl,by omega,h3⟩⟩
theorem Au.below{B:Nat}{w w':World}{v:Value}{L:List UInt8}(h:Au B w v L)(hb:Below w.heap.size w w'):Au B w' v L:=by
 obtain⟨h1,h2 | ⟨g,cap,cur,rfl,hB,hcur,h3⟩⟩:=h
 ·exact⟨h1,.inl h2⟩
 ·exact⟨h1,.inr ⟨g,cap,cur,rfl,hB,(hb.block g (gS hcur)).trans hcur,h3⟩⟩
theorem Au.ge{B:Nat}{w:World}{v:Value}{L:List UInt8}(h:Au B w v L):∀g,v.ownBlock=some g→B≤g∧g<w.heap.size:=fun g hg=>World.ownsRow.lt h g hg
theorem Aay:∃i,aB.info? 5=some i∧i.zero=some (.int .u8 0)∧i.size=1∧i.bytes=1:=by
 have h:(aB.info? 5).map (fun i=>(i.zero,i.size,i.bytes))=some (some (.int .u8 0),1,1):=by kernel_rfl
 cases hi:aB.info? 5 with
 | none=>rw[hi] at h;simp at h
 | some i=>
  rw[hi] at h;simp only[aT,aH,Prod.mk.injEq] at h;exact⟨i,rfl,h.1,h.2.1,h.2.2⟩
theorem FD{ops:Array Oper}{rest:List Oper}{o:Oper}{a:Act}{w:World}{Q:Exit→Act→World→Prop}(hgd:o.guard=none)(s x:Operand)(ho:o.op=.call {callee:=.builtin .append,args:=#[s,x],argTypes:=#[85,85]})
  (B:Nat) (v u:Value) (L M:List UInt8) (hs:a.eval s=v) (hb:Au B w v L) (hx:a.eval x=u) (hM:Be w u M) (hn:L.length+M.length≤140737488355328) (hB:B≤w.heap.size)
  (h:∀v' w',Au B w' v' (L++M)→w.grownBy w' v.ownBlock→(v'.ownBlock=v.ownBlock∨v'.ownBlock=some w.heap.size)→wpList aB ops Q rest (a.put o.dst v') w'):wpList aB ops Q (o::rest) a w:=by
 obtain⟨i,hi,hz,h1,h2⟩:=Aay;obtain⟨oa,cap,rfl,hc1,hc2,hc3,hc4⟩:=hM
 cases oa with
 | none=>
  have h0:M=[]:=by
   cases M with
   | nil=>rfl
   | cons c M=>obtain⟨g,off,cur,t,fr,e,_⟩:=hc4 0 (by simp);cases e
  subst h0;obtain rfl:=hc3 rfl;refine wpList_append_own_none hgd s x 85 ho B 5 i 1 aI hi v _ _ hs hb hx ?_;refine h v w (by rw[List.append_nil];exact hb) ⟨rfl,rfl,rfl,aQ _,fun _ _ _=>rfl⟩ (.inl rfl)
 | some ad=>
  refine wpList_append_own_at _ hgd s x 85 ho B 5 i (.int .u8 0) 1 1 aI hi hz h1 h2 rfl (by decide) v _ _ hs hb ad M.length cap (aG M) hx (by rw[bF];omega) ?_ ?_ (by unfold maxLen;omega) (by omega) hB ?_
  ·intro j c hj
   have hjl:j<M.length:=by
    have:=(aJ.1 hj).1;rwa [bF] at this
   obtain⟨g,off,cur,t,fr,e,h5,h6⟩:=hc4 j hjl;obtain rfl:=aA e;rw[NR,cell_of_row _ _ _ _ _ _ h5,h6, ←hj,Ko M j hjl]
  ·intro c hc;unfold aG at hc;obtain⟨b,_,rfl⟩:=List.mem_map.1 hc;rfl
  ·intro v' w' hown hgr _ hat;refine h v' w' ?_ hgr hat;unfold Au;rw[aN,Lib.byteCells_append];exact hown
theorem RH(w:World)(v:Value)(L:List UInt8)(h:Be w v L):(convert 85 9 v).run aB w=.ok (.string ⟨L.toArray⟩) w:=by
 obtain⟨o,cap,rfl,h1,h2,h3,h4⟩:=h
 cases L with
 | nil=>
  cases o with
  | none=>exact run_convert_bytes_nil w 85 5 aI aZ _ _ 9 bA
  | some a=>
   rw[run_convert_bytes_string w 85 9 5 _ _ _ aI aZ bA];exact run_bytesToString w a 0 cap [] rfl
 | cons c L=>
  obtain⟨g,off,_,_,_,rfl,_⟩:=h4 0 (by simp)
  have hx:∀i,i<(c::L).length→w.cell? ⟨g,off+i,none⟩=some (.int .u8 (((c::L).map fun b=>(b.toNat:Int)).getD i 0)):=fun i hi=>by
   obtain⟨g',off',cur,t,fr,e,h5,h6⟩:=h4 i hi;simp only[aH,Addr.mk.injEq,and_true] at e;obtain⟨rfl,rfl⟩:=e;rw[cell_of_row _ _ _ _ _ _ h5,h6,List.getD_eq_getElem?_getD,List.getElem?_map,aM hi];rfl
  rw[run_convert_bytes_arg w 85 5 aI aZ g off _ cap ((c::L).map fun b=>(b.toNat:Int)) (by simp) hx 9 bA];congr 2;unfold strOfNums;congr 1;rw[List.map_map];congr 1
  conv=>rhs;rw[←List.map_id (c::L)]
  refine List.map_congr_left fun b _=> ?_;simp
def Gp(n:Int):Bool:=decide (1≤n)&&decide (n≤8)
theorem QX(n:Int)(w:World):
  Calls aB 101 #[.int .i64 n] w fun e w'=>e=.returned (.bool (Gp n))∧w'=w:=by
 by_cases h1:1≤n
 ·by_cases h2:n≤8
  ·have HC:Hid (Gp n=true):=by show _=_;unfold Gp;simp[h1,h2]
   go_enter bQ,bH;go_wp2_with fail;go_ret;rw[HC.out];exact⟨rfl,rfl⟩
  ·have HC:Hid (Gp n=false):=by show _=_;unfold Gp;simp[h2]
   go_enter bQ,bH;go_wp2_with fail;go_ret;rw[HC.out];exact⟨rfl,rfl⟩
 ·have HC:Hid (Gp n=false):=by show _=_;unfold Gp;simp[h1]
  go_enter bQ,bH;go_wp2_with fail;go_ret;rw[HC.out];exact⟨rfl,rfl⟩
theorem M8(o:Option Addr)(n cap:Nat)(hn:n≤maxLen)(p q:Int)(hp:0≤p)(hp2:p≤9223372036854775807)(w:World):
  Calls aB 102 #[.slice o n cap,.int .i64 p,.int .i64 q] w fun e w'=>e=.returned (.bool (decide (q≤(n:Int)-p)))∧w'=w:=by
 unfold maxLen at hn;go_enter Tryz.func102,Tryz.ntmps102;go_wp2_with fail;go_ret;exact⟨rfl,rfl⟩
theorem Wi(L:List UInt8)(k:Nat)(c:UInt8)(h:L[k]?=some c):CY (L.take (k+1))=CY (L.take k)*256+c.toNat:=by
 have hk:=(aJ.1 h).1;rw[List.take_succ_eq_append_getElem hk,LU,(aJ.1 h).2]
theorem Rx(L:List UInt8)(k:Nat)(hk:k≤L.length):CY (L.take k)<256 ^ k:=by
 have:=KE (L.take k);rwa [bB,Nat.min_eq_left hk] at this
theorem UB(L:List UInt8)(k:Nat)(hk:k<L.length)(h8:L.length≤8):CY (L.take k)<72057594037927936:=
 Nat.lt_of_lt_of_le (Rx L k (by omega)) (Nat.le_trans (Nat.pow_le_pow_right (by decide) (show k≤7 by omega)) (by decide))
theorem Ac3(n x:Nat)(hx:x<256):n*256 ||| x=n*256+x:=by
 have:=Nat.shiftLeft_add_eq_or_of_lt (show x<2 ^ 8 from hx) n;rw[Nat.shiftLeft_eq] at this;exact this.symm
theorem Aei(n x:Nat)(hn:n<72057594037927936)(hx:x<256):bits .or .u64 ((n:Int)*256) (x:Int)=((n*256+x:Nat):Int):=by
 have e:((n:Int)*256)=((n*256:Nat):Int):=by omega
 have hb:n*256+x<18446744073709551616:=by omega
 rw[e,bits_or_u64_nat _ _ (by omega) (by omega),Ac3 n x hx]
theorem Lg(v:Value)(L:List UInt8)(w:World)(hL:Be w v L)(h8:L.length≤8):
  Calls aB 75 #[v] w fun e w'=>e=.returned (.int .u64 (CY L:Int))∧w'=w:=by
 have hL':=hL;obtain⟨o,cap,rfl,h1,h2⟩:=hL'.slice;have HL:Hid (Be w (.slice o L.length cap) L):=hL;obtain⟨n,hn⟩:=eX L.length;have HN:Hid (n=L.length):=hn;rw[←hn] at HL h1 h8 ⊢;clear hn hL hL';go_enter Tryz.func75,Tryz.ntmps75;go_wp2_with fail;go_loop [3,8] (fun a i=> ∃k:Nat,k≤n∧i=.int .i64 k∧a=.int .u64 (CY (L.take k):Int)) (fun _ i=>n-(intOf i).toNat)
 case atStart=>exact⟨0,aR _,rfl,rfl⟩
 case round=>
  obtain⟨k,hk,rfl,rfl⟩:=hrel;by_cases hlt:k<n
  ·obtain⟨g,off,c,rfl,hc,hck⟩:=HL.out.at k hlt;have HV:Hid (CY (L.take (k+1))=CY (L.take k)*256+c.toNat):=Wi L k c hck;have hv:=UB L k (by rw[←HN.out];omega) (by rw[←HN.out];omega);obtain⟨x,hx⟩:=eX (CY (L.take k));rw[←hx] at HV hv ⊢;have hcl:=c.toNat_lt;clear hx hck;go_wp2_with fail;refine⟨⟨k+1,by omega,by go_num,?_⟩,by simp[intOf];omega⟩;rw[HV.out,Aei x c.toNat hv hcl]
  ·go_wp2_with fail;go_ret;obtain rfl:k=n:=by omega
   rw[HN.out,bY];exact⟨rfl,rfl⟩
theorem Af3(s n k:Nat)(hk:k<s):(BY s n)[k]?=some (bD (n/256 ^ (s-1-k)%256)):=by
 induction s generalizing k with
 | zero=>omega
 | succ s ih=>
  rw[Mt]
  cases k with
  | zero=>simp
  | succ k=>rw[List.getElem?_cons_succ,ih k (by omega),show s+1-1-(k+1)=s-1-k by omega]
def Jc(s n k:Nat):List UInt8:=(BY s n).take k++aV (s-k) 0
theorem ZY(s n k:Nat)(h:k≤s):(Jc s n k).length=s:=by unfold Jc;rw[aN,bB,E9,bE];omega
theorem XO(s n:Nat):Jc s n 0=aV s 0:=by unfold Jc;simp
theorem ZZ(s n:Nat):Jc s n s=BY s n:=by unfold Jc;rw[List.take_of_length_le (by rw[E9];exact aQ _)];simp
theorem XP(s n k:Nat)(h:k<s):Jc s n (k+1)=(Jc s n k).set k (bD (n/256 ^ (s-1-k)%256)):=by
 unfold Jc;have hl:((BY s n).take k).length=k:=by rw[bB,E9];omega
 rw[List.set_append_right _ _ (by omega),hl,Nat.sub_self,bT,Af3 s n k h];obtain⟨m,hm⟩:∃m,s-k=m+1:=⟨s-k-1,by omega⟩;rw[hm,show s-(k+1)=m by omega];simp[List.replicate_succ]
theorem Au.set{B:Nat}{w:World}{g n cap:Nat}{L:List UInt8}(h:Au B w (.slice (some ⟨g,0,none⟩) n cap) L)(k:Nat)(b:UInt8):Au B (w.setCell ⟨g,k,none⟩ (.int .u8 (b.toNat:Int))) (.slice (some ⟨g,0,none⟩) n cap) (L.set k b):=by
 have hn:=h.sl.len;subst hn;have:=(World.ownsRow.stored h k (.int .u8 (b.toNat:Int))).1;unfold Au;rw[List.length_set];have e:aG (L.set k b)=(aG L).set k (.int .u8 (b.toNat:Int)):=by unfold aG;rw[List.map_set]
 rw[e];exact this
theorem ZW(n m:Nat):(n:Int)/2 ^ (m*8)%256=((bD (n/256 ^ m%256)).toNat:Int):=by
 rw[UInt8.toNat_ofNat',Nat.mod_mod]
 have e:(2:Int) ^ (m*8)=((256 ^ m:Nat):Int):=by
  rw[bR,bU];simp
 rw[e];simp
theorem Yg{ops:Array Oper}{rest:List Oper}{o:Oper}{a:Act}{w:World}{Q:Exit→Act→World→Prop}(hgd:o.guard=none)(x y:Operand)(ho:o.op=.makeSlice 85 x y)
  (n:Nat) (hx:a.eval x=.int .i64 (n:Int)) (hy:a.eval y=.int .i64 (n:Int)) (hn:n≤1000)
  (h:∀w',Au w.heap.size w' (.slice (some ⟨w.heap.size,0,none⟩) n n) (aV n 0)→Below w.heap.size w w'→wpList aB ops Q rest (a.put o.dst (.slice (some ⟨w.heap.size,0,none⟩) n n)) w'):wpList aB ops Q (o::rest) a w:=by
 obtain⟨i,hi,hz,h1,h2⟩:=Aay;refine wpList_plain hgd fun K hK=> ?_;obtain⟨w',hr,hown,hgr⟩:=run_make_full (P:=aB) w w.heap.size 85 5 i (.int .u8 0) 1 aI hi hz h1 .i64 .i64 n (by rw[h2];omega) (by unfold maxLen;omega) (aQ _);unfold Oper.wp execOp;simp only[ho,hx,hy,hr,bO,bP,aW];refine hK _ _ (h w' ?_ ((aO _ _).grown hgr (aQ _) fun k hk=>by cases hk));unfold Au;rw[bE]
 have e:aG (aV n 0)=(madeCells (Value.int .u8 0).cells (n*1)).toList:=by
  show _=(madeCells #[.int .u8 0] (n*1)).toList;rw[toList_madeCells_one,Nat.mul_one];unfold aG;simp
 rw[e];exact hown
theorem Lz(n s:Nat)(hs:s≤8)(w:World):
  Calls aB 125 #[.int .u64 (n:Int),.int .i64 (s:Int)] w fun e w'=> ∃v,e=.returned v∧Au w.heap.size w' v (BY s n)∧Below w.heap.size w w':=by
 go_enter Tryz.func125,Tryz.ntmps125;go_wp2_with (refine Yg rfl _ _ rfl s rfl rfl (by omega) ?_;intro w1 ho hb);have HO:Hid (Au w.heap.size w1 (.slice (some ⟨w.heap.size,0,none⟩) s s) (Jc s n 0)):=by rw[XO];exact ho
 have HB:Hid (Below w.heap.size w w1):=hb;clear ho hb;go_wp2_with fail;go_loopw [11] (fun i W=> ∃k:Nat,k≤s∧i=.int .i64 k∧Au w.heap.size W (.slice (some ⟨w.heap.size,0,none⟩) s s) (Jc s n k)∧Below w.heap.size w W) (fun i _=>s-(intOf i).toNat)
 case atStart=>exact⟨0,aR _,rfl,HO.out,HB.out⟩
 case round=>
  obtain⟨k,hk,rfl,ho,hb⟩:=hrel;have HO1:Hid (Au w.heap.size wr (.slice (some ⟨w.heap.size,0,none⟩) s s) (Jc s n k)):=ho;have HB1:Hid (Below w.heap.size w wr):=hb;by_cases hlt:k<s
  ·obtain⟨_,_,c,e,hc,_⟩:=ho.sl.at k hlt;simp only[aH,Addr.mk.injEq,and_true] at e;obtain⟨rfl,rfl⟩:=e;have hf:wr.frozen? ⟨w.heap.size,k,none⟩=false:=World.ownsRow.frozenAt (n:=s) (by have:=HO1.out;unfold Au at this;rw[ZY s n k hk] at this;exact this) k;rw[Nat.zero_add] at hc;clear ho hb;have HD:Hid ((n:Int)/2 ^ ((s-1-k)*8)%256=((bD (n/256 ^ (s-1-k)%256)).toNat:Int)):=ZW n (s-1-k);go_wp2_with fail;refine⟨⟨k+1,by omega,by go_num,?_,HB1.out.setCell (by simp) _⟩,by simp[intOf];omega⟩;rw[HD.out,XP s n k hlt];exact HO1.out.set k _
  ·obtain rfl:k=s:=by omega
   clear ho hb;go_wp2_with fail;go_ret;refine⟨_,rfl,?_,HB1.out⟩;have:=HO1.out;rw[ZZ] at this;exact this
def Jp(w:World):List Value→List (List UInt8)→Prop
 | [],[]=>True
 | v::vs,L::Ls=>Be w v L∧Jp w vs Ls
 | _,_=>False
theorem Jp.len{w:World}:∀ {vs:List Value} {Ls:List (List UInt8)},Jp w vs Ls→vs.length=Ls.length
 | [],[],_=>rfl
 | [],_::_,h=>False.elim h
 | _::_,[],h=>False.elim h
 | _::vs,_::Ls,h=>by rw[bZ,bZ,Jp.len (vs:=vs) (Ls:=Ls) h.2]
theorem Jp.at{w:World}:∀ {vs:List Value} {Ls:List (List UInt8)},Jp w vs Ls→∀(k:Nat) (hk:k<vs.length),∃L,Ls[k]?=some L∧Be w vs[k] L
 | [],_,_,_,hk=>absurd hk (by simp)
 | _::_,[],h,_,_=>False.elim h
 | v::vs,L::Ls,h,0,_=>⟨L,rfl,h.1⟩
 | v::vs,L::Ls,h,k+1,hk=>Jp.at (vs:=vs) (Ls:=Ls) h.2 k (by simpa using hk)
theorem Mq{Ls:List (List UInt8)}{k:Nat}{L:List UInt8}(h:Ls[k]?=some L):(Ls.take (k+1)).flatten=(Ls.take k).flatten++L:=by
 rw[bT,h];simp
theorem O5(Ls:List (List UInt8))(k:Nat):(Ls.take k).flatten.length≤Ls.flatten.length:=by
 conv=>rhs;rw[←List.take_append_drop k Ls]
 rw[List.flatten_append,aN];omega
theorem JN(g:Nat)(vs:List Value)(Ls:List (List UInt8))(w:World)(hg:w.heap[g]?=some (.cells vs.toArray 85 (0,0)))(hvs:vs.length≤100)(hL:Jp w vs Ls)(hn:Ls.flatten.length≤140737488355328):
  Calls aB 76 #[.slice (some ⟨g,0,none⟩) vs.length vs.length] w fun e w'=> ∃v,e=.returned v∧Au w.heap.size w' v Ls.flatten∧Below w.heap.size w w':=by
 obtain⟨n,hnn⟩:=eX vs.length;have HN:Hid (n=vs.length):=hnn;have HL:Hid (Jp w vs Ls):=hL;have HG:Hid (w.heap[g]?=some (.cells vs.toArray 85 (0,0))):=hg;have hgl:g<w.heap.size:=(gS hg)
 have HF:Hid (∀k L,Ls[k]?=some L→(Ls.take k).flatten.length+L.length≤140737488355328):=fun k L h=>by
  have h1:=O5 Ls (k+1);rw[Mq h,aN] at h1;omega
 rw[←hnn] at hvs ⊢;clear hnn hL hg hn;go_enter Tryz.func76,Tryz.ntmps76;go_wp2_with fail;go_loopw [3,8] (fun o i W=> ∃k:Nat,k≤n∧i=.int .i64 k∧Au w.heap.size W o (Ls.take k).flatten∧Below w.heap.size w W) (fun _ i _=>n-(intOf i).toNat)
 case atStart=>exact⟨0,aR _,rfl,by simpa using Au.nil _ _,aO _ _⟩
 case round=>
  obtain⟨k,hk,rfl,ho,hb⟩:=hrel;have hsl:=ho.sl.slice;obtain⟨D,hD⟩:=eX ((Ls.take k).flatten);have HD:Hid (D=(Ls.take k).flatten):=hD;rw[←hD] at ho hsl;obtain⟨m,hm⟩:=eX D.length;have HM:Hid (m=D.length):=hm;rw[←hm] at hsl;obtain⟨o3,cap3,rfl,_,_⟩:=hsl;have HO:Hid (Au w.heap.size wr (.slice o3 m cap3) D):=ho;have HB:Hid (Below w.heap.size w wr):=hb;by_cases hlt:k<n
  ·have hkv:k<vs.length:=by rw[←HN.out];exact hlt
   obtain⟨L,hLk,hLs⟩:=HL.out.at k hkv;obtain⟨u,hu⟩:=eX (vs[k]);have hU:Be wr u L:=by rw[hu];exact hLs.below hb
   have hc:wr.cell? ⟨g,k,none⟩=some u:=by
    rw[cell_of_row _ _ _ _ _ _ ((hb.block g hgl).trans HG.out),hu];simp[hkv]
   obtain⟨l,hl⟩:=eX L.length;have HLL:Hid (l=L.length):=hl;have hsl:=hU.slice;rw[←hl] at hsl;clear hu;obtain⟨ou,capu,rfl,_,_⟩:=hsl;have HU:Hid (Be wr (.slice ou l capu) L):=hU;have HFK:Hid (D.length+L.length≤140737488355328):=by rw[HD.out];exact HF.out k L hLk
   have HFT:Hid ((Ls.take (k+1)).flatten=D++L):=by rw[HD.out];exact Mq hLk
   have hsz:=hb.size;clear hLs hU ho hb hkv hLk hD hm hl
   go_wp2_with (first
    | (at_builtin;refine Fd ?_))
   unfold Hg;refine FD rfl _ _ rfl w.heap.size (.slice o3 m cap3) (.slice ou l capu) D L rfl HO.out rfl HU.out HFK.out (by omega) ?_;intro v' w' ho' hgr _;have HO2:Hid (Au w.heap.size w' v' (Ls.take (k+1)).flatten):=by rw[HFT.out];exact ho'
   have HB2:Hid (Below w.heap.size w w'):=HB.out.grown hgr hsz fun q hq=>(HO.out.ge q hq).1;simp only[pU];clear ho' hgr;go_wp2_with fail;go_roundw
   case rel=>exact⟨k+1,by omega,by go_num,HO2.out,HB2.out⟩
   case measure=>simp[intOf];omega
  ·obtain rfl:k=n:=by omega
   clear ho hb hD hm;go_wp2_with fail;go_ret;refine⟨_,rfl,?_,HB.out⟩;have:=HO.out;rw[HD.out,HN.out,HL.out.len,bY] at this;exact this
def FH(L:List UInt8)(n:Nat)(s:Int):List UInt8×Int:=if Gp s=true then if n<256 ^ s.toNat then (L++BY s.toNat n,0) else ([],10) else ([],1)
def G9(L:List UInt8)(p s:Int):Nat×Int:=if Gp s=true∧0≤p then if p+s≤L.length then (CY ((L.drop p.toNat).take s.toNat),0) else (0,12) else (0,1)
theorem LA(s:Int):Gp s=true↔1≤s∧s≤8:=by unfold Gp;simp
theorem JB{ops:Array Oper}{rest:List Oper}{o:Oper}{a:Act}{w:World}{Q:Exit→Act→World→Prop}(hg:o.guard=none)(len:Nat)(parts:Array (Nat×Operand))(ho:o.op=.buildSlice 167 len parts)(vs:Array Value)
  (hlen:¬len>2 ^ 24) (h0:len≠0) (hf:Instr.fill (fun i=>some (i*1,1)) ((Array.range (len*1)).map ((Value.slice none 0 0).cells[· % (Value.slice none 0 0).cells.size]!)) (parts.map fun(i,x)=>(i,a.eval x)).toList=some vs)
  (h:wpList aB ops Q rest (a.put o.dst (.slice (some ⟨w.heap.size,0,none⟩) len len)) (w.alloc (.cells vs 85))):wpList aB ops Q (o::rest) a w:=by
 have hq:(aB.info? 85).map (fun i=>(i.zero,i.size))=some (some (.slice none 0 0),1):=by kernel_rfl
 cases hi:aB.info? 85 with
 | none=>rw[hi] at hq;simp at hq
 | some i=>
  rw[hi] at hq;simp only[aT,aH,Prod.mk.injEq] at hq;refine wpList_buildSlice hg 167 85 len parts ho vs i (.slice none 0 0) Tryz.underlying167 hi hq.1 (by rw[hq.2];omega) (by rw[hq.2];omega) (by rw[hq.2];exact hf) h
theorem Abp(n m:Nat)(h:n<256 ^ m):((n:Int)/2 ^ (m*8)==0)=true:=by
 have e:(2:Int) ^ (m*8)=((256 ^ m:Nat):Int):=by
  rw[bR,bU];simp
 rw[e,beq_iff_eq, ←cA,Nat.div_eq_of_lt h];rfl
theorem Abo(n m:Nat)(h:¬n<256 ^ m):((n:Int)/2 ^ (m*8)==0)=false:=by
 have e:(2:Int) ^ (m*8)=((256 ^ m:Nat):Int):=by
  rw[bR,bU];simp
 rw[e, ←cA];have h1:1≤n/256 ^ m:=(Nat.le_div_iff_mul_le (Nat.pow_pos (by decide))).2 (by omega);rw[beq_eq_false_iff_ne];omega
theorem Ac1(v:Value)(L:List UInt8)(n:Nat)(s:Int)(w:World)(hL:Be w v L)(hl:L.length≤140737488351232):
  Calls aB 126 #[v,.int .u64 (n:Int),.int .i64 s] w fun e w'=> ∃u,e=.returned (.tuple #[u,.int .i64 (FH L n s).2])∧Au w.heap.size w' u (FH L n s).1∧Below w.heap.size w w':=by
 have C1:Hid (∀W,Calls aB 101 #[.int .i64 s] W fun e w'=>e=.returned (.bool (Gp s))∧w'=W):=QX s;have HL:Hid (Be w v L):=hL;obtain⟨ov,nv,cv,rfl⟩:∃o n c,v=.slice o n c:=by obtain⟨o,c,h,_⟩:=hL.slice;exact⟨o,_,c,h⟩
 clear hL;by_cases hc:Gp s=true
 ·rw[hc] at C1;have hs:=(LA s).1 hc;obtain⟨m,rfl⟩:∃m:Nat,s=m:=⟨s.toNat,by omega⟩;have hs1:1≤(m:Int):=hs.1;have hs2:(m:Int)≤8:=hs.2;by_cases hr:n<256 ^ m
  ·have HP:Hid (FH L n m=(L++BY m n,0)):=by show _=_;unfold FH;rw[if_pos hc,if_pos (by simpa using hr)];simp
   have hsh:=Abp n m hr;have CD:Hid (∀W,Calls aB 125 #[.int .u64 (n:Int),.int .i64 (m:Int)] W fun e w'=> ∃v,e=.returned v∧Au W.heap.size w' v (BY m n)∧Below W.heap.size W w'):=Lz n m (by omega)
   have HJ:Hid (∀(g:Nat) (u:Value) (W:World),W.heap[g]?=some (.cells #[.slice ov nv cv,u] 85 (0,0))→Be W (.slice ov nv cv) L→Be W u (BY m n)→Calls aB 76 #[.slice (some ⟨g,0,none⟩) 2 2] W fun e w'=> ∃v,e=.returned v∧Au W.heap.size w' v (L++BY m n)∧Below W.heap.size W w'):=fun g u W h1 h2 h3=>by
    refine(JN g [.slice ov nv cv,u] [L,BY m n] W h1 (by simp) ⟨h2,h3,trivial⟩ ?_).mono ?_
    ·simp[E9];omega
    ·rintro e w' ⟨u,rfl,h4,h5⟩;exact⟨u,rfl,by simpa using h4,h5⟩
   clear hc hs hr hl;go_enter bS,bI
   go_wp2_with (first
    | (go_at_call 101;refine(C1.out _).mono ?_;rintro e w1 ⟨rfl,rfl⟩))
   refine(CD.out _).mono ?_;rintro e w2 ⟨u,rfl,ho,hb⟩;have HU:Hid (Be w2 u (BY m n)):=ho.sl;obtain⟨ou,nu,cu,rfl⟩:∃o n c,u=.slice o n c:=by obtain⟨o,c,h,_⟩:=ho.sl.slice;exact⟨o,_,c,h⟩
   have HV:Hid (Be w2 (.slice ov nv cv) L):=HL.out.below hb;have HB:Hid (Below w1.heap.size w1 w2):=hb;have hsz:=hb.size;clear ho hb;go_wp2_with (refine JB rfl 2 _ rfl #[.slice ov nv cv,.slice ou nu cu] (by decide) (by decide) rfl ?_);refine(HJ.out w2.heap.size (.slice ou nu cu) _ (Ac _ _ _ rfl) (HV.out.alloc _) (HU.out.alloc _)).mono ?_;rintro e w3 ⟨x,rfl,ho,hb⟩;have HO:Hid (Au w1.heap.size w3 x (L++BY m n)):=ho.base (by simp;omega);have HB3:Hid (Below w1.heap.size w1 w3):=(HB.out.alloc hsz _).trans (hb.mono (by simp;omega));clear ho hb;go_wp2_with fail;go_ret2;rw[HP.out];exact⟨x,rfl,HO.out,HB3.out⟩
  ·have HP:Hid (FH L n m=([],10)):=by show _=_;unfold FH;rw[if_pos hc,if_neg (by simpa using hr)]
   have hsh:=Abo n m hr;clear hc hs hr hl;go_enter bS,bI
   go_wp2_with (first
    | (go_at_call 101;refine(C1.out _).mono ?_;rintro e w1 ⟨rfl,rfl⟩))
   go_ret2;rw[HP.out];exact⟨_,rfl,Au.nil _ _,aO _ _⟩
 ·have HP:Hid (FH L n s=([],1)):=by show _=_;unfold FH;rw[if_neg hc]
  have hc':Gp s=false:=by simpa using hc
  rw[hc'] at C1;clear hc hc' hl;go_enter bS,bI
  go_wp2_with (first
   | (go_at_call 101;refine(C1.out _).mono ?_;rintro e w1 ⟨rfl,rfl⟩))
  go_ret2;rw[HP.out];exact⟨_,rfl,Au.nil _ _,aO _ _⟩
end
end Go.Proofs.YtbhkoipcpcoooabGreat
