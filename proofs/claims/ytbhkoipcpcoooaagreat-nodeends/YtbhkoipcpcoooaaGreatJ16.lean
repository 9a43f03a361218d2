import Derived.Test.YtbhkoipcpcoooaaGreatJ11
import Derived.Test.YtbhkoipcpcoooaaGreatJ12
import Derived.Test.YtbhkoipcpcoooaaGreatJ15
import Derived.Test.YtbhkoipcpcoooaaGreatJ1
import Derived.Test.YtbhkoipcpcoooaaGreatJ3
import Derived.Deep.Slices
import Derived.Test.YtbhkoipcpcoooaaGreatJ10
import Derived.SizedLaws
import Derived.Test.YtbhkoipcpcoooaaGreatJ8
namespace Go.Proofs.YtbhkoipcpcoooaaGreat
set_option maxRecDepth 20000
set_option maxHeartbeats 64000000
open Go
open Go.Proofs.Tryz renaming prog → aA, func109 → bE
open _root_.Option.some renaming inj → aB
open _root_.List renaming setIfInBounds_toArray → aC, set_cons_succ → aI, set_cons_zero → aJ, length_append → aK, getElem?_eq_some_iff → aT, length_drop → aX, getElem?_eq_none → aZ, size_toArray → bF, not_mem_nil → bH, length_take → bI, foldl_cons → bJ, foldl_nil → bK
open _root_.Nat renaming le_refl → aD, zero_add → bC, le_trans → bD
open Go.Instr renaming fieldAt → aG, build → bG, storeAt → bN
open Go.RowKit.Below renaming refl → aH
open _root_.Array renaming length_toList → aL, all_eq_true_iff_forall_mem → aM, setIfInBounds_append_left → aN, getElem?_append_left → aO, getElem?_eq_getElem → aR
open Go.Result renaming andThen_ok → aP
open Go.Builtin renaming zeroCells → aQ, clear_ → aY
open Go.Act renaming put → aV
open Go.Addr renaming add → aW
open Go.Sem renaming run_bind → bA, run_pure → bB
section
open Go.RowKit
theorem Ab4{c:AP}(W:World)(p:Nat)(h:W.heap[p]?=some (.cells (Bj c) 72 (0,0))):(Instr.loadAt 72 (.pointer (some ⟨p,0,none⟩))).run aA W=.ok (.agg (Bj c)) W:=by
  simp only[Instr.loadAt,Instr.sureAddr,bA,bB,aP];exact Jr.load W p 0 _ _ _ (Bj c) (IB c) h fun j _=>by rw[bC]
theorem Yz{o:Oper}{s t:Nat}{x:Operand}(ho:o.op=.convert s t x)(a:Act)(W:World)(u v:Value)(hu:a.eval x=u)(h:(convert s t u).run aA W=.ok v W):(execOp a.eval o).run aA W=.ok (.value v) W:=by
  unfold execOp;simp only[ho,bA,hu,h,aP,bB]
theorem Acf(num t:Int)(bs:List UInt8)(W:World):(bG 76 #[(0,.int .i64 num),(1,.int .i64 t),(2,.string ⟨bs.toArray⟩)]).run aA W=.ok (.agg (KV num (t,bs))) W:=by
  unfold KV;kernel_rfl
def Aml:List Oper:=[
  { dst := some 9, op := .move (.tmp 0), type := 27, pos := "say.go:11", after := #[], guard := none },
  { dst := some 10, op := .move (.tmp 0), type := 27, pos := "say.go:11", after := #[], guard := none },
  { dst := some 11, op := .nilCheck (.tmp 10), type := 0, pos := "say.go:11", after := #[{ on := 1, ground := .data }], guard := none },
  { dst := some 12, op := .fieldAddr 91 (.tmp 11) 8, type := 0, pos := "say.go:11", after := #[{ on := 2, ground := .data }], guard := none },
  { dst := some 13, op := .load 48 (.tmp 12), type := 48, pos := "say.go:11", after := #[{ on := 3, ground := .data }], guard := none },
  { dst := some 14, op := .load 72 (.tmp 3), type := 72, pos := "say.go:11", after := #[], guard := none },
  { dst := some 15, op := .buildSlice 48 1 #[(0, .tmp 14)], type := 48, pos := "say.go:11", after := #[{ on := 5, ground := .data }], guard := none },
  { dst := some 16, op := .call { callee := .builtin .append, args := #[.tmp 13, .tmp 15], argTypes := #[48, 48] }, type := 48, pos := "say.go:11", after := #[{ on := 4, ground := .data }, { on := 6, ground := .data }], guard := none },
  { dst := some 17, op := .nilCheck (.tmp 9), type := 0, pos := "say.go:11", after := #[{ on := 0, ground := .data }, { on := 0, ground := .phase }, { on := 1, ground := .phase }, { on := 2, ground := .phase }, { on := 3, ground := .phase }, { on := 4, ground := .phase }, { on := 5, ground := .phase }, { on := 6, ground := .phase }, { on := 7, ground := .phase }], guard := none },
  { dst := some 18, op := .fieldAddr 91 (.tmp 17) 8, type := 0, pos := "say.go:11", after := #[{ on := 8, ground := .data }, { on := 0, ground := .phase }, { on := 1, ground := .phase }, { on := 2, ground := .phase }, { on := 3, ground := .phase }, { on := 4, ground := .phase }, { on := 5, ground := .phase }, { on := 6, ground := .phase }, { on := 7, ground := .phase }], guard := none },
  { dst := none, op := .store 48 (.tmp 18) (.tmp 16), type := 0, pos := "say.go:11", after := #[{ on := 9, ground := .data }, { on := 7, ground := .data }, { on := 7, ground := .chain }, { on := 0, ground := .phase }, { on := 1, ground := .phase }, { on := 2, ground := .phase }, { on := 3, ground := .phase }, { on := 4, ground := .phase }, { on := 5, ground := .phase }, { on := 6, ground := .phase }, { on := 7, ground := .phase }], guard := none }]
def QM:List Nat:=[9,10,11,12,13,14,15,16,17,18]
def QL(g B H:Nat)(c:AP)(vv:Value)(C:List AP)(j:Nat)(v:Value)(w:World):Prop:=
  match j with
  | 0=>v=.pointer (some ⟨g,0,none⟩)
  | 1=>v=.pointer (some ⟨g,0,none⟩)
  | 2=>v=.pointer (some ⟨g,0,none⟩)
  | 3=>v=.pointer (some ⟨g,8,none⟩)
  | 4=>v=vv
  | 5=>v=.agg (Bj c)
  | 6=> ∃k,v=.slice (some ⟨k,0,none⟩) 1 1∧H≤k∧w.heap[k]?=some (.cells (Bj c) 72 (0,0))
  | 7=>BJ B w v (C++[c])∧(v.ownBlock=vv.ownBlock∨∀k,v.ownBlock=some k→H≤k)
  | 8=>v=.pointer (some ⟨g,0,none⟩)
  | 9=>v=.pointer (some ⟨g,8,none⟩)
  | _=>True
theorem Aih(g B H:Nat)(c:AP)(vv:Value)(C:List AP):∀j v w w',QL g B H c vv C j v w→Below w.heap.size w w'→QL g B H c vv C j v w':=by
  intro j v w w' h hb;revert h;unfold QL
  split <;> intro h <;> first
    | exact h
    | (obtain⟨k,h1,h2,h3⟩:=h
       exact⟨k,h1,h2,(hb.block k (gS h3)).trans h3⟩)
    | exact⟨h.1.below hb,h.2⟩
theorem S4{id:Nat}{Q:Exit→Act→World→Prop}{a0:Act}{w0:World}(hs:19≤a0.tmps.size)(g p B:Nat)(c:AP)(vv:Value)(C:List AP)(cs:Array Value)
    (ho0:a0.eval (.tmp 0)=.pointer (some ⟨g,0,none⟩)) (ho3:a0.eval (.tmp 3)=.pointer (some ⟨p,0,none⟩))
    (hg:w0.heap[g]?=some (.cells cs 91 (0,0))) (hc8:cs[8]?=some (vv)) (hp:w0.heap[p]?=some (.cells (Bj c) 72 (0,0))) (nrp:¬BT vv p)
    (hrow:BJ B w0 vv C) (hB:B≤w0.heap.size) (hlen:C.length≤1000000)
    (hK:∀y w' u,As (BT vv) w0 w'→BJ B w' u (C++[c])→(u.ownBlock=vv.ownBlock∨∀k,u.ownBlock=some k→w0.heap.size≤k)→Q .normal (JB QM y a0) (w'.setCell ⟨g,8,none⟩ u)):(Code.region id Aml.toArray true).wp aA Q a0 w0:=by
  have hDs:∀d∈QM,d<a0.tmps.size:=fun d hd=>by
    have:d<19:=by
      revert hd;unfold QM;intro hd;simp only[List.mem_cons,bH,or_false] at hd;omega
    omega
  have fa8:∀W,(aG 91 (.pointer (some ⟨g,0,none⟩)) 8).run aA W=.ok (.pointer (some ⟨g,8,none⟩)) W:=fun W=>by simp[go_sem]
  have nrg:¬BT vv g:=JC hrow hg (by decide);have frm:∀w,As (BT vv) w0 w→w.heap[g]?=some (.cells cs 91 (0,0))∧w.heap[p]?=some (.cells (Bj c) 72 (0,0))∧w0.heap.size≤w.heap.size:=fun w h=>⟨h.heap hg nrg,h.heap hp nrp,h.size⟩
  have frb:∀(b:Bool) (w:World),(if b then As (BT vv) w0 w else Below w0.heap.size w0 w)→As (BT vv) w0 w:=fun b w h=>by
    cases b with
    | true=>exact h
    | false=>exact As.of_below h
  refine NU 10 7 (QL g B w0.heap.size c vv C) (fun b w=>if b then As (BT vv) w0 w else Below w0.heap.size w0 w) QM (by kernel_rfl) (by decide) rfl (by kernel_rfl) (by decide) hDs (by kernel_rfl) (by kernel_rfl) (Aih g B w0.heap.size c vv C) ?_ ?_ ?_ ?_ ?_
  · intro b w w' h hb
    cases b with
    | true=>exact As.add h hb
    | false=>exact Below.trans h (hb.mono (Below.size h))
  · exact(aH _ _).drew
  · intro j o ho hj hjm b a w h;have kw:=frm w (frb b w h.wld);have kws:=kw.2.2;rcases(show j=0∨j=1∨j=2∨j=3∨j=4∨j=5∨j=6∨j=8∨j=9 by omega) with rfl | rfl | rfl | rfl | rfl | rfl | rfl | rfl | rfl
    · obtain rfl:=aB ho;have f0:a.eval (.tmp 0)=.pointer (some ⟨g,0,none⟩):=(h.other 0 (by decide)).trans ho0;exact Cf rfl rfl _ (EA rfl _ _ _ f0) rfl
    · obtain rfl:=aB ho;have f0:a.eval (.tmp 0)=.pointer (some ⟨g,0,none⟩):=(h.other 0 (by decide)).trans ho0;exact Cf rfl rfl _ (EA rfl _ _ _ f0) rfl
    · obtain rfl:=aB ho;have f0:a.eval (.tmp 10)=.pointer (some ⟨g,0,none⟩):=h.has ⟨1,.data⟩ (by simp) rfl _ 10 rfl rfl;exact Cf rfl rfl _ (GB rfl _ _ _ f0) rfl
    · obtain rfl:=aB ho;have f0:a.eval (.tmp 11)=.pointer (some ⟨g,0,none⟩):=h.has ⟨2,.data⟩ (by simp) rfl _ 11 rfl rfl;exact Cf rfl rfl _ (FSx rfl _ _ _ ((congrArg (fun y=>(aG 91 y 8).run aA w) f0).trans (fa8 w))) rfl
    · obtain rfl:=aB ho;have f0:a.eval (.tmp 12)=.pointer (some ⟨g,8,none⟩):=h.has ⟨3,.data⟩ (by simp) rfl _ 12 rfl rfl;exact Cf rfl rfl _ (GC rfl _ _ _ _ f0 (Nw (e:=72) Tryz.underlying48 _ _ _ (by rw[cell_of_row _ _ _ _ _ _ kw.1];exact hc8))) rfl
    · obtain rfl:=aB ho;have f0:a.eval (.tmp 3)=.pointer (some ⟨p,0,none⟩):=(h.other 3 (by decide)).trans ho3;exact Cf rfl rfl _ (GC rfl _ _ _ _ f0 (Ab4 _ _ kw.2.1)) rfl
    · obtain rfl:=aB ho;have f0:a.eval (.tmp 14)=.agg (Bj c):=h.has ⟨5,.data⟩ (by simp) rfl _ 14 rfl rfl;refine Uh rfl ?_;refine Ki (E:=Hm) Jr rfl _ rfl (Bj c) (IB c) f0 ?_;exact⟨_,rfl,(aH _ _).alloc (aD _) _,fun _ _=>⟨_,rfl,kws,Ab _ _ _ rfl⟩⟩
    · obtain rfl:=aB ho;have f0:a.eval (.tmp 9)=.pointer (some ⟨g,0,none⟩):=h.has ⟨0,.data⟩ (by simp) rfl _ 9 rfl rfl;exact Cf rfl rfl _ (GB rfl _ _ _ f0) rfl
    · obtain rfl:=aB ho;have f0:a.eval (.tmp 17)=.pointer (some ⟨g,0,none⟩):=h.has ⟨8,.data⟩ (by simp) rfl _ 17 rfl rfl;exact Cf rfl rfl _ (FSx rfl _ _ _ ((congrArg (fun y=>(aG 91 y 8).run aA w) f0).trans (fa8 w))) rfl
  · intro o ho a w h;obtain rfl:=aB ho;have hb:Below w0.heap.size w0 w:=h.wld;have g1:a.eval (.tmp 13)=vv:=h.has ⟨4,.data⟩ (by simp) rfl _ 13 rfl rfl;obtain⟨k,g2,g3,g4⟩:∃k,a.eval (.tmp 15)=.slice (some ⟨k,0,none⟩) 1 1∧w0.heap.size≤k∧w.heap[k]?=some (.cells (Bj c) 72 (0,0)):=h.has ⟨6,.data⟩ (by simp) rfl _ 15 rfl rfl;have hown:BJ B w vv C:=hrow.below hb;refine Et rfl ?_;refine KC (E:=Hm) Jr Bj rfl _ _ rfl B vv C c (P8 c) g1 hown k 1 g2 g4 (by omega) (bD hB hb.size) ?_;intro v' w3 hown3 hgr3 hq3;have k3:As (BT vv) w0 w3:=(As.of_below hb).trans (As.of_grown hgr3 fun k e=>e) fun k e=> .inl e;refine⟨v',rfl,k3,?_,fun _ _=>⟨hown3,?_⟩⟩
    · intro j z hj;unfold QL
      split <;> intro hz <;> first
        | exact hz
        | exact absurd rfl hj
        | (obtain⟨k,q1,q2,q3⟩:=hz
           exact⟨k,q1,q2,(hgr3.block k (gS q3) (fun hq=>by have:=(hrow.lt k hq.symm).2;omega)).trans q3⟩)
    · rcases hq3 with e | e
      · exact .inl e
      · exact .inr fun k e'=>by rw[e] at e';have:=aB e';have:=hb.size;omega
  · intro a w hI hsz hdf hot hh;have kw:As (BT vv) w0 w:=hI;have hvm:QL g B w0.heap.size c vv C 7 (a.eval (.tmp 16)) w:=hh 7 _ 16 (by decide) rfl rfl;obtain⟨q1,q2⟩:=hvm;have q3:a.eval (.tmp 18)=.pointer (some ⟨g,8,none⟩):=hh 9 _ 18 (by decide) rfl rfl;obtain⟨v',hv'⟩:∃v',a.eval (.tmp 16)=v':=⟨_,rfl⟩;rw[hv'] at q1 q2;obtain⟨o3,cap3,hv3⟩:=Pi q1;have c3:w.cell? ⟨g,8,none⟩=some vv:=by rw[cell_of_row _ _ _ _ _ _ (frm w kw).1];exact hc8
    have hst:(bN 48 (.pointer (some ⟨g,8,none⟩)) v').run aA w=.ok () (w.setCell ⟨g,8,none⟩ v'):=OF (ty:=48) (fun W=>Tryz.sizeOf48 W) w ⟨g,8,none⟩ v' vv ⟨o3,_,cap3,hv3⟩ c3 (FZ (frm w kw).1 rfl);refine Gx (w':=w.setCell ⟨g,8,none⟩ v') rfl rfl (NT rfl _ _ _ _ _ q3 hv' hst) rfl ?_;show Q .normal a (w.setCell ⟨g,8,none⟩ v');rw[PX hsz hdf hot hDs];exact hK _ w v' kw q1 q2
def Amk:List Oper:=[
  { dst := some 13, op := .move (.tmp 0), type := 27, pos := "say.go:18", after := #[], guard := none },
  { dst := some 14, op := .move (.tmp 0), type := 27, pos := "say.go:18", after := #[], guard := none },
  { dst := some 15, op := .nilCheck (.tmp 14), type := 0, pos := "say.go:18", after := #[{ on := 1, ground := .data }], guard := none },
  { dst := some 16, op := .fieldAddr 91 (.tmp 15) 7, type := 0, pos := "say.go:18", after := #[{ on := 2, ground := .data }], guard := none },
  { dst := some 17, op := .load 53 (.tmp 16), type := 53, pos := "say.go:18", after := #[{ on := 3, ground := .data }], guard := none },
  { dst := some 18, op := .move (.tmp 0), type := 27, pos := "say.go:18", after := #[], guard := none },
  { dst := some 19, op := .nilCheck (.tmp 18), type := 0, pos := "say.go:18", after := #[{ on := 5, ground := .data }], guard := none },
  { dst := some 20, op := .fieldAddr 91 (.tmp 19) 0, type := 0, pos := "say.go:18", after := #[{ on := 6, ground := .data }], guard := none },
  { dst := some 21, op := .load 3 (.tmp 20), type := 3, pos := "say.go:18", after := #[{ on := 7, ground := .data }], guard := none },
  { dst := some 22, op := .move (.tmp 1), type := 3, pos := "say.go:18", after := #[], guard := none },
  { dst := some 23, op := .move (.tmp 6), type := 70, pos := "say.go:18", after := #[], guard := none },
  { dst := some 24, op := .convert 70 9 (.tmp 23), type := 9, pos := "say.go:18", after := #[{ on := 10, ground := .data }], guard := none },
  { dst := some 25, op := .build 76 #[(0, .tmp 21), (1, .tmp 22), (2, .tmp 24)], type := 76, pos := "say.go:18", after := #[{ on := 8, ground := .data }, { on := 9, ground := .data }, { on := 11, ground := .data }], guard := none },
  { dst := some 26, op := .buildSlice 53 1 #[(0, .tmp 25)], type := 53, pos := "say.go:18", after := #[{ on := 12, ground := .data }], guard := none },
  { dst := some 27, op := .call { callee := .builtin .append, args := #[.tmp 17, .tmp 26], argTypes := #[53, 53] }, type := 53, pos := "say.go:18", after := #[{ on := 4, ground := .data }, { on := 13, ground := .data }], guard := none },
  { dst := some 28, op := .nilCheck (.tmp 13), type := 0, pos := "say.go:18", after := #[{ on := 0, ground := .data }, { on := 0, ground := .phase }, { on := 1, ground := .phase }, { on := 2, ground := .phase }, { on := 3, ground := .phase }, { on := 4, ground := .phase }, { on := 5, ground := .phase }, { on := 6, ground := .phase }, { on := 7, ground := .phase }, { on := 8, ground := .phase }, { on := 9, ground := .phase }, { on := 10, ground := .phase }, { on := 11, ground := .phase }, { on := 12, ground := .phase }, { on := 13, ground := .phase }, { on := 14, ground := .phase }], guard := none },
  { dst := some 29, op := .fieldAddr 91 (.tmp 28) 7, type := 0, pos := "say.go:18", after := #[{ on := 15, ground := .data }, { on := 0, ground := .phase }, { on := 1, ground := .phase }, { on := 2, ground := .phase }, { on := 3, ground := .phase }, { on := 4, ground := .phase }, { on := 5, ground := .phase }, { on := 6, ground := .phase }, { on := 7, ground := .phase }, { on := 8, ground := .phase }, { on := 9, ground := .phase }, { on := 10, ground := .phase }, { on := 11, ground := .phase }, { on := 12, ground := .phase }, { on := 13, ground := .phase }, { on := 14, ground := .phase }], guard := none },
  { dst := none, op := .store 53 (.tmp 29) (.tmp 27), type := 0, pos := "say.go:18", after := #[{ on := 16, ground := .data }, { on := 14, ground := .data }, { on := 14, ground := .chain }, { on := 0, ground := .phase }, { on := 1, ground := .phase }, { on := 2, ground := .phase }, { on := 3, ground := .phase }, { on := 4, ground := .phase }, { on := 5, ground := .phase }, { on := 6, ground := .phase }, { on := 7, ground := .phase }, { on := 8, ground := .phase }, { on := 9, ground := .phase }, { on := 10, ground := .phase }, { on := 11, ground := .phase }, { on := 12, ground := .phase }, { on := 13, ground := .phase }, { on := 14, ground := .phase }], guard := none }]
def SY:List Nat:=[13,14,15,16,17,18,19,20,21,22,23,24,25,26,27,28,29]
def QK(g B H:Nat)(num t:Int)(bs:List UInt8)(vb vv:Value)(C:List (Int×List UInt8))(j:Nat)(v:Value)(w:World):Prop:=
  match j with
  | 0=>v=.pointer (some ⟨g,0,none⟩)
  | 1=>v=.pointer (some ⟨g,0,none⟩)
  | 2=>v=.pointer (some ⟨g,0,none⟩)
  | 3=>v=.pointer (some ⟨g,7,none⟩)
  | 4=>v=vv
  | 5=>v=.pointer (some ⟨g,0,none⟩)
  | 6=>v=.pointer (some ⟨g,0,none⟩)
  | 7=>v=.pointer (some ⟨g,0,none⟩)
  | 8=>v=.int .i64 num
  | 9=>v=.int .i64 t
  | 10=>v=vb
  | 11=>v=.string ⟨bs.toArray⟩
  | 12=>v=.agg (KV num (t,bs))
  | 13=> ∃k,v=.slice (some ⟨k,0,none⟩) 1 1∧H≤k∧w.heap[k]?=some (.cells (KV num (t,bs)) 76 (0,0))
  | 14=>Fc B w num v (C++[(t,bs)])∧(v.ownBlock=vv.ownBlock∨∀k,v.ownBlock=some k→H≤k)
  | 15=>v=.pointer (some ⟨g,0,none⟩)
  | 16=>v=.pointer (some ⟨g,7,none⟩)
  | _=>True
theorem Aig(g B H:Nat)(num t:Int)(bs:List UInt8)(vb vv:Value)(C:List (Int×List UInt8)):∀j v w w',QK g B H num t bs vb vv C j v w→Below w.heap.size w w'→QK g B H num t bs vb vv C j v w':=by
  intro j v w w' h hb;revert h;unfold QK
  split <;> intro h <;> first
    | exact h
    | (obtain⟨k,h1,h2,h3⟩:=h
       exact⟨k,h1,h2,(hb.block k (gS h3)).trans h3⟩)
    | exact⟨h.1.below hb,h.2⟩
theorem Aay{id:Nat}{Q:Exit→Act→World→Prop}{a0:Act}{w0:World}(hs:30≤a0.tmps.size)(g B:Nat)(num t:Int)(bs:List UInt8)(vb:Value)(vv:Value)(C:List (Int×List UInt8))(cs:Array Value)
    (ho0:a0.eval (.tmp 0)=.pointer (some ⟨g,0,none⟩)) (ho1:a0.eval (.tmp 1)=.int .i64 t) (ho6:a0.eval (.tmp 6)=vb)
    (hg:w0.heap[g]?=some (.cells cs 91 (0,0))) (hc0:cs[0]?=some (.int .i64 num)) (hc7:cs[7]?=some (vv)) (hbs:Br w0 vb bs) (hvb:∀k,vb.ownBlock=some k→¬BT vv k)
    (hrow:Fc B w0 num vv C) (hB:B≤w0.heap.size) (hlen:C.length≤1000000)
    (hK:∀y w' u,As (BT vv) w0 w'→Fc B w' num u (C++[(t,bs)])→(u.ownBlock=vv.ownBlock∨∀k,u.ownBlock=some k→w0.heap.size≤k)→Q .normal (JB SY y a0) (w'.setCell ⟨g,7,none⟩ u)):(Code.region id Amk.toArray true).wp aA Q a0 w0:=by
  have hDs:∀d∈SY,d<a0.tmps.size:=fun d hd=>by
    have:d<30:=by
      revert hd;unfold SY;intro hd;simp only[List.mem_cons,bH,or_false] at hd;omega
    omega
  have fa0:∀W,(aG 91 (.pointer (some ⟨g,0,none⟩)) 0).run aA W=.ok (.pointer (some ⟨g,0,none⟩)) W:=fun W=>by simp[go_sem]
  have fa7:∀W,(aG 91 (.pointer (some ⟨g,0,none⟩)) 7).run aA W=.ok (.pointer (some ⟨g,7,none⟩)) W:=fun W=>by simp[go_sem]
  have nrg:¬BT vv g:=JC hrow hg (by decide);have frm:∀w,As (BT vv) w0 w→w.heap[g]?=some (.cells cs 91 (0,0))∧Br w vb bs∧w0.heap.size≤w.heap.size:=fun w h=>⟨h.heap hg nrg,hbs.of_heap fun k o ho hk=>h.heap ho (hvb k hk),h.size⟩
  have frb:∀(b:Bool) (w:World),(if b then As (BT vv) w0 w else Below w0.heap.size w0 w)→As (BT vv) w0 w:=fun b w h=>by
    cases b with
    | true=>exact h
    | false=>exact As.of_below h
  refine NU 17 14 (QK g B w0.heap.size num t bs vb vv C) (fun b w=>if b then As (BT vv) w0 w else Below w0.heap.size w0 w) SY (by kernel_rfl) (by decide) rfl (by kernel_rfl) (by decide) hDs (by kernel_rfl) (by kernel_rfl) (Aig g B w0.heap.size num t bs vb vv C) ?_ ?_ ?_ ?_ ?_
  · intro b w w' h hb
    cases b with
    | true=>exact As.add h hb
    | false=>exact Below.trans h (hb.mono (Below.size h))
  · exact(aH _ _).drew
  · intro j o ho hj hjm b a w h;have kw:=frm w (frb b w h.wld);have kws:=kw.2.2;rcases(show j=0∨j=1∨j=2∨j=3∨j=4∨j=5∨j=6∨j=7∨j=8∨j=9∨j=10∨j=11∨j=12∨j=13∨j=15∨j=16 by omega) with rfl | rfl | rfl | rfl | rfl | rfl | rfl | rfl | rfl | rfl | rfl | rfl | rfl | rfl | rfl | rfl
    · obtain rfl:=aB ho;have f0:a.eval (.tmp 0)=.pointer (some ⟨g,0,none⟩):=(h.other 0 (by decide)).trans ho0;exact Cf rfl rfl _ (EA rfl _ _ _ f0) rfl
    · obtain rfl:=aB ho;have f0:a.eval (.tmp 0)=.pointer (some ⟨g,0,none⟩):=(h.other 0 (by decide)).trans ho0;exact Cf rfl rfl _ (EA rfl _ _ _ f0) rfl
    · obtain rfl:=aB ho;have f0:a.eval (.tmp 14)=.pointer (some ⟨g,0,none⟩):=h.has ⟨1,.data⟩ (by simp) rfl _ 14 rfl rfl;exact Cf rfl rfl _ (GB rfl _ _ _ f0) rfl
    · obtain rfl:=aB ho;have f0:a.eval (.tmp 15)=.pointer (some ⟨g,0,none⟩):=h.has ⟨2,.data⟩ (by simp) rfl _ 15 rfl rfl;exact Cf rfl rfl _ (FSx rfl _ _ _ ((congrArg (fun y=>(aG 91 y 7).run aA w) f0).trans (fa7 w))) rfl
    · obtain rfl:=aB ho;have f0:a.eval (.tmp 16)=.pointer (some ⟨g,7,none⟩):=h.has ⟨3,.data⟩ (by simp) rfl _ 16 rfl rfl;exact Cf rfl rfl _ (GC rfl _ _ _ _ f0 (Nw (e:=76) Tryz.underlying53 _ _ _ (by rw[cell_of_row _ _ _ _ _ _ kw.1];exact hc7))) rfl
    · obtain rfl:=aB ho;have f0:a.eval (.tmp 0)=.pointer (some ⟨g,0,none⟩):=(h.other 0 (by decide)).trans ho0;exact Cf rfl rfl _ (EA rfl _ _ _ f0) rfl
    · obtain rfl:=aB ho;have f0:a.eval (.tmp 18)=.pointer (some ⟨g,0,none⟩):=h.has ⟨5,.data⟩ (by simp) rfl _ 18 rfl rfl;exact Cf rfl rfl _ (GB rfl _ _ _ f0) rfl
    · obtain rfl:=aB ho;have f0:a.eval (.tmp 19)=.pointer (some ⟨g,0,none⟩):=h.has ⟨6,.data⟩ (by simp) rfl _ 19 rfl rfl;exact Cf rfl rfl _ (FSx rfl _ _ _ ((congrArg (fun y=>(aG 91 y 0).run aA w) f0).trans (fa0 w))) rfl
    · obtain rfl:=aB ho;have f0:a.eval (.tmp 20)=.pointer (some ⟨g,0,none⟩):=h.has ⟨7,.data⟩ (by simp) rfl _ 20 rfl rfl;exact Cf rfl rfl _ (GC rfl _ _ _ _ f0 (Qe _ _ _ (by rw[cell_of_row _ _ _ _ _ _ kw.1];exact hc0))) rfl
    · obtain rfl:=aB ho;have f0:a.eval (.tmp 1)=.int .i64 t:=(h.other 1 (by decide)).trans ho1;exact Cf rfl rfl _ (EA rfl _ _ _ f0) rfl
    · obtain rfl:=aB ho;have f0:a.eval (.tmp 6)=vb:=(h.other 6 (by decide)).trans ho6;exact Cf rfl rfl _ (EA rfl _ _ _ f0) rfl
    · obtain rfl:=aB ho;have f0:a.eval (.tmp 23)=vb:=h.has ⟨10,.data⟩ (by simp) rfl _ 23 rfl rfl;exact Cf rfl rfl _ (Yz rfl _ _ _ _ f0 (Wz _ _ _ kw.2.1)) rfl
    · obtain rfl:=aB ho;have b0:a.eval (.tmp 21)=.int .i64 num:=h.has ⟨8,.data⟩ (by simp) rfl _ 21 rfl rfl;have b1:a.eval (.tmp 22)=.int .i64 t:=h.has ⟨9,.data⟩ (by simp) rfl _ 22 rfl rfl;have b2:a.eval (.tmp 24)=.string ⟨bs.toArray⟩:=h.has ⟨11,.data⟩ (by simp) rfl _ 24 rfl rfl;exact Cf rfl rfl _ (PV rfl _ _ #[(0,.int .i64 num),(1,.int .i64 t),(2,.string ⟨bs.toArray⟩)] (by simp only[List.map_toArray,List.map_cons,List.map_nil,b0,b1,b2]) _ (Acf num t bs w)) rfl
    · obtain rfl:=aB ho;have f0:a.eval (.tmp 25)=.agg (KV num (t,bs)):=h.has ⟨12,.data⟩ (by simp) rfl _ 25 rfl rfl;refine Uh rfl ?_;refine Ki (E:=Wa) Ah2 rfl _ rfl (KV num (t,bs)) rfl f0 ?_;exact⟨_,rfl,(aH _ _).alloc (aD _) _,fun _ _=>⟨_,rfl,kws,Ab _ _ _ rfl⟩⟩
    · obtain rfl:=aB ho;have f0:a.eval (.tmp 13)=.pointer (some ⟨g,0,none⟩):=h.has ⟨0,.data⟩ (by simp) rfl _ 13 rfl rfl;exact Cf rfl rfl _ (GB rfl _ _ _ f0) rfl
    · obtain rfl:=aB ho;have f0:a.eval (.tmp 28)=.pointer (some ⟨g,0,none⟩):=h.has ⟨15,.data⟩ (by simp) rfl _ 28 rfl rfl;exact Cf rfl rfl _ (FSx rfl _ _ _ ((congrArg (fun y=>(aG 91 y 7).run aA w) f0).trans (fa7 w))) rfl
  · intro o ho a w h;obtain rfl:=aB ho;have hb:Below w0.heap.size w0 w:=h.wld;have g1:a.eval (.tmp 17)=vv:=h.has ⟨4,.data⟩ (by simp) rfl _ 17 rfl rfl;obtain⟨k,g2,g3,g4⟩:∃k,a.eval (.tmp 26)=.slice (some ⟨k,0,none⟩) 1 1∧w0.heap.size≤k∧w.heap[k]?=some (.cells (KV num (t,bs)) 76 (0,0)):=h.has ⟨13,.data⟩ (by simp) rfl _ 26 rfl rfl;have hown:Fc B w num vv C:=hrow.below hb;refine Et rfl ?_;refine KC (E:=Wa) Ah2 (KV num) rfl _ _ rfl B vv C (t,bs) (Afa num (t,bs)) g1 hown k 1 g2 g4 (by omega) (bD hB hb.size) ?_;intro v' w3 hown3 hgr3 hq3;have k3:As (BT vv) w0 w3:=(As.of_below hb).trans (As.of_grown hgr3 fun k e=>e) fun k e=> .inl e;refine⟨v',rfl,k3,?_,fun _ _=>⟨hown3,?_⟩⟩
    · intro j z hj;unfold QK
      split <;> intro hz <;> first
        | exact hz
        | exact absurd rfl hj
        | (obtain⟨k,q1,q2,q3⟩:=hz
           exact⟨k,q1,q2,(hgr3.block k (gS q3) (fun hq=>by have:=(hrow.lt k hq.symm).2;omega)).trans q3⟩)
    · rcases hq3 with e | e
      · exact .inl e
      · exact .inr fun k e'=>by rw[e] at e';have:=aB e';have:=hb.size;omega
  · intro a w hI hsz hdf hot hh;have kw:As (BT vv) w0 w:=hI;have hvm:QK g B w0.heap.size num t bs vb vv C 14 (a.eval (.tmp 27)) w:=hh 14 _ 27 (by decide) rfl rfl;obtain⟨q1,q2⟩:=hvm;have q3:a.eval (.tmp 29)=.pointer (some ⟨g,7,none⟩):=hh 16 _ 29 (by decide) rfl rfl;obtain⟨v',hv'⟩:∃v',a.eval (.tmp 27)=v':=⟨_,rfl⟩;rw[hv'] at q1 q2;obtain⟨o3,cap3,hv3⟩:=Pi q1;have c3:w.cell? ⟨g,7,none⟩=some vv:=by rw[cell_of_row _ _ _ _ _ _ (frm w kw).1];exact hc7
    have hst:(bN 53 (.pointer (some ⟨g,7,none⟩)) v').run aA w=.ok () (w.setCell ⟨g,7,none⟩ v'):=OF (ty:=53) (fun W=>Tryz.sizeOf53 W) w ⟨g,7,none⟩ v' vv ⟨o3,_,cap3,hv3⟩ c3 (FZ (frm w kw).1 rfl);refine Gx (w':=w.setCell ⟨g,7,none⟩ v') rfl rfl (NT rfl _ _ _ _ _ q3 hv' hst) rfl ?_;show Q .normal a (w.setCell ⟨g,7,none⟩ v');rw[PX hsz hdf hot hDs];exact hK _ w v' kw q1 q2
theorem WU(x : AP)(v : Int) : (Bj x).setIfInBounds 1 (.int .i64 v) = Bj { x with at_ := v } := by
  unfold Bj
  rw[aN (by simp; omega), aN (by simp)]
  rfl
theorem ZB(x : AP) : (Bj x)[1]? = some (.int .i64 x.at_) := by
  unfold Bj
  rw[aO (by simp; omega), aO (by simp)]
  rfl
theorem OU(B : Nat)(w : World)(g gt gh gw : Nat)(R : Rm)(n : Af Aq)(r : D0)(h : Cb B w g gt gh gw R n r)(hn : n.log.length ≤ 1000000)(x : AP) :
    Calls aA 72 #[.pointer (some ⟨g, 0, none⟩),.agg (Bj x)] w fun e w' => e =.returned (.tuple #[]) ∧ Dl B w w' g gt gh gw R (Cc n x) r := by
  obtain⟨w0, hw0⟩ :∃ w0, w0 = w.alloc (.cells (Bj x) 72) :=⟨_, rfl⟩
  have B0 : Below w.heap.size w w0 := by rw[hw0]; exact(aH _ _).alloc (aD _) _
  have Z0 : w0.heap[w.heap.size]? = some (.cells (Bj x) 72 (0, 0)) := by rw[hw0]; exact Ab _ _ _ rfl
  have c0 := (h.below B0).f.c0
  have p1 : w0.cell? ⟨w.heap.size, 1, none⟩ = some (.int .i64 x.at_) := by rw[cell_of_row _ _ _ _ _ _ Z0]; exact ZB x
  have fz1 : w0.frozen? ⟨w.heap.size, 1, none⟩ = false := FZ Z0 rfl
  obtain⟨y, hy⟩ :∃ y : AP, y = { x with at_ := n.num } :=⟨_, rfl⟩
  obtain⟨w1, hw1⟩ :∃ w1, w1 = w.alloc (.cells (Bj y) 72) :=⟨_, rfl⟩
  have B1 : Below w.heap.size w w1 := by rw[hw1]; exact(aH _ _).alloc (aD _) _
  have h1 := h.below B1
  have HZ : Hid (w1.heap[w.heap.size]? = some (.cells (Bj y) 72 (0, 0))) := by show _ = _; rw[hw1]; exact Ab _ _ _ rfl
  have HX : Hid (∀ W' u, As (BT r.vn) w1 W' → BJ B W' u (n.log ++ [y]) → (u.ownBlock = r.vn.ownBlock ∨∀ k, u.ownBlock = some k → w1.heap.size ≤ k) → Dl B w (W'.setCell ⟨g, 8, none⟩ u) g gt gh gw R (Cc n x) r) := fun W' u hk hu hq => by
    have := (h1.putLog hk hu (fun k e => by rcases hq with q | q
                                            · rw[q] at e; exact .inl e
                                            · exact .inr (q k e))).pre B1
    rw[hy] at this
    exact this
  have HBK : Hid (w1.heap[g]? = some (.cells (ndV n gt gh gw r) 91 (0, 0))) := h1.blk
  have HO : Hid (BJ B w1 r.vn n.log) := h1.log
  have HB : Hid (B ≤ w1.heap.size) := h1.hw
  have HN : Hid (n.log.length ≤ 1000000) := hn
  have NP : Hid (¬ BT r.vn w.heap.size) := fun e => by have := (h.log.lt _ e).2; omega
  obtain⟨nu, hnu⟩ :∃ nu, nu = n.num :=⟨_, rfl⟩
  rw[← hnu] at c0
  have hw2 : w.alloc (.cells ((Bj x).setIfInBounds 1 (.int .i64 nu)) 72) = w1 := by rw[hw1, hy, WU, hnu]
  rw[hw0] at c0 p1 fz1
  clear hn hy h h1 B0 B1 Z0 hw0 hnu hw1
  go_enter Tryz.func72, Tryz.ntmps72
  go_wp2_with fail
  clear hw2 c0 p1 fz1
  refine S4 (by exact Nat.le_of_eq rfl) g w.heap.size B y r.vn n.log (ndV n gt gh gw r) rfl rfl HBK.out rfl HZ.out NP.out HO.out HB.out HN.out ?_
  intro y' w' u hk hr hf
  have F2 : Hid _ := HX.out w' u hk hr hf
  clear hk hr hf HX HBK HZ HO HB HN
  simp only[JB, QM, bJ, bK, aV, aC, aI, aJ]
  go_end0
  exact⟨rfl, F2.out⟩
/-- A note without a header or a cube, written out. -/
def Qa(k t i e a y : Int) : Array Value := #[.int .i64 k,.int .i64 0,.int .i64 t,.int .i64 i,.int .i64 e,.int .i64 a,.int .i64 y,.int .i64 0,.int .u8 0,.int .u8 0,.int .u8 0,.int .u8 0,.int .u8 0,.int .u8 0,.int .u8 0,.int .u8 0,.int .u8 0,.int .u8 0,.int .u8 0,.int .u8 0,.int .u8 0,.int .u8 0,.int .u8 0,.int .u8 0,.int .u8 0,.int .u8 0,.int .u8 0,.int .u8 0,.int .u8 0,.int .u8 0,.int .u8 0,.int .u8 0,.int .u8 0,.int .u8 0,.int .u8 0,.int .u8 0,.int .u8 0,.int .u8 0,.int .u8 0,.int .u8 0,.int .u8 0,.int .u8 0,.int .u8 0,.int .u8 0,.int .u8 0,.int .u8 0,.int .u8 0]
theorem Aep(k t i e a y : Int) : Bj ⟨k, 0, t, i, e, a, y, 0, Z, (Z, Z)⟩ = Qa k t i e a y := by
  unfold Bj Qa
  rw[JR]
  kernel_rfl
theorem RZ(k e a : Int)(c : List Int×List Int)(W : World) : (bG 72 #[(0,.int .i64 k), (4,.int .i64 e), (5,.int .i64 a), (9,.agg (cv (AC c.1) (AC c.2)))]).run aA W =.ok (.agg (Bj ⟨k, 0, 0, 0, e, a, 0, 0, Z, c⟩)) W := by
  unfold Bj
  rw[JR]
  kernel_rfl
theorem Gq(B : Nat)(w : World)(g gt gh gw : Nat)(R : Rm)(n : Af Aq)(r : D0)(h : Cb B w g gt gh gw R n r)(hn : n.log.length ≤ 1000000)(k t i e a y : Int) :
    Calls aA 72 #[.pointer (some ⟨g, 0, none⟩),.agg (Qa k t i e a y)] w fun e' w' => e' =.returned (.tuple #[]) ∧ Dl B w w' g gt gh gw R (Cc n ⟨k, 0, t, i, e, a, y, 0, Z, (Z, Z)⟩) r := by
  rw[← Aep]
  exact OU B w g gt gh gw R n r h hn _
end
section
open Go.ChangeAt Go.ChangeShapes Go.RowKit Go.WideElems Go.WideMaps Go.WideShapes
theorem El.Ok.cellsOf{E:El}(H:E.Ok):aA.cellsOf E.elem=E.size:=by
 obtain⟨i,h1,_,h2,_⟩:=H.info;simp[Program.cellsOf,h1,h2]
theorem Aej{E:El}(HE:E.Ok){α:Type}[Inhabited α](row:α→Array Value)(hrow:∀a,(row a).size=E.size)(Q:α→Prop){H:Type}{enc:TypeId×Value→H}{W:World}{base:Nat}{spare:Nat→Bool}{held:Bool}(Ok:DataW H→Prop)
  (elem:∀(fuel:Nat) (cs:List Value) (x:DataW H×List MemPlace),cs.length=E.size→Ok x.1→DataW.trod enc aA W base spare held fuel E.elem cs=some x→∃a,cs=(row a).toList∧Q a)
  {fuel:Nat} {v:Value} {x:DataW H×List MemPlace} (hf:DataW.trod enc aA W base spare held fuel E.slice [v]=some x) (hOk:∀es sp,x.1=.slice es sp→∀d∈es,Ok d):∃C:List α,Ee E row W v C∧∀c∈C,Q c:=by
 have hp:=HE.hp;rcases Deep.open_slice HE.hs hf with ⟨h0,_⟩ | ⟨a,len,cap,m,n,D,Pl,h0,hb,hl,hm,hmm,hxe,hx⟩
 ·obtain rfl:v=.slice none 0 0:=by simpa using h0
  exact⟨[],Ang E row W,fun c hc=>absurd hc (by simp)⟩
 ·obtain rfl:v=.slice (some a) len cap:=by simpa using h0
  rw[HE.cellsOf] at hx;have hlm:len≤m:=by rw[hmm];split <;> omega
  have each:∀i,i<len→∃c:α,Q c∧∀j,j<E.size→W.cell? (a.add (i*E.size+j))=(row c)[j]?:=fun i hi=>by
   obtain⟨cs',h1,h2⟩:=hx i (by omega);obtain⟨_,hlen,hcell⟩:=World.cells?_some h1;obtain⟨c,h3,h4⟩:=elem _ cs' _ hlen (hOk _ _ (by rw[hxe]) _ (List.mem_map.2 ⟨i,List.mem_range.2 hi,rfl⟩)) h2;refine⟨c,h4,fun j hj=> ?_⟩;have:=hcell j hj;rw[Deep.add_add] at this;rw[this,h3];simp
  obtain⟨f,hf⟩:=Deep.choose_lt each;refine⟨(List.range len).map f,⟨some a,cap,by simp,by simpa using hl,hm,fun i hi=> ?_⟩,fun c hc=> ?_⟩
  ·have hi':i<len:=by simpa using hi
   have h1:=(hf i hi').2;obtain⟨g,off,sp⟩:=a
   have hj:∀j,j<E.size→∃cur t fr,W.heap[g]?=some (.cells cur t fr)∧cur[off+i*E.size+j]?=(row (f i))[j]?∧(i*E.size+j=0→sp=none):=fun j hj=>by
    have h2:=h1 j hj;obtain⟨y,hy⟩:∃y,(row (f i))[j]?=some y:=⟨_,aR (by rw[hrow];exact hj)⟩;rw[hy] at h2 ⊢;unfold World.cell? at h2;split at h2
    ·rename_i cur t fr hq;have hbk:(aW ⟨g,off,sp⟩ (i*E.size+j)).block=g:=by unfold aW;split <;> rfl
     have hof:(aW ⟨g,off,sp⟩ (i*E.size+j)).off=off+i*E.size+j:=by unfold aW;split <;> simp_all [Nat.add_assoc]
     rw[hbk] at hq;rw[hof] at h2;split at h2
     ·cases h2
     ·rename_i hsp;refine⟨cur,t,fr,hq,h2,fun h0=> ?_⟩;unfold aW at hsp;rw[if_pos h0] at hsp;simpa using hsp
    ·cases h2
   have hsp:sp=none:=by
    obtain⟨cur,t,fr,h2,h3,h4⟩:=hj 0 hp;by_cases hi0:i=0
    ·exact h4 (by rw[hi0];simp)
    ·have h5:=(hf 0 (by omega)).2 0 hp;obtain⟨y,hy⟩:∃y,(row (f 0))[0]?=some y:=⟨_,aR (by rw[hrow];exact hp)⟩;rw[hy] at h5;unfold World.cell? at h5;split at h5
     ·split at h5
      ·cases h5
      ·rename_i hs;simpa[aW] using hs
     ·cases h5
   subst hsp;obtain⟨cur,t,fr,h2,_,_⟩:=hj 0 hp;refine⟨g,off,cur,t,fr,rfl,h2,fun j hjl=> ?_⟩;obtain⟨cur',t',fr',h3,h4,_⟩:=hj j hjl;rw[h2] at h3;obtain⟨rfl,rfl,rfl⟩:cur=cur'∧t=t'∧fr=fr':=by simpa using h3
   rw[h4];simp
  ·rw[List.mem_map] at hc;obtain⟨i,hi,rfl⟩:=hc;exact(hf i (by simpa using hi)).1
end
section
open Go.RowKit
theorem Jc(w:World)(g:Nat)(h:Bb)(hV:FY w g h):
  Calls aA 58 #[.pointer (some ⟨g,0,none⟩)] w fun x w'=>x=.returned (.int .i64 h.use)∧w'=w:=by
 obtain⟨s,h1,h2⟩:=hV;rw[←h2.use];exact Alo w g s h1
theorem Tw(w:World)(g:Nat)(h:Bb)(hV:FY w g h)(e:Int):
  Calls aA 113 #[.pointer (some ⟨g,0,none⟩),.int .i64 e] w fun x w'=>x=.returned (.tuple #[.int .i64 ((h.cnt e).1:Int),.int .i64 (h.cnt e).2])∧Below w.heap.size w w':=by
 obtain⟨s,h1,h2⟩:=hV;have:=Rq w g s h1 e;rw[h2.held e] at this;exact this
theorem Afy(w:World)(g:Nat)(h:Bb)(hV:FY w g h)(e:Int):
  Calls aA 153 #[.pointer (some ⟨g,0,none⟩),.int .i64 e] w fun x w'=>x=.returned (.bool (Hg h e))∧Below w.heap.size w w':=by
 obtain⟨s,h1,h2⟩:=hV;have:=Tm w g s h1 e;rw[Vl h2 e] at this;exact this
theorem FJ(w:World)(g:Nat)(h:Bb)(hV:FY w g h):
  (Calls aA 57 #[.pointer (some ⟨g,0,none⟩)] w fun x w'=>x=.returned (.int .i64 h.life)∧w'=w)∧(Calls aA 60 #[.pointer (some ⟨g,0,none⟩)] w fun x w'=>x=.returned (.int .i64 h.floor)∧w'=w)∧(Calls aA 61 #[.pointer (some ⟨g,0,none⟩)] w fun x w'=>x=.returned (.int .i64 h.top)∧w'=w):=by
 obtain⟨s,h1,h2⟩:=hV;rw[←h2.inc, ←h2.floor, ←h2.top];exact⟨An7 w g s h1,Ag1 w g s h1,Alq w g s h1⟩
theorem Ll{ops : Array Oper}{rest : List Oper}{o : Oper}{a : Act}{w : World}{Q : Exit → Act → World → Prop}(hgd : o.guard = none)(t : TypeId)(ps : Array (Nat×Operand))(ho : o.op =.build t ps)(qs : Array (Nat×Value))(hq : (ps.map fun(i, x) => (i, a.eval x)) = qs)(v : Value)
    (hv : (bG t qs).run aA w =.ok v w) (h : wpList aA ops Q rest (a.put o.dst v) w) : wpList aA ops Q (o :: rest) a w := by
  refine Great.wpList_readTo hgd o.dst rfl _ ?_ h
  unfold execOp
  simp only[ho, bA, hq, hv, aP, bB]
theorem KI(B : Nat)(w : World)(g gt gh gw : Nat)(R : Rm)(n : Af Aq)(r : D0)(h : Cb B w g gt gh gw R n r)(hn : n.post.length ≤ 1000000)(t : Int)(m : An)(hm : BB m)(hr : Ca m = true) :
    Calls aA 114 #[.pointer (some ⟨g, 0, none⟩),.int .i64 t,.agg (Ae m)] w fun e w' => e =.returned (.tuple #[]) ∧ Dl B w w' g gt gh gw R (Cx n t m) r := by
  obtain⟨w0, hw0⟩ :∃ w0, w0 = w.alloc (.cells (Ae m) 39) :=⟨_, rfl⟩
  have B0 : Below w.heap.size w w0 := by rw[hw0]; exact(aH _ _).alloc (aD _) _
  have HE : Hid (∀ W, Calls aA 145 #[.agg (Ae m)] W fun e w' => ∃ u, e =.returned (.tuple #[u,.int .i64 0]) ∧ AB W.heap.size w' u (Fb m) ∧ Below W.heap.size W w') := fun W => by
    have := Ain m hm W
    unfold FM at this
    rw[if_pos hr] at this
    exact this
  have g10 : w0.heap[w.heap.size]? = some (.cells (Ae m) 39 (0, 0)) := by rw[hw0]; exact Ab _ _ _ rfl
  have hms := BG hm
  have e0 : Cx n t m = { n with post := n.post ++ [(t, Fb m)] } := by unfold Cx; rw[if_pos hr]
  rw[e0]
  have HH : Hid (Cb B w g gt gh gw R n r) := h
  have HN : Hid (n.post.length ≤ 1000000) := hn
  have HB0 : Hid (Below w.heap.size w w0) := B0
  have hw0' := hw0.symm
  clear hn hm hr e0 B0 hw0 h
  go_enter Tryz.func114, Tryz.ntmps114
  go_wp2_with (first
    | ((with_reducible refine Aw 39 _ rfl ?_); refine AH BD rfl _ rfl w.heap.size 0 rfl _ _ _ (Ae m) hms g10 (Ar _ _) ?_)
    | (go_at_call 145; refine(HE.out _).mono ?_; rintro e w1 ⟨u, rfl, hu, hb1⟩; have HU : Hid _ := hu; have HB1 : Hid _ := hb1; clear hu hb1))
  have B1 : Below w.heap.size w w1 := HB0.out.trans (HB1.out.mono HB0.out.size)
  have h1 := HH.out.below B1
  have hvb :∀ k, u.ownBlock = some k →¬ BT r.vl k := fun k e e' => by
    have q1 := (World.ownsRow.lt HU.out k e).1
    have q2 := (HH.out.post.lt k e').2
    have q3 := HB0.out.size
    omega
  have HX : Hid (∀ W' u', As (BT r.vl) w1 W' → Fc B W' n.num u' (n.post ++ [(t, Fb m)]) → (u'.ownBlock = r.vl.ownBlock ∨∀ k, u'.ownBlock = some k → w1.heap.size ≤ k) → Dl B w (W'.setCell ⟨g, 7, none⟩ u') g gt gh gw R { n with post := n.post ++ [(t, Fb m)] } r) := fun W' u' hk hu hq =>
    (h1.putPost hk hu (fun k e => by rcases hq with q | q
                                     · rw[q] at e; exact .inl e
                                     · exact .inr (q k e))).pre B1
  have HBS : Hid (Br w1 u (Fb m)) := AB.sl HU.out
  have HVB : Hid (∀ k, u.ownBlock = some k →¬ BT r.vl k) := hvb
  have HBK : Hid (w1.heap[g]? = some (.cells (ndV n gt gh gw r) 91 (0, 0))) := h1.blk
  have HO : Hid (Fc B w1 n.num r.vl n.post) := h1.post
  have HB : Hid (B ≤ w1.heap.size) := h1.hw
  clear h1 hvb B1 HU HB1 HB0 HH hw0' g10
  refine Aay (by exact Nat.le_of_eq rfl) g B n.num t (Fb m) u r.vl n.post (ndV n gt gh gw r) rfl rfl rfl HBK.out rfl rfl HBS.out HVB.out HO.out HB.out HN.out ?_
  intro y' w' u' hk hr hf
  have F2 : Hid _ := HX.out w' u' hk hr hf
  clear hk hr hf HX HBK HBS HO HB HN
  simp only[JB, SY, bJ, bK, aV, aC, aI, aJ]
  go_end0
  exact⟨rfl, F2.out⟩
theorem Ms(B : Nat)(w : World)(g gt gh gw : Nat)(R : Rm)(n : Af Aq)(r : D0)(h : Cb B w g gt gh gw R n r)(hn : n.log.length ≤ 1000000)(i a : Int) :
    Calls aA 84 #[.pointer (some ⟨g, 0, none⟩),.int .i64 i,.int .i64 a] w fun e w' => e =.returned (.tuple #[]) ∧ Dl B w w' g gt gh gw R (FC n i a) r := by
  have C := Gq B w g gt gh gw R n r h hn 5 0 i 0 a 0
  unfold Qa at C
  go_enter Tryz.func84, Tryz.ntmps84
  go_wp2_with (go_at_call 72; refine C.mono ?_; rintro e w1 ⟨rfl, h1⟩; have H1 : Hid _ := h1; clear h1)
  go_end0
  exact⟨rfl, H1.out⟩
theorem Tt(B : Nat)(w : World)(g gt gh gw : Nat)(R : Rm)(n : Af Aq)(r : D0)(h : Cb B w g gt gh gw R n r)(hn : n.log.length ≤ 1000000)(i y : Int) :
    Calls aA 82 #[.pointer (some ⟨g, 0, none⟩),.int .i64 i,.int .i64 y] w fun e w' => e =.returned (.tuple #[]) ∧ Dl B w w' g gt gh gw R (Eb n i y) r := by
  have C := Gq B w g gt gh gw R n r h hn 6 0 i 0 0 y
  unfold Qa at C
  go_enter Tryz.func82, Tryz.ntmps82
  go_wp2_with (go_at_call 72; refine C.mono ?_; rintro e w1 ⟨rfl, h1⟩; have H1 : Hid _ := h1; clear h1)
  go_end0
  exact⟨rfl, H1.out⟩
theorem Calls.later_sameT{P:Program}{f:FuncId}{args:Array Value}{W:World}{u:Am W}{v:Value}
  (h:Calls P f args u.world fun e w'=>e=.returned v∧w'=u.world):Calls P f args u.world fun e w''=>e=.returned v∧∃u':Am W,w''=u'.world:=
 h.mono fun _ _ ⟨he,hb⟩=>⟨he,u,hb⟩
def Mn(n top:Int):Bool:=decide (top≠0)&&decide (top≤n)
def P6(idle hard nw:Int)(x:Ai):Bool:=Mn (wrap64 (nw-x.used)) idle || Mn (wrap64 (nw-x.born)) hard
theorem Amf{idle hard now:Int}{x:Ai}(h1:0≤x.used)(h2:x.used≤Gu)(h3:0≤x.born)(h4:x.born≤Gu):P6 idle hard (BR now) x=MU idle hard now x:=by
 have ht:=Rz now;unfold Gu at h2 h4 ht;unfold P6 MU Mn;have e1:wrap64 (BR now-x.used)=BR now-x.used:=by unfold wrap64;omega
 have e2:wrap64 (BR now-x.born)=BR now-x.born:=by unfold wrap64;omega
 rw[e1,e2]
theorem Ade(x:Ai)(nw:Int)(w:World)(p q g:Nat)(R:Rm)(v1 v2 v3:Value)(tp tq:TypeId)(hp:w.heap[p]?=some (.cells #[.int .i64 nw] tp (0,0)))(hq:w.heap[q]?=some (.cells #[.pointer (some ⟨g,0,none⟩)] tq (0,0)))(hg:w.heap[g]?=some (.cells (OD R v1 v2 v3) 155 (0,0))):
  Calls aA 109 #[.agg (Ac x),.pointer (some ⟨p,0,none⟩),.pointer (some ⟨q,0,none⟩)] w fun r w'=>r=.returned (.bool (P6 R.idle R.hard nw x))∧Below w.heap.size w w':=by
 have c1:=(Gh w x 102).c34;have c2:=(Gh w x 102).c33;have c3:(w.alloc (.cells (Ac x) 102)).cell? ⟨p,0,none⟩=some (.int .i64 nw):=by rw[cell_of_row _ _ _ _ _ _ (Ah w (.cells (Ac x) 102) _ _ hp)];rfl
 have c4:(w.alloc (.cells (Ac x) 102)).cell? ⟨q,0,none⟩=some (.pointer (some ⟨g,0,none⟩)):=by rw[cell_of_row _ _ _ _ _ _ (Ah w (.cells (Ac x) 102) _ _ hq)];rfl
 have hf:=Km (Ah w (.cells (Ac x) 102) _ _ hg);have c5:=hf.c8;have c6:=hf.c9;have OV:Hid (∀n top W,Calls aA 110 #[.int .i64 n,.int .i64 top] W fun e w'=>e=.returned (.bool (Mn n top))∧w'=W):=Aie;have BW:Hid (∀nq,Below w.heap.size w ((w.alloc (.cells (Ac x) 102)).drewN nq)):=fun nq=>BL ((aH _ _).alloc (aD _) _) (by simp) (N5 _ _);have HR:Hid (P6 R.idle R.hard nw x=(Mn (wrap64 (nw-x.used)) R.idle || Mn (wrap64 (nw-x.born)) R.hard)):=rfl;rw[HR.out];have hb0:=Ab w (.cells (Ac x) 102) _ rfl;have d1:∀u:Am (w.alloc (.cells (Ac x) 102)),u.world.cell? ⟨w.heap.size,34,none⟩=some (.int .i64 x.used):=fun u=>by have:=(Ks hb0 (Gh w x 102) u).c34;rw[bC] at this;exact this
 have d2:∀u:Am (w.alloc (.cells (Ac x) 102)),u.world.cell? ⟨w.heap.size,33,none⟩=some (.int .i64 x.born):=fun u=>by have:=(Ks hb0 (Gh w x 102) u).c33;rw[bC] at this;exact this
 have d3:=Fn (W:=w.alloc (.cells (Ac x) 102)) (k:=0) (v:=.int .i64 nw) (Ah w (.cells (Ac x) 102) _ _ hp) rfl;have d4:=Fn (W:=w.alloc (.cells (Ac x) 102)) (k:=0) (v:=.pointer (some ⟨g,0,none⟩)) (Ah w (.cells (Ac x) 102) _ _ hq) rfl;have d5:=Fn (W:=w.alloc (.cells (Ac x) 102)) (k:=8) (v:=.int .i64 R.idle) (Ah w (.cells (Ac x) 102) _ _ hg) rfl;have d6:=Fn (W:=w.alloc (.cells (Ac x) 102)) (k:=9) (v:=.int .i64 R.hard) (Ah w (.cells (Ac x) 102) _ _ hg) rfl;clear HR hp hq hg hf c1 c2 c3 c4 c5 c6 hb0 BW;generalize x.used=a1 at d1 ⊢;generalize x.born=a2 at d2 ⊢;generalize R.idle=i1 at d5 ⊢;generalize R.hard=i2 at d6 ⊢;have ne1:=Am.ne (w.alloc (.cells (Ac x) 102));rcases Bool.eq_false_or_eq_true (Mn (wrap64 (nw-a1)) i1) with h1 | h1
 focus
  have H1:Hid (Mn (wrap64 (nw-a1)) i1=true):=h1;have O1:Hid (∀W,Calls aA 110 #[.int .i64 (wrap64 (nw-a1)),.int .i64 i1] W fun e w'=>e=.returned (.bool true)∧w'=W):=by intro W;have h2:=OV.out (wrap64 (nw-a1)) i1 W;rw[h1] at h2;exact h2
  clear h1;go_enter bE,Tryz.ntmps109;go_wp2_with fail;refine BE (by kernel_rfl) (by kernel_rfl) ?_
  iterate 5 (go_big_quiet_step (rfl))
  refine Em rfl _ rfl _ rfl ?_;simp only[aV,aC,aI,aJ];go_big_quiet_step (rfl);go_big_quiet_step (rfl);go_big_quiet_want;go_big_quiet_op;refine⟨_,fun u=>Calls.later_sameT (O1.out u.world),?_⟩;go_big_quiet_on
  iterate 10 (go_big_quiet_step (rfl))
 rotate_left
 focus
  have H1:Hid (Mn (wrap64 (nw-a1)) i1=false):=h1;have O1:Hid (∀W,Calls aA 110 #[.int .i64 (wrap64 (nw-a1)),.int .i64 i1] W fun e w'=>e=.returned (.bool false)∧w'=W):=by intro W;have h2:=OV.out (wrap64 (nw-a1)) i1 W;rw[h1] at h2;exact h2
  clear h1;go_enter bE,Tryz.ntmps109;go_wp2_with fail;refine BE (by kernel_rfl) (by kernel_rfl) ?_
  iterate 5 (go_big_quiet_step (rfl))
  refine Em rfl _ rfl _ rfl ?_;simp only[aV,aC,aI,aJ];go_big_quiet_step (rfl);go_big_quiet_step (rfl);go_big_quiet_want;go_big_quiet_op;refine⟨_,fun u=>Calls.later_sameT (O1.out u.world),?_⟩;go_big_quiet_on
  iterate 6 (go_big_quiet_step (rfl))
  refine Em rfl _ rfl _ rfl ?_;simp only[aV,aC,aI,aJ];go_big_quiet_step (rfl);go_big_quiet_step (rfl);go_big_quiet_want;go_big_quiet_op;refine⟨_,fun u=>Calls.later_sameT (OV.out _ _ u.world),?_⟩;go_big_quiet_on
 all_goals
  go_big_quiet_step (rfl);go_big_quiet_step (rfl);refine wpQuiet_nil ?_;rintro w' ⟨u,rfl⟩;go_wp2_with fail;go_ret;exact⟨by rw[H1.out];simp,BL ((aH _ _).alloc (aD _) _) (by simp) u.below⟩
theorem Ahe(B:Nat)(w:World)(g:Nat)(R:Rm)(S:Aq)(v1 v2 v3:Value)(h:Cw B w g R S v1 v2 v3)(now:Int)(hn:S.c.length≤1000000)(hok:∀x∈S.c,0≤x.used∧x.used≤Gu∧0≤x.born∧x.born≤Gu):
  Calls aA 71 #[.pointer (some ⟨g,0,none⟩),.int .i64 now] w fun e w'=> ∃u,e=.returned u∧Au w.heap.size w' u (QE R.idle R.hard now S).2∧Di B w w' g R (QE R.idle R.hard now S).1 v1 v2 v3:=by
 have TI:Hid (∀W,Calls aA 107 #[.int .i64 now] W fun r w'=>r=.returned (.int .i64 (BR now))∧w'=W):=PP now
 have DR:Hid (∀W,Below w.heap.size w W→W.heap[w.heap.size]?=some (.cells #[.pointer (some ⟨g,0,none⟩)] 82 (0,0))→W.heap[w.heap.size+1]?=some (.cells #[.int .i64 (BR now)] 3 (0,0))→Calls aA 108 #[.pointer (some ⟨g,0,none⟩),.int .i64 1,.func (.func 109) #[] #[.pointer (some ⟨w.heap.size+1,0,none⟩),.pointer (some ⟨w.heap.size,0,none⟩)]] W fun e w'=> ∃u,e=.returned u∧Au w.heap.size w' u (QE R.idle R.hard now S).2∧Di B w w' g R (QE R.idle R.hard now S).1 v1 v2 v3):=by
  intro W hb hp0 hp1;have hT:=h.below hb;have n0:=hT.boxes hp0 (by decide) (by decide);have n1:=hT.boxes hp1 (by decide) (by decide)
  have cong:∀q:Bool→Bool,S.c.filter (fun x=>q (P6 R.idle R.hard (BR now) x))=S.c.filter (fun x=>q (MU R.idle R.hard now x)):=fun q=>by
   apply List.filter_congr;intro x hx;obtain⟨h1,h2,h3,h4⟩:=hok x hx;rw[Amf h1 h2 h3 h4]
  refine(RX B W g R S v1 v2 v3 hT 1 (by decide) hn 109 #[.pointer (some ⟨w.heap.size+1,0,none⟩),.pointer (some ⟨w.heap.size,0,none⟩)] (P6 R.idle R.hard (BR now)) (fun vs W=>by have hf:=bE;simp[go_sem]) (fun y W' hW'=> ?_)).mono ?_
  ·exact Ade y (BR now) W' _ _ g R v1 v2 v3 _ _ (hW'.heap hp1 fun e=>n1 (NK e)) (hW'.heap hp0 fun e=>n0 (NK e)) (hW'.heap hT.blk ((hT.bank 1).ty hT.blk (by decide)))
  ·rintro e w' ⟨u,rfl,hu,ht⟩;refine⟨u,rfl,?_,?_⟩
   ·have e1:S.c.filter (P6 R.idle R.hard (BR now))=S.c.filter (MU R.idle R.hard now):=cong id;have:Bv S 1=S.c:=rfl;rw[this,e1] at hu;exact hu.base hb.size
   ·have e1:S.c.filter (fun x=> !(P6 R.idle R.hard (BR now) x))=S.c.filter (fun x=> !(MU R.idle R.hard now x)):=cong (fun b=> !b);have:Bv S 1=S.c:=rfl;rw[this,e1] at ht;obtain⟨t1,t2,t3,a1,a2,a3⟩:=ht
    exact⟨t1,t2,t3,a1,As.pre hb a2,fun k hk=>by
     rcases a3 k hk with e | e
     ·exact .inl e
     ·exact .inr (bD hb.size e)⟩
 have Bx:Hid (∀z:Int,Below w.heap.size w ((w.alloc (.cells #[.pointer (some ⟨g,0,none⟩)] 82)).alloc (.cells #[.int .i64 z] 3))):=fun z=>((aH _ _).alloc (aD _) _).alloc (by simp) _;clear h hn hok;have c0:∀z:Int,((w.alloc (.cells #[.pointer (some ⟨g,0,none⟩)] 82)).alloc (.cells #[.int .i64 z] 3)).cell? ⟨w.heap.size,0,none⟩=some (.pointer (some ⟨g,0,none⟩)):=fun z=>by rw[cell_of_row _ _ _ _ _ _ (Ah _ _ _ _ (Ab w _ _ rfl))];rfl
 go_enter Tryz.func71,Tryz.ntmps71;go_wp2_with (first|(go_at_call 107;refine(TI.out _).mono ?_;rintro r w2 ⟨rfl,rfl⟩)|(go_at_call 108;refine D9 ?_));unfold Gk;refine(DR.out _ (Bx.out _) (Ah _ _ _ _ (Ab _ _ _ rfl)) (Ab _ _ _ (by simp))).mono ?_;rintro e w3 ⟨u,rfl,hu,ht⟩;have HU:Hid _:=hu;have HT:Hid _:=ht;clear hu ht;go_wp2_with fail;go_ret;exact⟨_,rfl,HU.out,HT.out⟩
theorem Sx{ops:Array Oper}{o:Oper}{a:Act}{w:World}{K:Act→World→Prop}{Q:Exit→Act→World→Prop}{R:Prop}
  (hgd:o.guard=none) (s x:Operand) (hop:o.op=Op.call {callee:=Callee.builtin Builtin.append,args:=#[s,x],argTypes:=#[62,62]})
  (g n cap:Nat) (hs:a.eval s=.slice (some ⟨g,0,none⟩) n cap) (cur:Array Value) (hg:w.heap[g]?=some (.cells cur 112 (0,0)))
  (ad:Addr) (m c:Nat) (news:List Value) (hx:a.eval x=.slice (some ad) m c) (hn:news.length=m*17) (hc:∀j u,news[j]?=some u→w.cell? (ad.add j)=some u) (h1c:∀u∈news,u.oneCell'=true)
  (hroom:n+m≤cap) (hfit:n*17+news.length≤cur.size) (k:Nat) (hk:n+m=k) (W:World) (hW:W=w.setRow g (cur.toList.take (n*17)++news++cur.toList.drop (n*17+news.length)).toArray)
  (hK:K (a.put o.dst (.slice (some ⟨g,0,none⟩) k cap)) W):
  if Region.wanted o (yielded ops a.tmps)=true then Oper.wp aA o a w K Q else R:=by
 subst hk;rw[hW] at hK;exact Sw (E:=Js) Lh hgd s x hop g n cap hs cur hg ad m c news hx hn hc h1c hroom hfit hK
theorem T8{E:El}(H:E.Ok)(hz:(Array.all E.zero (·.oneCell'))=true)(w:World)(ty:TypeId)(g m c:Nat)(cur:Array Value)(hg:w.heap[g]?=some (.cells cur E.elem (0,0)))(hf:m*E.size+E.size≤cur.size):
  (aY #[E.slice] ty #[.slice (some ⟨g,m*E.size,none⟩) 1 c]).run aA w=.ok (.tuple #[]) (w.setRow g (cur.toList.take (m*E.size)++E.zero.toList++cur.toList.drop (m*E.size+E.size)).toArray):=by
 obtain⟨i0,hi,hz0,hz1,hz2⟩:=H.info;have hzv:∀w,(zeroValue E.elem).run aA w=.ok (.agg E.zero) w:=fun w=>by simp[zeroValue,typeInfo,hi,hz0,go_sem]
 have hzc:(aQ E.zero 1).toList=E.zero.toList:=by
  apply List.ext_getElem?;intro k;by_cases hk:k<E.zero.size
  ·simp[aQ,hk,Nat.mod_eq_of_lt hk]
  ·rw[aZ (by simp[aQ];omega),aZ (by simp;omega)]
 have hst:=run_storeCells_at aA g (m*E.size) E.elem E.zero.toList 0 cur w hg (by simp[H.hz];omega) (fun u hu=>(aM.1 hz) u (by simpa using hu));simp only[Nat.add_zero,aL,H.hz] at hst;simp[aY,run_underlying H.hs,hzv,hzc,hst,Value.cells]
theorem Uu(C:List AN):(BC AD C).length=C.length*17:=by
 induction C with
 | nil=>rfl
 | cons x C ih=>rw[Hv,aK,ih,List.length_cons];show 17+_=_;omega
theorem Yg:∀(C:List AN) (k:Nat),(BC AD C).drop (k*17)=BC AD (C.drop k)
 | [],k=>by simp[BC]
 | x::C,0=>by simp
 | x::C,k+1=>by
  rw[Hv,List.drop_succ_cons, ←Yg C k,show(k+1)*17=17+k*17 by omega, ←List.drop_drop]
  rfl
theorem Yd:∀(C:List AN) (k:Nat),(BC AD C).take (k*17)=BC AD (C.take k)
 | [],k=>by simp[BC]
 | x::C,0=>by simp[BC]
 | x::C,k+1=>by
  rw[List.take_succ_cons,Hv,Hv, ←Yd C k,show(k+1)*17=(AD x).toList.length+k*17 by show _=17+_;omega,List.take_length_add_append]
theorem Ao5{C:List AN}{u:Value}(h:u∈BC AD C):u.oneCell'=true:=by
 unfold BC at h;obtain⟨x,_,hu⟩:=List.mem_flatMap.1 h;exact(aM.1 (Ly x).2) u (by simpa using hu)
theorem Y8(B:Nat)(w:World)(v:Value)(C:List AN)(hv:AU B w v C)(i:Nat)(hi:i<C.length)(hn:C.length≤1000000):
  Calls aA 143 #[v,.int .i64 (i:Int),.int .i64 ((i+1:Nat):Int)] w fun e w'=> ∃u,e=.returned u∧AU B w' u (C.eraseIdx i)∧u.ownBlock=v.ownBlock∧As (BT v) w w':=by
 obtain⟨h1,⟨rfl,h2⟩ | ⟨g,cap,cur,rfl,hB,hcur,h3,h4,h5,h6⟩⟩:=hv
 ·omega
 obtain⟨m,hm⟩:∃m,C.length=m+1:=⟨C.length-1,by omega⟩;rw[hm] at h3 h6 hi;rw[hm];unfold maxLen at h4;have hic:i≤cap:=by omega
 have hjc:i+1≤cap:=by omega
 have hi0:(0:Int)≤(i:Int)+1:=by omega
 have him:i≤m:=by omega
 have mixed:aA.follows Departure.mixedOrders=true:=by kernel_rfl
 obtain⟨news,hnews⟩:=eX (BC AD (C.drop (i+1)));have hlen:news.length=(m-i)*17:=by rw[hnews,Uu,aX,hm];congr 1;omega
 have hgl:(BC AD C).length=(m+1)*17:=by rw[Uu,hm]
 have hnat:∀t u,news[t]?=some u→cur[(i+1)*17+t]?=some u:=fun t u hu=>by
  have ht:t<(m-i)*17:=by rw[←hlen];exact(aT.1 hu).1
  rw[hnews, ←Yg,List.getElem?_drop, ←h6,List.getElem?_take_of_lt (by omega),Array.getElem?_toList] at hu;exact hu
 obtain⟨A,hA,hsrc⟩:∃A:Addr,(if cap=i+1 then some (⟨g,0,none⟩:Addr) else some ⟨g,(i+1)*17,none⟩)=some A∧Hid (∀t u,news[t]?=some u→w.drew.cell? (A.add t)=some u):=by
  by_cases h:cap=i+1
  ·refine⟨⟨g,0,none⟩,by simp[h],fun t u hu=> ?_⟩;have:=(aT.1 hu).1;omega
  ·refine⟨⟨g,(i+1)*17,none⟩,by simp[h],fun t u hu=> ?_⟩;rw[Addr.add_lit];show w.cell? _=_;rw[cell_of_row _ _ _ _ _ _ hcur];exact hnat t u hu
 have s1:Hid _:=hlen;have s2:Hid (∀u∈news,u.oneCell'=true):=fun u hu=>Ao5 (by rw[hnews] at hu;exact hu);have s3:Hid _:=hcur;obtain⟨W1,hW1⟩:=eX (w.drew.setRow g (cur.toList.take (i*17)++news++cur.toList.drop (i*17+news.length)).toArray);have hW:Hid _:=hW1;have sz:Hid (i*17+news.length≤cur.size):=by show _≤_;rw[hlen,h5];omega
 obtain⟨r1,hr1⟩:=eX ((cur.toList.take (i*17)++news++cur.toList.drop (i*17+news.length)).toArray);have hcl:cur.toList.length=cap*17:=by rw[aL,h5]
 have hfr:(cur.toList.take (i*17)++news).length=m*17:=by rw[aK,bI,hcl,hlen];omega
 have hs1:r1.size=cap*17:=by rw[hr1,bF,aK,hfr,aX,hcl,hlen];omega
 have ht1:r1.toList.take (m*17)=BC AD (C.eraseIdx i):=by
  rw[hr1, ←hfr,List.take_left,hnews,List.eraseIdx_eq_take_drop_succ,J4, ←Yd, ←h6,List.take_take,show min (i*17) ((m+1)*17)=i*17 by omega]
 have hg1:W1.heap[g]?=some (.cells r1 112 (0,0)):=by rw[hW1, ←hr1];exact setRow_heap _ _ _ _ _ _ s3.out
 obtain⟨W2,hW2⟩:=eX (W1.setRow g (r1.toList.take (m*17)++(AD C9).toList++r1.toList.drop (m*17+17)).toArray)
 have hc2:∀ty,(aY #[62] ty #[.slice (some ⟨g,m*17,none⟩) 1 (cap-m)]).run aA W1=.ok (.tuple #[]) W2:=fun ty=>by
  rw[hW2];exact T8 (E:=Js) Lh ((Ly C9).2) W1 ty g m (cap-m) r1 hg1 (by rw[hs1];show m*17+17≤_;omega)
 have HE:Hid (AU B W2 (.slice (some ⟨g,0,none⟩) m cap) (C.eraseIdx i)∧As (BT (.slice (some ⟨g,0,none⟩) (m+1) cap)) w W2):=by
  have hlt:(r1.toList.take (m*17)).length=m*17:=by rw[bI,aL,hs1];omega
  have hel:(C.eraseIdx i).length=m:=by rw[List.length_eraseIdx_of_lt (by omega),hm];rfl
  refine⟨⟨by rw[Uu],.inr ⟨g,cap,_,by rw[hel],hB,by rw[hW2];exact setRow_heap _ _ _ _ _ _ hg1,by omega,h4,?_,?_⟩⟩,?_⟩
  ·have hrl:r1.toList.length=cap*17:=by rw[aL,hs1]
   rw[bF,aK,aK,hlt,aX,hrl];show _+17+_=_;omega
  ·rw[hel,List.append_assoc,List.take_append_of_le_length (by rw[hlt];exact aD _),List.take_of_length_le (by rw[hlt];exact aD _),ht1]
  ·have k1:As (Cq g) w W1:=by rw[hW1];exact⟨rfl,rfl,rfl,by simp,fun k _ hk=>setRow_other _ g k _ hk⟩
   have k2:As (Cq g) W1 W2:=by rw[hW2];exact⟨rfl,rfl,rfl,by simp,fun k _ hk=>setRow_other _ g k _ hk⟩
   exact(k1.trans k2 fun k e=> .inl e).mono fun k _ e=>by unfold Cq at e;unfold BT Value.ownBlock;rw[e]
 have hcm:¬cap=m:=by omega
 clear hn h1 hB hlen hgl hnat hnews hW1 h5 h6 hcur hm hr1 hcl hfr hs1 ht1 hg1 hW2;go_enter Tryz.func143,Tryz.ntmps143;go_wp2_with fail;go_region_law_o (refine Sx rfl (.tmp 22) (.tmp 25) rfl g i cap (by simp[Act.eval,aV]) cur s3.out A (m-i) (cap-(i+1)) news (by simp[Act.eval,aV]) s1.out hsrc.out s2.out (by omega) sz.out m (by omega) W1 hW.out ?_);go_wp2;go_ret;exact⟨_,rfl,HE.out.1,rfl,HE.out.2⟩
end
end Go.Proofs.YtbhkoipcpcoooaaGreat
