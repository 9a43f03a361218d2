import Derived.Test.YtbhkoipcpcoooabGreatJ11
import Derived.Test.YtbhkoipcpcoooabGreatJ12
import Derived.Test.YtbhkoipcpcoooabGreatJ15
import Derived.Test.YtbhkoipcpcoooabGreatJ10
import Derived.Test.YtbhkoipcpcoooabGreatJ1
import Derived.Test.YtbhkoipcpcoooabGreatJ3
import Derived.Deep.Slices
import Derived.SizedLaws
import Derived.Test.YtbhkoipcpcoooabGreatJ8
import Derived.Test.YtbhkoipcpcoooabGreatJ9
import Derived.BigQuiet
namespace Go.Proofs.YtbhkoipcpcoooabGreat
set_option maxRecDepth 20000
set_option maxHeartbeats 64000000
open Go
open _root_.Option.some renaming inj → aA
open Go.Proofs.Tryz renaming prog → aB
open Go.Instr renaming fieldAt → aC, build → aX, storeAt → bN
open _root_.Nat renaming le_refl → aD, le_trans → bA
open Go.RowKit.Below renaming refl → aG
open _root_.List renaming length_append → aH, getElem?_eq_some_iff → aJ, setIfInBounds_toArray → aO, length_drop → aV, getElem?_eq_none → aZ, set_cons_succ → bB, set_cons_zero → bC, size_toArray → bD, not_mem_nil → bE, length_take → bF, filter_cons → bG, foldl_cons → bI, find?_cons → bJ, foldl_nil → bK
open _root_.Array renaming length_toList → aI, all_eq_true_iff_forall_mem → aL, setIfInBounds_append_left → aM, getElem?_append_left → aN
open Go.Result renaming andThen_ok → aK
open Go.Builtin renaming zeroCells → aP, clear_ → aY
open Go.Act renaming put → aQ
open Go.Sem renaming run_bind → aR, run_pure → aT
open Go.Region renaming noSelect → aW, wanted → bO, ready → bP
section
open Go.RowKit
theorem Va{c:Di}(W:World)(p:Nat)(h:W.heap[p]?=some (.cells (BL c) 56 (0,0))):(Instr.loadAt 56 (.pointer (some ⟨p,0,none⟩))).run aB W=.ok (.agg (BL c)) W:=by
  simp only[Instr.loadAt,Instr.sureAddr,aR,aT,aK];exact My.load W p 0 _ _ _ (BL c) (F0 c) h fun j _=>by rw[Nat.zero_add]
theorem Tf{o:Oper}{s t:Nat}{x:Operand}(ho:o.op=.convert s t x)(a:Act)(W:World)(u v:Value)(hu:a.eval x=u)(h:(convert s t u).run aB W=.ok v W):(execOp a.eval o).run aB W=.ok (.value v) W:=by
  unfold execOp;simp only[ho,aR,hu,h,aK,aT]
theorem VG(num t:Int)(bs:List UInt8)(W:World):(aX 141 #[(0,.int .i64 num),(1,.int .i64 t),(2,.string ⟨bs.toArray⟩)]).run aB W=.ok (.agg (Il num (t,bs))) W:=by
  unfold Il;kernel_rfl
def Aca:List Oper:=[
  { dst := some 9, op := .move (.tmp 0), type := 31, pos := "say.go:11", after := #[], guard := none },
  { dst := some 10, op := .move (.tmp 0), type := 31, pos := "say.go:11", after := #[], guard := none },
  { dst := some 11, op := .nilCheck (.tmp 10), type := 0, pos := "say.go:11", after := #[{ on := 1, ground := .data }], guard := none },
  { dst := some 12, op := .fieldAddr 63 (.tmp 11) 8, type := 0, pos := "say.go:11", after := #[{ on := 2, ground := .data }], guard := none },
  { dst := some 13, op := .load 33 (.tmp 12), type := 33, pos := "say.go:11", after := #[{ on := 3, ground := .data }], guard := none },
  { dst := some 14, op := .load 56 (.tmp 3), type := 56, pos := "say.go:11", after := #[], guard := none },
  { dst := some 15, op := .buildSlice 33 1 #[(0, .tmp 14)], type := 33, pos := "say.go:11", after := #[{ on := 5, ground := .data }], guard := none },
  { dst := some 16, op := .call { callee := .builtin .append, args := #[.tmp 13, .tmp 15], argTypes := #[33, 33] }, type := 33, pos := "say.go:11", after := #[{ on := 4, ground := .data }, { on := 6, ground := .data }], guard := none },
  { dst := some 17, op := .nilCheck (.tmp 9), type := 0, pos := "say.go:11", after := #[{ on := 0, ground := .data }, { on := 0, ground := .phase }, { on := 1, ground := .phase }, { on := 2, ground := .phase }, { on := 3, ground := .phase }, { on := 4, ground := .phase }, { on := 5, ground := .phase }, { on := 6, ground := .phase }, { on := 7, ground := .phase }], guard := none },
  { dst := some 18, op := .fieldAddr 63 (.tmp 17) 8, type := 0, pos := "say.go:11", after := #[{ on := 8, ground := .data }, { on := 0, ground := .phase }, { on := 1, ground := .phase }, { on := 2, ground := .phase }, { on := 3, ground := .phase }, { on := 4, ground := .phase }, { on := 5, ground := .phase }, { on := 6, ground := .phase }, { on := 7, ground := .phase }], guard := none },
  { dst := none, op := .store 33 (.tmp 18) (.tmp 16), type := 0, pos := "say.go:11", after := #[{ on := 9, ground := .data }, { on := 7, ground := .data }, { on := 7, ground := .chain }, { on := 0, ground := .phase }, { on := 1, ground := .phase }, { on := 2, ground := .phase }, { on := 3, ground := .phase }, { on := 4, ground := .phase }, { on := 5, ground := .phase }, { on := 6, ground := .phase }, { on := 7, ground := .phase }], guard := none }]
def OF:List Nat:=[9,10,11,12,13,14,15,16,17,18]
def MK(g B H:Nat)(c:Di)(vv:Value)(C:List Di)(j:Nat)(v:Value)(w:World):Prop:=
  match j with
  | 0=>v=.pointer (some ⟨g,0,none⟩)
  | 1=>v=.pointer (some ⟨g,0,none⟩)
  | 2=>v=.pointer (some ⟨g,0,none⟩)
  | 3=>v=.pointer (some ⟨g,8,none⟩)
  | 4=>v=vv
  | 5=>v=.agg (BL c)
  | 6=> ∃k,v=.slice (some ⟨k,0,none⟩) 1 1∧H≤k∧w.heap[k]?=some (.cells (BL c) 56 (0,0))
  | 7=>BZ B w v (C++[c])∧(v.ownBlock=vv.ownBlock∨∀k,v.ownBlock=some k→H≤k)
  | 8=>v=.pointer (some ⟨g,0,none⟩)
  | 9=>v=.pointer (some ⟨g,8,none⟩)
  | _=>True
theorem YZ(g B H:Nat)(c:Di)(vv:Value)(C:List Di):∀j v w w',MK g B H c vv C j v w→Below w.heap.size w w'→MK g B H c vv C j v w':=by
  intro j v w w' h hb;revert h;unfold MK
  split <;> intro h <;> first
    | exact h
    | (obtain⟨k,h1,h2,h3⟩:=h
       exact⟨k,h1,h2,(hb.block k (gS h3)).trans h3⟩)
    | exact⟨h.1.below hb,h.2⟩
theorem U1{id:Nat}{Q:Exit→Act→World→Prop}{a0:Act}{w0:World}(hs:19≤a0.tmps.size)(g p B:Nat)(c:Di)(vv:Value)(C:List Di)(cs:Array Value)
    (ho0:a0.eval (.tmp 0)=.pointer (some ⟨g,0,none⟩)) (ho3:a0.eval (.tmp 3)=.pointer (some ⟨p,0,none⟩))
    (hg:w0.heap[g]?=some (.cells cs 63 (0,0))) (hc8:cs[8]?=some (vv)) (hp:w0.heap[p]?=some (.cells (BL c) 56 (0,0))) (nrp:¬Bn vv p)
    (hrow:BZ B w0 vv C) (hB:B≤w0.heap.size) (hlen:C.length≤1000000)
    (hK:∀y w' u,Ao (Bn vv) w0 w'→BZ B w' u (C++[c])→(u.ownBlock=vv.ownBlock∨∀k,u.ownBlock=some k→w0.heap.size≤k)→Q .normal (Hb OF y a0) (w'.setCell ⟨g,8,none⟩ u)):(Code.region id Aca.toArray true).wp aB Q a0 w0:=by
  have hDs:∀d∈OF,d<a0.tmps.size:=fun d hd=>by
    have:d<19:=by
      revert hd;unfold OF;intro hd;simp only[List.mem_cons,bE,or_false] at hd;omega
    omega
  have fa8:∀W,(aC 63 (.pointer (some ⟨g,0,none⟩)) 8).run aB W=.ok (.pointer (some ⟨g,8,none⟩)) W:=fun W=>by simp[go_sem]
  have nrg:¬Bn vv g:=Hw hrow hg (by decide);have frm:∀w,Ao (Bn vv) w0 w→w.heap[g]?=some (.cells cs 63 (0,0))∧w.heap[p]?=some (.cells (BL c) 56 (0,0))∧w0.heap.size≤w.heap.size:=fun w h=>⟨h.heap hg nrg,h.heap hp nrp,h.size⟩
  have frb:∀(b:Bool) (w:World),(if b then Ao (Bn vv) w0 w else Below w0.heap.size w0 w)→Ao (Bn vv) w0 w:=fun b w h=>by
    cases b with
    | true=>exact h
    | false=>exact Ao.of_below h
  refine Kv 10 7 (MK g B w0.heap.size c vv C) (fun b w=>if b then Ao (Bn vv) w0 w else Below w0.heap.size w0 w) OF (by kernel_rfl) (by decide) rfl (by kernel_rfl) (by decide) hDs (by kernel_rfl) (by kernel_rfl) (YZ g B w0.heap.size c vv C) ?_ ?_ ?_ ?_ ?_
  · intro b w w' h hb
    cases b with
    | true=>exact Ao.add h hb
    | false=>exact Below.trans h (hb.mono (Below.size h))
  · exact(aG _ _).drew
  · intro j o ho hj hjm b a w h;have kw:=frm w (frb b w h.wld);have kws:=kw.2.2;rcases(show j=0∨j=1∨j=2∨j=3∨j=4∨j=5∨j=6∨j=8∨j=9 by omega) with rfl | rfl | rfl | rfl | rfl | rfl | rfl | rfl | rfl
    · obtain rfl:=aA ho;have f0:a.eval (.tmp 0)=.pointer (some ⟨g,0,none⟩):=(h.other 0 (by decide)).trans ho0;exact Bt rfl rfl _ (Dy rfl _ _ _ f0) rfl
    · obtain rfl:=aA ho;have f0:a.eval (.tmp 0)=.pointer (some ⟨g,0,none⟩):=(h.other 0 (by decide)).trans ho0;exact Bt rfl rfl _ (Dy rfl _ _ _ f0) rfl
    · obtain rfl:=aA ho;have f0:a.eval (.tmp 10)=.pointer (some ⟨g,0,none⟩):=h.has ⟨1,.data⟩ (by simp) rfl _ 10 rfl rfl;exact Bt rfl rfl _ (ES rfl _ _ _ f0) rfl
    · obtain rfl:=aA ho;have f0:a.eval (.tmp 11)=.pointer (some ⟨g,0,none⟩):=h.has ⟨2,.data⟩ (by simp) rfl _ 11 rfl rfl;exact Bt rfl rfl _ (Ej rfl _ _ _ ((congrArg (fun y=>(aC 63 y 8).run aB w) f0).trans (fa8 w))) rfl
    · obtain rfl:=aA ho;have f0:a.eval (.tmp 12)=.pointer (some ⟨g,8,none⟩):=h.has ⟨3,.data⟩ (by simp) rfl _ 12 rfl rfl;exact Bt rfl rfl _ (ET rfl _ _ _ _ f0 (Kf (e:=56) Tryz.underlying33 _ _ _ (by rw[cell_of_row _ _ _ _ _ _ kw.1];exact hc8))) rfl
    · obtain rfl:=aA ho;have f0:a.eval (.tmp 3)=.pointer (some ⟨p,0,none⟩):=(h.other 3 (by decide)).trans ho3;exact Bt rfl rfl _ (ET rfl _ _ _ _ f0 (Va _ _ kw.2.1)) rfl
    · obtain rfl:=aA ho;have f0:a.eval (.tmp 14)=.agg (BL c):=h.has ⟨5,.data⟩ (by simp) rfl _ 14 rfl rfl;refine PF rfl ?_;refine IOx (E:=MW) My rfl _ rfl (BL c) (F0 c) f0 ?_;exact⟨_,rfl,(aG _ _).alloc (aD _) _,fun _ _=>⟨_,rfl,kws,Ac _ _ _ rfl⟩⟩
    · obtain rfl:=aA ho;have f0:a.eval (.tmp 9)=.pointer (some ⟨g,0,none⟩):=h.has ⟨0,.data⟩ (by simp) rfl _ 9 rfl rfl;exact Bt rfl rfl _ (ES rfl _ _ _ f0) rfl
    · obtain rfl:=aA ho;have f0:a.eval (.tmp 17)=.pointer (some ⟨g,0,none⟩):=h.has ⟨8,.data⟩ (by simp) rfl _ 17 rfl rfl;exact Bt rfl rfl _ (Ej rfl _ _ _ ((congrArg (fun y=>(aC 63 y 8).run aB w) f0).trans (fa8 w))) rfl
  · intro o ho a w h;obtain rfl:=aA ho;have hb:Below w0.heap.size w0 w:=h.wld;have g1:a.eval (.tmp 13)=vv:=h.has ⟨4,.data⟩ (by simp) rfl _ 13 rfl rfl;obtain⟨k,g2,g3,g4⟩:∃k,a.eval (.tmp 15)=.slice (some ⟨k,0,none⟩) 1 1∧w0.heap.size≤k∧w.heap[k]?=some (.cells (BL c) 56 (0,0)):=h.has ⟨6,.data⟩ (by simp) rfl _ 15 rfl rfl;have hown:BZ B w vv C:=hrow.below hb;refine Dt rfl ?_;refine H9 (E:=MW) My BL rfl _ _ rfl B vv C c (WV c) g1 hown k 1 g2 g4 (by omega) (bA hB hb.size) ?_;intro v' w3 hown3 hgr3 hq3;have k3:Ao (Bn vv) w0 w3:=(Ao.of_below hb).trans (Ao.of_grown hgr3 fun k e=>e) fun k e=> .inl e;refine⟨v',rfl,k3,?_,fun _ _=>⟨hown3,?_⟩⟩
    · intro j z hj;unfold MK
      split <;> intro hz <;> first
        | exact hz
        | exact absurd rfl hj
        | (obtain⟨k,q1,q2,q3⟩:=hz
           exact⟨k,q1,q2,(hgr3.block k (gS q3) (fun hq=>by have:=(hrow.lt k hq.symm).2;omega)).trans q3⟩)
    · rcases hq3 with e | e
      · exact .inl e
      · exact .inr fun k e'=>by rw[e] at e';have:=aA e';have:=hb.size;omega
  · intro a w hI hsz hdf hot hh;have kw:Ao (Bn vv) w0 w:=hI;have hvm:MK g B w0.heap.size c vv C 7 (a.eval (.tmp 16)) w:=hh 7 _ 16 (by decide) rfl rfl;obtain⟨q1,q2⟩:=hvm;have q3:a.eval (.tmp 18)=.pointer (some ⟨g,8,none⟩):=hh 9 _ 18 (by decide) rfl rfl;obtain⟨v',hv'⟩:∃v',a.eval (.tmp 16)=v':=⟨_,rfl⟩;rw[hv'] at q1 q2;obtain⟨o3,cap3,hv3⟩:=Lr q1;have c3:w.cell? ⟨g,8,none⟩=some vv:=by rw[cell_of_row _ _ _ _ _ _ (frm w kw).1];exact hc8
    have hst:(bN 33 (.pointer (some ⟨g,8,none⟩)) v').run aB w=.ok () (w.setCell ⟨g,8,none⟩ v'):=K8 (ty:=33) (fun W=>Tryz.sizeOf33 W) w ⟨g,8,none⟩ v' vv ⟨o3,_,cap3,hv3⟩ c3 (J9 (frm w kw).1 rfl);refine EP (w':=w.setCell ⟨g,8,none⟩ v') rfl rfl (Ku rfl _ _ _ _ _ q3 hv' hst) rfl ?_;show Q .normal a (w.setCell ⟨g,8,none⟩ v');rw[Mb hsz hdf hot hDs];exact hK _ w v' kw q1 q2
def Ac8:List Oper:=[
  { dst := some 13, op := .move (.tmp 0), type := 31, pos := "say.go:18", after := #[], guard := none },
  { dst := some 14, op := .move (.tmp 0), type := 31, pos := "say.go:18", after := #[], guard := none },
  { dst := some 15, op := .nilCheck (.tmp 14), type := 0, pos := "say.go:18", after := #[{ on := 1, ground := .data }], guard := none },
  { dst := some 16, op := .fieldAddr 63 (.tmp 15) 7, type := 0, pos := "say.go:18", after := #[{ on := 2, ground := .data }], guard := none },
  { dst := some 17, op := .load 35 (.tmp 16), type := 35, pos := "say.go:18", after := #[{ on := 3, ground := .data }], guard := none },
  { dst := some 18, op := .move (.tmp 0), type := 31, pos := "say.go:18", after := #[], guard := none },
  { dst := some 19, op := .nilCheck (.tmp 18), type := 0, pos := "say.go:18", after := #[{ on := 5, ground := .data }], guard := none },
  { dst := some 20, op := .fieldAddr 63 (.tmp 19) 0, type := 0, pos := "say.go:18", after := #[{ on := 6, ground := .data }], guard := none },
  { dst := some 21, op := .load 3 (.tmp 20), type := 3, pos := "say.go:18", after := #[{ on := 7, ground := .data }], guard := none },
  { dst := some 22, op := .move (.tmp 1), type := 3, pos := "say.go:18", after := #[], guard := none },
  { dst := some 23, op := .move (.tmp 6), type := 85, pos := "say.go:18", after := #[], guard := none },
  { dst := some 24, op := .convert 85 9 (.tmp 23), type := 9, pos := "say.go:18", after := #[{ on := 10, ground := .data }], guard := none },
  { dst := some 25, op := .build 141 #[(0, .tmp 21), (1, .tmp 22), (2, .tmp 24)], type := 141, pos := "say.go:18", after := #[{ on := 8, ground := .data }, { on := 9, ground := .data }, { on := 11, ground := .data }], guard := none },
  { dst := some 26, op := .buildSlice 35 1 #[(0, .tmp 25)], type := 35, pos := "say.go:18", after := #[{ on := 12, ground := .data }], guard := none },
  { dst := some 27, op := .call { callee := .builtin .append, args := #[.tmp 17, .tmp 26], argTypes := #[35, 35] }, type := 35, pos := "say.go:18", after := #[{ on := 4, ground := .data }, { on := 13, ground := .data }], guard := none },
  { dst := some 28, op := .nilCheck (.tmp 13), type := 0, pos := "say.go:18", after := #[{ on := 0, ground := .data }, { on := 0, ground := .phase }, { on := 1, ground := .phase }, { on := 2, ground := .phase }, { on := 3, ground := .phase }, { on := 4, ground := .phase }, { on := 5, ground := .phase }, { on := 6, ground := .phase }, { on := 7, ground := .phase }, { on := 8, ground := .phase }, { on := 9, ground := .phase }, { on := 10, ground := .phase }, { on := 11, ground := .phase }, { on := 12, ground := .phase }, { on := 13, ground := .phase }, { on := 14, ground := .phase }], guard := none },
  { dst := some 29, op := .fieldAddr 63 (.tmp 28) 7, type := 0, pos := "say.go:18", after := #[{ on := 15, ground := .data }, { on := 0, ground := .phase }, { on := 1, ground := .phase }, { on := 2, ground := .phase }, { on := 3, ground := .phase }, { on := 4, ground := .phase }, { on := 5, ground := .phase }, { on := 6, ground := .phase }, { on := 7, ground := .phase }, { on := 8, ground := .phase }, { on := 9, ground := .phase }, { on := 10, ground := .phase }, { on := 11, ground := .phase }, { on := 12, ground := .phase }, { on := 13, ground := .phase }, { on := 14, ground := .phase }], guard := none },
  { dst := none, op := .store 35 (.tmp 29) (.tmp 27), type := 0, pos := "say.go:18", after := #[{ on := 16, ground := .data }, { on := 14, ground := .data }, { on := 14, ground := .chain }, { on := 0, ground := .phase }, { on := 1, ground := .phase }, { on := 2, ground := .phase }, { on := 3, ground := .phase }, { on := 4, ground := .phase }, { on := 5, ground := .phase }, { on := 6, ground := .phase }, { on := 7, ground := .phase }, { on := 8, ground := .phase }, { on := 9, ground := .phase }, { on := 10, ground := .phase }, { on := 11, ground := .phase }, { on := 12, ground := .phase }, { on := 13, ground := .phase }, { on := 14, ground := .phase }], guard := none }]
def OD:List Nat:=[13,14,15,16,17,18,19,20,21,22,23,24,25,26,27,28,29]
def MJ(g B H:Nat)(num t:Int)(bs:List UInt8)(vb vv:Value)(C:List (Int×List UInt8))(j:Nat)(v:Value)(w:World):Prop:=
  match j with
  | 0=>v=.pointer (some ⟨g,0,none⟩)
  | 1=>v=.pointer (some ⟨g,0,none⟩)
  | 2=>v=.pointer (some ⟨g,0,none⟩)
  | 3=>v=.pointer (some ⟨g,7,none⟩)
  | 4=>v=vv
  | 5=>v=.pointer (some ⟨g,0,none⟩)
  | 6=>v=.pointer (some ⟨g,0,none⟩)
  | 7=>v=.pointer (some ⟨g,0,none⟩)
  | 8=>v=.int .i64 num
  | 9=>v=.int .i64 t
  | 10=>v=vb
  | 11=>v=.string ⟨bs.toArray⟩
  | 12=>v=.agg (Il num (t,bs))
  | 13=> ∃k,v=.slice (some ⟨k,0,none⟩) 1 1∧H≤k∧w.heap[k]?=some (.cells (Il num (t,bs)) 141 (0,0))
  | 14=>DT B w num v (C++[(t,bs)])∧(v.ownBlock=vv.ownBlock∨∀k,v.ownBlock=some k→H≤k)
  | 15=>v=.pointer (some ⟨g,0,none⟩)
  | 16=>v=.pointer (some ⟨g,7,none⟩)
  | _=>True
theorem YW(g B H:Nat)(num t:Int)(bs:List UInt8)(vb vv:Value)(C:List (Int×List UInt8)):∀j v w w',MJ g B H num t bs vb vv C j v w→Below w.heap.size w w'→MJ g B H num t bs vb vv C j v w':=by
  intro j v w w' h hb;revert h;unfold MJ
  split <;> intro h <;> first
    | exact h
    | (obtain⟨k,h1,h2,h3⟩:=h
       exact⟨k,h1,h2,(hb.block k (gS h3)).trans h3⟩)
    | exact⟨h.1.below hb,h.2⟩
theorem U0{id:Nat}{Q:Exit→Act→World→Prop}{a0:Act}{w0:World}(hs:30≤a0.tmps.size)(g B:Nat)(num t:Int)(bs:List UInt8)(vb:Value)(vv:Value)(C:List (Int×List UInt8))(cs:Array Value)
    (ho0:a0.eval (.tmp 0)=.pointer (some ⟨g,0,none⟩)) (ho1:a0.eval (.tmp 1)=.int .i64 t) (ho6:a0.eval (.tmp 6)=vb)
    (hg:w0.heap[g]?=some (.cells cs 63 (0,0))) (hc0:cs[0]?=some (.int .i64 num)) (hc7:cs[7]?=some (vv)) (hbs:Be w0 vb bs) (hvb:∀k,vb.ownBlock=some k→¬Bn vv k)
    (hrow:DT B w0 num vv C) (hB:B≤w0.heap.size) (hlen:C.length≤1000000)
    (hK:∀y w' u,Ao (Bn vv) w0 w'→DT B w' num u (C++[(t,bs)])→(u.ownBlock=vv.ownBlock∨∀k,u.ownBlock=some k→w0.heap.size≤k)→Q .normal (Hb OD y a0) (w'.setCell ⟨g,7,none⟩ u)):(Code.region id Ac8.toArray true).wp aB Q a0 w0:=by
  have hDs:∀d∈OD,d<a0.tmps.size:=fun d hd=>by
    have:d<30:=by
      revert hd;unfold OD;intro hd;simp only[List.mem_cons,bE,or_false] at hd;omega
    omega
  have fa0:∀W,(aC 63 (.pointer (some ⟨g,0,none⟩)) 0).run aB W=.ok (.pointer (some ⟨g,0,none⟩)) W:=fun W=>by simp[go_sem]
  have fa7:∀W,(aC 63 (.pointer (some ⟨g,0,none⟩)) 7).run aB W=.ok (.pointer (some ⟨g,7,none⟩)) W:=fun W=>by simp[go_sem]
  have nrg:¬Bn vv g:=Hw hrow hg (by decide);have frm:∀w,Ao (Bn vv) w0 w→w.heap[g]?=some (.cells cs 63 (0,0))∧Be w vb bs∧w0.heap.size≤w.heap.size:=fun w h=>⟨h.heap hg nrg,hbs.of_heap fun k o ho hk=>h.heap ho (hvb k hk),h.size⟩
  have frb:∀(b:Bool) (w:World),(if b then Ao (Bn vv) w0 w else Below w0.heap.size w0 w)→Ao (Bn vv) w0 w:=fun b w h=>by
    cases b with
    | true=>exact h
    | false=>exact Ao.of_below h
  refine Kv 17 14 (MJ g B w0.heap.size num t bs vb vv C) (fun b w=>if b then Ao (Bn vv) w0 w else Below w0.heap.size w0 w) OD (by kernel_rfl) (by decide) rfl (by kernel_rfl) (by decide) hDs (by kernel_rfl) (by kernel_rfl) (YW g B w0.heap.size num t bs vb vv C) ?_ ?_ ?_ ?_ ?_
  · intro b w w' h hb
    cases b with
    | true=>exact Ao.add h hb
    | false=>exact Below.trans h (hb.mono (Below.size h))
  · exact(aG _ _).drew
  · intro j o ho hj hjm b a w h;have kw:=frm w (frb b w h.wld);have kws:=kw.2.2;rcases(show j=0∨j=1∨j=2∨j=3∨j=4∨j=5∨j=6∨j=7∨j=8∨j=9∨j=10∨j=11∨j=12∨j=13∨j=15∨j=16 by omega) with rfl | rfl | rfl | rfl | rfl | rfl | rfl | rfl | rfl | rfl | rfl | rfl | rfl | rfl | rfl | rfl
    · obtain rfl:=aA ho;have f0:a.eval (.tmp 0)=.pointer (some ⟨g,0,none⟩):=(h.other 0 (by decide)).trans ho0;exact Bt rfl rfl _ (Dy rfl _ _ _ f0) rfl
    · obtain rfl:=aA ho;have f0:a.eval (.tmp 0)=.pointer (some ⟨g,0,none⟩):=(h.other 0 (by decide)).trans ho0;exact Bt rfl rfl _ (Dy rfl _ _ _ f0) rfl
    · obtain rfl:=aA ho;have f0:a.eval (.tmp 14)=.pointer (some ⟨g,0,none⟩):=h.has ⟨1,.data⟩ (by simp) rfl _ 14 rfl rfl;exact Bt rfl rfl _ (ES rfl _ _ _ f0) rfl
    · obtain rfl:=aA ho;have f0:a.eval (.tmp 15)=.pointer (some ⟨g,0,none⟩):=h.has ⟨2,.data⟩ (by simp) rfl _ 15 rfl rfl;exact Bt rfl rfl _ (Ej rfl _ _ _ ((congrArg (fun y=>(aC 63 y 7).run aB w) f0).trans (fa7 w))) rfl
    · obtain rfl:=aA ho;have f0:a.eval (.tmp 16)=.pointer (some ⟨g,7,none⟩):=h.has ⟨3,.data⟩ (by simp) rfl _ 16 rfl rfl;exact Bt rfl rfl _ (ET rfl _ _ _ _ f0 (Kf (e:=141) Tryz.underlying35 _ _ _ (by rw[cell_of_row _ _ _ _ _ _ kw.1];exact hc7))) rfl
    · obtain rfl:=aA ho;have f0:a.eval (.tmp 0)=.pointer (some ⟨g,0,none⟩):=(h.other 0 (by decide)).trans ho0;exact Bt rfl rfl _ (Dy rfl _ _ _ f0) rfl
    · obtain rfl:=aA ho;have f0:a.eval (.tmp 18)=.pointer (some ⟨g,0,none⟩):=h.has ⟨5,.data⟩ (by simp) rfl _ 18 rfl rfl;exact Bt rfl rfl _ (ES rfl _ _ _ f0) rfl
    · obtain rfl:=aA ho;have f0:a.eval (.tmp 19)=.pointer (some ⟨g,0,none⟩):=h.has ⟨6,.data⟩ (by simp) rfl _ 19 rfl rfl;exact Bt rfl rfl _ (Ej rfl _ _ _ ((congrArg (fun y=>(aC 63 y 0).run aB w) f0).trans (fa0 w))) rfl
    · obtain rfl:=aA ho;have f0:a.eval (.tmp 20)=.pointer (some ⟨g,0,none⟩):=h.has ⟨7,.data⟩ (by simp) rfl _ 20 rfl rfl;exact Bt rfl rfl _ (ET rfl _ _ _ _ f0 (Mj _ _ _ (by rw[cell_of_row _ _ _ _ _ _ kw.1];exact hc0))) rfl
    · obtain rfl:=aA ho;have f0:a.eval (.tmp 1)=.int .i64 t:=(h.other 1 (by decide)).trans ho1;exact Bt rfl rfl _ (Dy rfl _ _ _ f0) rfl
    · obtain rfl:=aA ho;have f0:a.eval (.tmp 6)=vb:=(h.other 6 (by decide)).trans ho6;exact Bt rfl rfl _ (Dy rfl _ _ _ f0) rfl
    · obtain rfl:=aA ho;have f0:a.eval (.tmp 23)=vb:=h.has ⟨10,.data⟩ (by simp) rfl _ 23 rfl rfl;exact Bt rfl rfl _ (Tf rfl _ _ _ _ f0 (RH _ _ _ kw.2.1)) rfl
    · obtain rfl:=aA ho;have b0:a.eval (.tmp 21)=.int .i64 num:=h.has ⟨8,.data⟩ (by simp) rfl _ 21 rfl rfl;have b1:a.eval (.tmp 22)=.int .i64 t:=h.has ⟨9,.data⟩ (by simp) rfl _ 22 rfl rfl;have b2:a.eval (.tmp 24)=.string ⟨bs.toArray⟩:=h.has ⟨11,.data⟩ (by simp) rfl _ 24 rfl rfl;exact Bt rfl rfl _ (L9 rfl _ _ #[(0,.int .i64 num),(1,.int .i64 t),(2,.string ⟨bs.toArray⟩)] (by simp only[List.map_toArray,List.map_cons,List.map_nil,b0,b1,b2]) _ (VG num t bs w)) rfl
    · obtain rfl:=aA ho;have f0:a.eval (.tmp 25)=.agg (Il num (t,bs)):=h.has ⟨12,.data⟩ (by simp) rfl _ 25 rfl rfl;refine PF rfl ?_;refine IOx (E:=Rj) Yc rfl _ rfl (Il num (t,bs)) rfl f0 ?_;exact⟨_,rfl,(aG _ _).alloc (aD _) _,fun _ _=>⟨_,rfl,kws,Ac _ _ _ rfl⟩⟩
    · obtain rfl:=aA ho;have f0:a.eval (.tmp 13)=.pointer (some ⟨g,0,none⟩):=h.has ⟨0,.data⟩ (by simp) rfl _ 13 rfl rfl;exact Bt rfl rfl _ (ES rfl _ _ _ f0) rfl
    · obtain rfl:=aA ho;have f0:a.eval (.tmp 28)=.pointer (some ⟨g,0,none⟩):=h.has ⟨15,.data⟩ (by simp) rfl _ 28 rfl rfl;exact Bt rfl rfl _ (Ej rfl _ _ _ ((congrArg (fun y=>(aC 63 y 7).run aB w) f0).trans (fa7 w))) rfl
  · intro o ho a w h;obtain rfl:=aA ho;have hb:Below w0.heap.size w0 w:=h.wld;have g1:a.eval (.tmp 17)=vv:=h.has ⟨4,.data⟩ (by simp) rfl _ 17 rfl rfl;obtain⟨k,g2,g3,g4⟩:∃k,a.eval (.tmp 26)=.slice (some ⟨k,0,none⟩) 1 1∧w0.heap.size≤k∧w.heap[k]?=some (.cells (Il num (t,bs)) 141 (0,0)):=h.has ⟨13,.data⟩ (by simp) rfl _ 26 rfl rfl;have hown:DT B w num vv C:=hrow.below hb;refine Dt rfl ?_;refine H9 (E:=Rj) Yc (Il num) rfl _ _ rfl B vv C (t,bs) (Xn num (t,bs)) g1 hown k 1 g2 g4 (by omega) (bA hB hb.size) ?_;intro v' w3 hown3 hgr3 hq3;have k3:Ao (Bn vv) w0 w3:=(Ao.of_below hb).trans (Ao.of_grown hgr3 fun k e=>e) fun k e=> .inl e;refine⟨v',rfl,k3,?_,fun _ _=>⟨hown3,?_⟩⟩
    · intro j z hj;unfold MJ
      split <;> intro hz <;> first
        | exact hz
        | exact absurd rfl hj
        | (obtain⟨k,q1,q2,q3⟩:=hz
           exact⟨k,q1,q2,(hgr3.block k (gS q3) (fun hq=>by have:=(hrow.lt k hq.symm).2;omega)).trans q3⟩)
    · rcases hq3 with e | e
      · exact .inl e
      · exact .inr fun k e'=>by rw[e] at e';have:=aA e';have:=hb.size;omega
  · intro a w hI hsz hdf hot hh;have kw:Ao (Bn vv) w0 w:=hI;have hvm:MJ g B w0.heap.size num t bs vb vv C 14 (a.eval (.tmp 27)) w:=hh 14 _ 27 (by decide) rfl rfl;obtain⟨q1,q2⟩:=hvm;have q3:a.eval (.tmp 29)=.pointer (some ⟨g,7,none⟩):=hh 16 _ 29 (by decide) rfl rfl;obtain⟨v',hv'⟩:∃v',a.eval (.tmp 27)=v':=⟨_,rfl⟩;rw[hv'] at q1 q2;obtain⟨o3,cap3,hv3⟩:=Lr q1;have c3:w.cell? ⟨g,7,none⟩=some vv:=by rw[cell_of_row _ _ _ _ _ _ (frm w kw).1];exact hc7
    have hst:(bN 35 (.pointer (some ⟨g,7,none⟩)) v').run aB w=.ok () (w.setCell ⟨g,7,none⟩ v'):=K8 (ty:=35) (fun W=>Tryz.sizeOf35 W) w ⟨g,7,none⟩ v' vv ⟨o3,_,cap3,hv3⟩ c3 (J9 (frm w kw).1 rfl);refine EP (w':=w.setCell ⟨g,7,none⟩ v') rfl rfl (Ku rfl _ _ _ _ _ q3 hv' hst) rfl ?_;show Q .normal a (w.setCell ⟨g,7,none⟩ v');rw[Mb hsz hdf hot hDs];exact hK _ w v' kw q1 q2
theorem YX(x : Di)(v : Int) : (BL x).setIfInBounds 1 (.int .i64 v) = BL { x with at_ := v } := by
  unfold BL
  rw[aM (by simp; omega), aM (by simp)]
  rfl
theorem Ac9(x : Di) : (BL x)[1]? = some (.int .i64 x.at_) := by
  unfold BL
  rw[aN (by simp; omega), aN (by simp)]
  rfl
theorem Lh(B : Nat)(w : World)(g gt gh gw : Nat)(R : Rm)(n : Ap Ay)(r : DU)(h : BT B w g gt gh gw R n r)(hn : n.log.length ≤ 1000000)(x : Di) :
    Calls aB 38 #[.pointer (some ⟨g, 0, none⟩),.agg (BL x)] w fun e w' => e =.returned (.tuple #[]) ∧ CZ B w w' g gt gh gw R (BR n x) r := by
  obtain⟨w0, hw0⟩ :∃ w0, w0 = w.alloc (.cells (BL x) 56) :=⟨_, rfl⟩
  have B0 : Below w.heap.size w w0 := by rw[hw0]; exact(aG _ _).alloc (aD _) _
  have Z0 : w0.heap[w.heap.size]? = some (.cells (BL x) 56 (0, 0)) := by rw[hw0]; exact Ac _ _ _ rfl
  have c0 := (h.below B0).f.c0
  have p1 : w0.cell? ⟨w.heap.size, 1, none⟩ = some (.int .i64 x.at_) := by rw[cell_of_row _ _ _ _ _ _ Z0]; exact Ac9 x
  have fz1 : w0.frozen? ⟨w.heap.size, 1, none⟩ = false := J9 Z0 rfl
  obtain⟨y, hy⟩ :∃ y : Di, y = { x with at_ := n.num } :=⟨_, rfl⟩
  obtain⟨w1, hw1⟩ :∃ w1, w1 = w.alloc (.cells (BL y) 56) :=⟨_, rfl⟩
  have B1 : Below w.heap.size w w1 := by rw[hw1]; exact(aG _ _).alloc (aD _) _
  have h1 := h.below B1
  have HZ : Hid (w1.heap[w.heap.size]? = some (.cells (BL y) 56 (0, 0))) := by show _ = _; rw[hw1]; exact Ac _ _ _ rfl
  have HX : Hid (∀ W' u, Ao (Bn r.vn) w1 W' → BZ B W' u (n.log ++ [y]) → (u.ownBlock = r.vn.ownBlock ∨∀ k, u.ownBlock = some k → w1.heap.size ≤ k) → CZ B w (W'.setCell ⟨g, 8, none⟩ u) g gt gh gw R (BR n x) r) := fun W' u hk hu hq => by
    have := (h1.putLog hk hu (fun k e => by rcases hq with q | q
                                            · rw[q] at e; exact .inl e
                                            · exact .inr (q k e))).pre B1
    rw[hy] at this
    exact this
  have HBK : Hid (w1.heap[g]? = some (.cells (ndV n gt gh gw r) 63 (0, 0))) := h1.blk
  have HO : Hid (BZ B w1 r.vn n.log) := h1.log
  have HB : Hid (B ≤ w1.heap.size) := h1.hw
  have HN : Hid (n.log.length ≤ 1000000) := hn
  have NP : Hid (¬ Bn r.vn w.heap.size) := fun e => by have := (h.log.lt _ e).2; omega
  obtain⟨nu, hnu⟩ :∃ nu, nu = n.num :=⟨_, rfl⟩
  rw[← hnu] at c0
  have hw2 : w.alloc (.cells ((BL x).setIfInBounds 1 (.int .i64 nu)) 56) = w1 := by rw[hw1, hy, YX, hnu]
  rw[hw0] at c0 p1 fz1
  clear hn hy h h1 B0 B1 Z0 hw0 hnu hw1
  go_enter Tryz.func38, Tryz.ntmps38
  go_wp2_with fail
  clear hw2 c0 p1 fz1
  refine U1 (by exact Nat.le_of_eq rfl) g w.heap.size B y r.vn n.log (ndV n gt gh gw r) rfl rfl HBK.out rfl HZ.out NP.out HO.out HB.out HN.out ?_
  intro y' w' u hk hr hf
  have F2 : Hid _ := HX.out w' u hk hr hf
  clear hk hr hf HX HBK HZ HO HB HN
  simp only[Hb, OF, bI, bK, aQ, aO, bB, bC]
  go_end0
  exact⟨rfl, F2.out⟩
/-- A note without a header or a cube, written out. -/
def Mf(k t i e a y : Int) : Array Value := #[.int .i64 k,.int .i64 0,.int .i64 t,.int .i64 i,.int .i64 e,.int .i64 a,.int .i64 y,.int .i64 0,.int .u8 0,.int .u8 0,.int .u8 0,.int .u8 0,.int .u8 0,.int .u8 0,.int .u8 0,.int .u8 0,.int .u8 0,.int .u8 0,.int .u8 0,.int .u8 0,.int .u8 0,.int .u8 0,.int .u8 0,.int .u8 0,.int .u8 0,.int .u8 0,.int .u8 0,.int .u8 0,.int .u8 0,.int .u8 0,.int .u8 0,.int .u8 0,.int .u8 0,.int .u8 0,.int .u8 0,.int .u8 0,.int .u8 0,.int .u8 0,.int .u8 0,.int .u8 0,.int .u8 0,.int .u8 0,.int .u8 0,.int .u8 0,.int .u8 0,.int .u8 0,.int .u8 0]
theorem WX(k t i e a y : Int) : BL ⟨k, 0, t, i, e, a, y, 0, Z, (Z, Z)⟩ = Mf k t i e a y := by
  unfold BL Mf
  rw[Hr]
  kernel_rfl
theorem SL(k e a : Int)(c : List Int×List Int)(W : World) : (aX 56 #[(0,.int .i64 k), (4,.int .i64 e), (5,.int .i64 a), (9,.agg (cv (Aq c.1) (Aq c.2)))]).run aB W =.ok (.agg (BL ⟨k, 0, 0, 0, e, a, 0, 0, Z, c⟩)) W := by
  unfold BL
  rw[Hr]
  kernel_rfl
theorem EH(B : Nat)(w : World)(g gt gh gw : Nat)(R : Rm)(n : Ap Ay)(r : DU)(h : BT B w g gt gh gw R n r)(hn : n.log.length ≤ 1000000)(k t i e a y : Int) :
    Calls aB 38 #[.pointer (some ⟨g, 0, none⟩),.agg (Mf k t i e a y)] w fun e' w' => e' =.returned (.tuple #[]) ∧ CZ B w w' g gt gh gw R (BR n ⟨k, 0, t, i, e, a, y, 0, Z, (Z, Z)⟩) r := by
  rw[← WX]
  exact Lh B w g gt gh gw R n r h hn _
theorem Ht(w:World)(g:Nat)(h:AP)(hV:Er w g h):
  Calls aB 20 #[.pointer (some ⟨g,0,none⟩)] w fun x w'=>x=.returned (.int .i64 h.use)∧w'=w:=by
 obtain⟨s,h1,h2⟩:=hV;rw[←h2.use];exact Abh w g s h1
theorem Pa(w:World)(g:Nat)(h:AP)(hV:Er w g h)(e:Int):
  Calls aB 72 #[.pointer (some ⟨g,0,none⟩),.int .i64 e] w fun x w'=>x=.returned (.tuple #[.int .i64 ((h.cnt e).1:Int),.int .i64 (h.cnt e).2])∧Below w.heap.size w w':=by
 obtain⟨s,h1,h2⟩:=hV;have:=Nf w g s h1 e;rw[h2.held e] at this;exact this
theorem XE(w:World)(g:Nat)(h:AP)(hV:Er w g h)(e:Int):
  Calls aB 87 #[.pointer (some ⟨g,0,none⟩),.int .i64 e] w fun x w'=>x=.returned (.bool (Fr h e))∧Below w.heap.size w w':=by
 obtain⟨s,h1,h2⟩:=hV;have:=OY w g s h1 e;rw[QH h2 e] at this;exact this
theorem Fn(w:World)(g:Nat)(h:AP)(hV:Er w g h):
  (Calls aB 19 #[.pointer (some ⟨g,0,none⟩)] w fun x w'=>x=.returned (.int .i64 h.life)∧w'=w)∧(Calls aB 22 #[.pointer (some ⟨g,0,none⟩)] w fun x w'=>x=.returned (.int .i64 h.floor)∧w'=w)∧(Calls aB 23 #[.pointer (some ⟨g,0,none⟩)] w fun x w'=>x=.returned (.int .i64 h.top)∧w'=w):=by
 obtain⟨s,h1,h2⟩:=hV;rw[←h2.inc, ←h2.floor, ←h2.top];exact⟨Ad0 w g s h1,XH w g s h1,Abj w g s h1⟩
theorem Jq{ops : Array Oper}{rest : List Oper}{o : Oper}{a : Act}{w : World}{Q : Exit → Act → World → Prop}(hgd : o.guard = none)(t : TypeId)(ps : Array (Nat×Operand))(ho : o.op =.build t ps)(qs : Array (Nat×Value))(hq : (ps.map fun(i, x) => (i, a.eval x)) = qs)(v : Value)
    (hv : (aX t qs).run aB w =.ok v w) (h : wpList aB ops Q rest (a.put o.dst v) w) : wpList aB ops Q (o :: rest) a w := by
  refine Great.wpList_readTo hgd o.dst rfl _ ?_ h
  unfold execOp
  simp only[ho, aR, hq, hv, aK, aT]
theorem Ig(B : Nat)(w : World)(g gt gh gw : Nat)(R : Rm)(n : Ap Ay)(r : DU)(h : BT B w g gt gh gw R n r)(hn : n.post.length ≤ 1000000)(t : Int)(m : Aj)(hm : Bj m)(hr : Bo m = true) :
    Calls aB 53 #[.pointer (some ⟨g, 0, none⟩),.int .i64 t,.agg (Ah m)] w fun e w' => e =.returned (.tuple #[]) ∧ CZ B w w' g gt gh gw R (BX n t m) r := by
  obtain⟨w0, hw0⟩ :∃ w0, w0 = w.alloc (.cells (Ah m) 27) :=⟨_, rfl⟩
  have B0 : Below w.heap.size w w0 := by rw[hw0]; exact(aG _ _).alloc (aD _) _
  have HE : Hid (∀ W, Calls aB 74 #[.agg (Ah m)] W fun e w' => ∃ u, e =.returned (.tuple #[u,.int .i64 0]) ∧ Au W.heap.size w' u (DI m) ∧ Below W.heap.size W w') := fun W => by
    have := Zc m hm W
    unfold Eg at this
    rw[if_pos hr] at this
    exact this
  have g10 : w0.heap[w.heap.size]? = some (.cells (Ah m) 27 (0, 0)) := by rw[hw0]; exact Ac _ _ _ rfl
  have hms := Ch hm
  have e0 : BX n t m = { n with post := n.post ++ [(t, DI m)] } := by unfold BX; rw[if_pos hr]
  rw[e0]
  have HH : Hid (BT B w g gt gh gw R n r) := h
  have HN : Hid (n.post.length ≤ 1000000) := hn
  have HB0 : Hid (Below w.heap.size w w0) := B0
  have hw0' := hw0.symm
  clear hn hm hr e0 B0 hw0 h
  go_enter Tryz.func53, Tryz.ntmps53
  go_wp2_with (first
    | ((with_reducible refine Bf 27 _ rfl ?_); refine Bc DJ rfl _ rfl w.heap.size 0 rfl _ _ _ (Ah m) hms g10 (AA _ _) ?_)
    | (go_at_call 74; refine(HE.out _).mono ?_; rintro e w1 ⟨u, rfl, hu, hb1⟩; have HU : Hid _ := hu; have HB1 : Hid _ := hb1; clear hu hb1))
  have B1 : Below w.heap.size w w1 := HB0.out.trans (HB1.out.mono HB0.out.size)
  have h1 := HH.out.below B1
  have hvb :∀ k, u.ownBlock = some k →¬ Bn r.vl k := fun k e e' => by
    have q1 := (World.ownsRow.lt HU.out k e).1
    have q2 := (HH.out.post.lt k e').2
    have q3 := HB0.out.size
    omega
  have HX : Hid (∀ W' u', Ao (Bn r.vl) w1 W' → DT B W' n.num u' (n.post ++ [(t, DI m)]) → (u'.ownBlock = r.vl.ownBlock ∨∀ k, u'.ownBlock = some k → w1.heap.size ≤ k) → CZ B w (W'.setCell ⟨g, 7, none⟩ u') g gt gh gw R { n with post := n.post ++ [(t, DI m)] } r) := fun W' u' hk hu hq =>
    (h1.putPost hk hu (fun k e => by rcases hq with q | q
                                     · rw[q] at e; exact .inl e
                                     · exact .inr (q k e))).pre B1
  have HBS : Hid (Be w1 u (DI m)) := Au.sl HU.out
  have HVB : Hid (∀ k, u.ownBlock = some k →¬ Bn r.vl k) := hvb
  have HBK : Hid (w1.heap[g]? = some (.cells (ndV n gt gh gw r) 63 (0, 0))) := h1.blk
  have HO : Hid (DT B w1 n.num r.vl n.post) := h1.post
  have HB : Hid (B ≤ w1.heap.size) := h1.hw
  clear h1 hvb B1 HU HB1 HB0 HH hw0' g10
  refine U0 (by exact Nat.le_of_eq rfl) g B n.num t (DI m) u r.vl n.post (ndV n gt gh gw r) rfl rfl rfl HBK.out rfl rfl HBS.out HVB.out HO.out HB.out HN.out ?_
  intro y' w' u' hk hr hf
  have F2 : Hid _ := HX.out w' u' hk hr hf
  clear hk hr hf HX HBK HBS HO HB HN
  simp only[Hb, OD, bI, bK, aQ, aO, bB, bC]
  go_end0
  exact⟨rfl, F2.out⟩
theorem Ly(B : Nat)(w : World)(g gt gh gw : Nat)(R : Rm)(n : Ap Ay)(r : DU)(h : BT B w g gt gh gw R n r)(hn : n.log.length ≤ 1000000)(i a : Int) :
    Calls aB 33 #[.pointer (some ⟨g, 0, none⟩),.int .i64 i,.int .i64 a] w fun e w' => e =.returned (.tuple #[]) ∧ CZ B w w' g gt gh gw R (Gb n i a) r := by
  have C := EH B w g gt gh gw R n r h hn 5 0 i 0 a 0
  unfold Mf at C
  go_enter Tryz.func33, Tryz.ntmps33
  go_wp2_with (go_at_call 38; refine C.mono ?_; rintro e w1 ⟨rfl, h1⟩; have H1 : Hid _ := h1; clear h1)
  go_end0
  exact⟨rfl, H1.out⟩
theorem VA(B : Nat)(w : World)(g gt gh gw : Nat)(R : Rm)(n : Ap Ay)(r : DU)(h : BT B w g gt gh gw R n r)(hn : n.log.length ≤ 1000000)(i y : Int) :
    Calls aB 31 #[.pointer (some ⟨g, 0, none⟩),.int .i64 i,.int .i64 y] w fun e w' => e =.returned (.tuple #[]) ∧ CZ B w w' g gt gh gw R (Kl n i y) r := by
  have C := EH B w g gt gh gw R n r h hn 6 0 i 0 0 y
  unfold Mf at C
  go_enter Tryz.func31, Tryz.ntmps31
  go_wp2_with (go_at_call 38; refine C.mono ?_; rintro e w1 ⟨rfl, h1⟩; have H1 : Hid _ := h1; clear h1)
  go_end0
  exact⟨rfl, H1.out⟩
theorem Calls.later_sameT{P:Program}{f:FuncId}{args:Array Value}{W:World}{u:Al W}{v:Value}
  (h:Calls P f args u.world fun e w'=>e=.returned v∧w'=u.world):Calls P f args u.world fun e w''=>e=.returned v∧∃u':Al W,w''=u'.world:=
 h.mono fun _ _ ⟨he,hb⟩=>⟨he,u,hb⟩
theorem Od{ops:Array Oper}{o:Oper}{a:Act}{w:World}{K:Act→World→Prop}{Q:Exit→Act→World→Prop}{R:Prop}
  (hgd:o.guard=none) (s x:Operand) (hop:o.op=Op.call {callee:=Callee.builtin Builtin.append,args:=#[s,x],argTypes:=#[42,42]})
  (g n cap:Nat) (hs:a.eval s=.slice (some ⟨g,0,none⟩) n cap) (cur:Array Value) (hg:w.heap[g]?=some (.cells cur 82 (0,0)))
  (ad:Addr) (m c:Nat) (news:List Value) (hx:a.eval x=.slice (some ad) m c) (hn:news.length=m*17) (hc:∀j u,news[j]?=some u→w.cell? (ad.add j)=some u) (h1c:∀u∈news,u.oneCell'=true)
  (hroom:n+m≤cap) (hfit:n*17+news.length≤cur.size) (k:Nat) (hk:n+m=k) (W:World) (hW:W=w.setRow g (cur.toList.take (n*17)++news++cur.toList.drop (n*17+news.length)).toArray)
  (hK:K (a.put o.dst (.slice (some ⟨g,0,none⟩) k cap)) W):
  if bO o (yielded ops a.tmps)=true then Oper.wp aB o a w K Q else R:=by
 subst hk;rw[hW] at hK;exact Oc (E:=Ix) Ks hgd s x hop g n cap hs cur hg ad m c news hx hn hc h1c hroom hfit hK
theorem Py{E:El}(H:E.Ok)(hz:(Array.all E.zero (·.oneCell'))=true)(w:World)(ty:TypeId)(g m c:Nat)(cur:Array Value)(hg:w.heap[g]?=some (.cells cur E.elem (0,0)))(hf:m*E.size+E.size≤cur.size):
  (aY #[E.slice] ty #[.slice (some ⟨g,m*E.size,none⟩) 1 c]).run aB w=.ok (.tuple #[]) (w.setRow g (cur.toList.take (m*E.size)++E.zero.toList++cur.toList.drop (m*E.size+E.size)).toArray):=by
 obtain⟨i0,hi,hz0,hz1,hz2⟩:=H.info;have hzv:∀w,(zeroValue E.elem).run aB w=.ok (.agg E.zero) w:=fun w=>by simp[zeroValue,typeInfo,hi,hz0,go_sem]
 have hzc:(aP E.zero 1).toList=E.zero.toList:=by
  apply List.ext_getElem?;intro k;by_cases hk:k<E.zero.size
  ·simp[aP,hk,Nat.mod_eq_of_lt hk]
  ·rw[aZ (by simp[aP];omega),aZ (by simp;omega)]
 have hst:=run_storeCells_at aB g (m*E.size) E.elem E.zero.toList 0 cur w hg (by simp[H.hz];omega) (fun u hu=>(aL.1 hz) u (by simpa using hu));simp only[Nat.add_zero,aI,H.hz] at hst;simp[aY,run_underlying H.hs,hzv,hzc,hst,Value.cells]
theorem PR(C:List Cq):(Bh AL C).length=C.length*17:=by
 induction C with
 | nil=>rfl
 | cons x C ih=>rw[Fv,aH,ih,List.length_cons];show 17+_=_;omega
theorem SS:∀(C:List Cq) (k:Nat),(Bh AL C).drop (k*17)=Bh AL (C.drop k)
 | [],k=>by simp[Bh]
 | x::C,0=>by simp
 | x::C,k+1=>by
  rw[Fv,List.drop_succ_cons, ←SS C k,show(k+1)*17=17+k*17 by omega, ←List.drop_drop]
  rfl
theorem SQ:∀(C:List Cq) (k:Nat),(Bh AL C).take (k*17)=Bh AL (C.take k)
 | [],k=>by simp[Bh]
 | x::C,0=>by simp[Bh]
 | x::C,k+1=>by
  rw[List.take_succ_cons,Fv,Fv, ←SQ C k,show(k+1)*17=(AL x).toList.length+k*17 by show _=17+_;omega,List.take_length_add_append]
theorem Ads{C:List Cq}{u:Value}(h:u∈Bh AL C):u.oneCell'=true:=by
 unfold Bh at h;obtain⟨x,_,hu⟩:=List.mem_flatMap.1 h;exact(aL.1 (JZ x).2) u (by simpa using hu)
theorem TC(B:Nat)(w:World)(v:Value)(C:List Cq)(hv:B8 B w v C)(i:Nat)(hi:i<C.length)(hn:C.length≤1000000):
  Calls aB 95 #[v,.int .i64 (i:Int),.int .i64 ((i+1:Nat):Int)] w fun e w'=> ∃u,e=.returned u∧B8 B w' u (C.eraseIdx i)∧u.ownBlock=v.ownBlock∧Ao (Bn v) w w':=by
 obtain⟨h1,⟨rfl,h2⟩ | ⟨g,cap,cur,rfl,hB,hcur,h3,h4,h5,h6⟩⟩:=hv
 ·omega
 obtain⟨m,hm⟩:∃m,C.length=m+1:=⟨C.length-1,by omega⟩;rw[hm] at h3 h6 hi;rw[hm];unfold maxLen at h4;have hic:i≤cap:=by omega
 have hjc:i+1≤cap:=by omega
 have hi0:(0:Int)≤(i:Int)+1:=by omega
 have him:i≤m:=by omega
 have mixed:aB.follows Departure.mixedOrders=true:=by kernel_rfl
 obtain⟨news,hnews⟩:=eX (Bh AL (C.drop (i+1)));have hlen:news.length=(m-i)*17:=by rw[hnews,PR,aV,hm];congr 1;omega
 have hgl:(Bh AL C).length=(m+1)*17:=by rw[PR,hm]
 have hnat:∀t u,news[t]?=some u→cur[(i+1)*17+t]?=some u:=fun t u hu=>by
  have ht:t<(m-i)*17:=by rw[←hlen];exact(aJ.1 hu).1
  rw[hnews, ←SS,List.getElem?_drop, ←h6,List.getElem?_take_of_lt (by omega),Array.getElem?_toList] at hu;exact hu
 obtain⟨A,hA,hsrc⟩:∃A:Addr,(if cap=i+1 then some (⟨g,0,none⟩:Addr) else some ⟨g,(i+1)*17,none⟩)=some A∧Hid (∀t u,news[t]?=some u→w.drew.cell? (A.add t)=some u):=by
  by_cases h:cap=i+1
  ·refine⟨⟨g,0,none⟩,by simp[h],fun t u hu=> ?_⟩;have:=(aJ.1 hu).1;omega
  ·refine⟨⟨g,(i+1)*17,none⟩,by simp[h],fun t u hu=> ?_⟩;rw[Addr.add_lit];show w.cell? _=_;rw[cell_of_row _ _ _ _ _ _ hcur];exact hnat t u hu
 have s1:Hid _:=hlen;have s2:Hid (∀u∈news,u.oneCell'=true):=fun u hu=>Ads (by rw[hnews] at hu;exact hu);have s3:Hid _:=hcur;obtain⟨W1,hW1⟩:=eX (w.drew.setRow g (cur.toList.take (i*17)++news++cur.toList.drop (i*17+news.length)).toArray);have hW:Hid _:=hW1;have sz:Hid (i*17+news.length≤cur.size):=by show _≤_;rw[hlen,h5];omega
 obtain⟨r1,hr1⟩:=eX ((cur.toList.take (i*17)++news++cur.toList.drop (i*17+news.length)).toArray);have hcl:cur.toList.length=cap*17:=by rw[aI,h5]
 have hfr:(cur.toList.take (i*17)++news).length=m*17:=by rw[aH,bF,hcl,hlen];omega
 have hs1:r1.size=cap*17:=by rw[hr1,bD,aH,hfr,aV,hcl,hlen];omega
 have ht1:r1.toList.take (m*17)=Bh AL (C.eraseIdx i):=by
  rw[hr1, ←hfr,List.take_left,hnews,List.eraseIdx_eq_take_drop_succ,Ja, ←SQ, ←h6,List.take_take,show min (i*17) ((m+1)*17)=i*17 by omega]
 have hg1:W1.heap[g]?=some (.cells r1 82 (0,0)):=by rw[hW1, ←hr1];exact setRow_heap _ _ _ _ _ _ s3.out
 obtain⟨W2,hW2⟩:=eX (W1.setRow g (r1.toList.take (m*17)++(AL Cr).toList++r1.toList.drop (m*17+17)).toArray)
 have hc2:∀ty,(aY #[42] ty #[.slice (some ⟨g,m*17,none⟩) 1 (cap-m)]).run aB W1=.ok (.tuple #[]) W2:=fun ty=>by
  rw[hW2];exact Py (E:=Ix) Ks ((JZ Cr).2) W1 ty g m (cap-m) r1 hg1 (by rw[hs1];show m*17+17≤_;omega)
 have HE:Hid (B8 B W2 (.slice (some ⟨g,0,none⟩) m cap) (C.eraseIdx i)∧Ao (Bn (.slice (some ⟨g,0,none⟩) (m+1) cap)) w W2):=by
  have hlt:(r1.toList.take (m*17)).length=m*17:=by rw[bF,aI,hs1];omega
  have hel:(C.eraseIdx i).length=m:=by rw[List.length_eraseIdx_of_lt (by omega),hm];rfl
  refine⟨⟨by rw[PR],.inr ⟨g,cap,_,by rw[hel],hB,by rw[hW2];exact setRow_heap _ _ _ _ _ _ hg1,by omega,h4,?_,?_⟩⟩,?_⟩
  ·have hrl:r1.toList.length=cap*17:=by rw[aI,hs1]
   rw[bD,aH,aH,hlt,aV,hrl];show _+17+_=_;omega
  ·rw[hel,List.append_assoc,List.take_append_of_le_length (by rw[hlt];exact aD _),List.take_of_length_le (by rw[hlt];exact aD _),ht1]
  ·have k1:Ao (Cj g) w W1:=by rw[hW1];exact⟨rfl,rfl,rfl,by simp,fun k _ hk=>setRow_other _ g k _ hk⟩
   have k2:Ao (Cj g) W1 W2:=by rw[hW2];exact⟨rfl,rfl,rfl,by simp,fun k _ hk=>setRow_other _ g k _ hk⟩
   exact(k1.trans k2 fun k e=> .inl e).mono fun k _ e=>by unfold Cj at e;unfold Bn Value.ownBlock;rw[e]
 have hcm:¬cap=m:=by omega
 clear hn h1 hB hlen hgl hnat hnews hW1 h5 h6 hcur hm hr1 hcl hfr hs1 ht1 hg1 hW2;go_enter Tryz.func95,Tryz.ntmps95;go_wp2_with fail;go_region_law_o (refine Od rfl (.tmp 22) (.tmp 25) rfl g i cap (by simp[Act.eval,aQ]) cur s3.out A (m-i) (cap-(i+1)) news (by simp[Act.eval,aQ]) s1.out hsrc.out s2.out (by omega) sz.out m (by omega) W1 hW.out ?_);go_wp2;go_ret;exact⟨_,rfl,HE.out.1,rfl,HE.out.2⟩
def Aao:Ag:=⟨82,17⟩
theorem Pn:Aao.Ok:=⟨⟨_,Tryz.underlying82,rfl⟩,by kernel_rfl⟩
theorem QN:∀ {l:List Cq},(l.Pairwise fun x y=>x.seq<y.seq)→∀ {i:Nat} {x:Cq},l[i]?=some x→l.find? (JD x.seq)=some x∧(l.filter fun y=> !(JD x.seq y))=l.eraseIdx i
 | [],_,i,x,h=>by simp at h
 | a::l,hp,i,x,h=>by
  obtain⟨h1,h2⟩:=List.pairwise_cons.1 hp
  cases i with
  | zero=>
   obtain rfl:a=x:=by simpa using h
   have e:JD a.seq a=true:=by unfold JD;simp
   refine⟨by rw[bJ,e],?_⟩
   rw[bG,e]
   simp only[Bool.not_true,Bool.false_eq_true,if_false,List.eraseIdx_cons_zero]
   exact List.filter_eq_self.2 fun y hy=>by unfold JD;have:=h1 y hy;simp;omega
  | succ i=>
   rw[List.getElem?_cons_succ] at h
   obtain⟨q1,q2⟩:=QN h2 h
   have:=h1 x (List.mem_of_getElem? h)
   have e:JD x.seq a=false:=by unfold JD;simp;omega
   refine⟨by rw[bJ,e];exact q1,?_⟩
   rw[bG,e,List.eraseIdx_cons_succ,q2]
   rfl
theorem VT{m:BQ}(hok:It m){i:Nat}{x:Cq}(hx:m.l[i]?=some x){s:Int}(hs:x.seq=s):Br m s=({m with l:=m.l.eraseIdx i},some x):=by
 subst hs;obtain⟨h1,h2⟩:=QN hok.rise hx;unfold Br Ab0;rw[h1,h2]
theorem TN{m:BQ}{s:Int}(h:∀(j:Nat) (x:Cq),m.l[j]?=some x→x.seq≠s):Br m s=(m,none):=by
 have:m.l.find? (JD s)=none:=List.find?_eq_none.2 fun x hx=>by
  obtain⟨j,hj⟩:=List.getElem?_of_mem hx;have:=h j x hj;unfold JD;simpa using this
 unfold Br;rw[this]
theorem TO(B:Nat)(w:World)(g:Nat)(m:BQ)(v:Value)(h:Dq B w g m v)(hm:Iu m)(s:Int):
  Calls aB 71 #[.pointer (some ⟨g,0,none⟩),.int .i64 s] w fun e w'=>e=.returned (.tuple #[.agg (AL ((Br m s).2.getD Cr)),.bool (Br m s).2.isSome])∧J3 B w w' g (Br m s).1 v:=by
 obtain⟨w0,hw0⟩:=eX (w.alloc (.cells (AL Cr) 82));have B0:Below w.heap.size w w0:=by rw[hw0];exact(aG _ _).alloc (aD _) _
 obtain⟨p,hp⟩:=eX w.heap.size;have Z0:w0.heap[p]?=some (.cells (AL Cr) 82 (0,0)):=by rw[hw0,hp];exact Ac _ _ _ rfl
 have hgp:g≠p:=by have:=h.foot_in g (.inl rfl);omega
 have h0:=h.below B0;obtain⟨o,cap,hv,hc1,hc2⟩:=h.own.slice;have hl64:=hm.len;obtain⟨q,hq⟩:=eX m.l.length;rw[←hq] at hv hc1 hl64;have HQ:Hid _:=hq
 have HF:Hid (∀W,Below w0.heap.size w0 W→W.cell? ⟨g,4,none⟩=some v∧W.frozen? ⟨g,4,none⟩=false∧EC Ix AL W v m.l∧W.heap[p]?=some (.cells (AL Cr) 82 (0,0))):=fun W hb=>
  ⟨(h0.below hb).f.c4,(h0.below hb).f.fz _,(h0.below hb).own.sl,(hb.block p (gS Z0)).trans Z0⟩
 have HN:Hid ((∀(j:Nat) (x:Cq),m.l[j]?=some x→x.seq≠s)→Br m s=(m,none)):=fun e=>TN e;have HS:Hid (∀W,Below w0.heap.size w0 W→Dq B W g m v∧Below w.heap.size w W):=fun W hb=>⟨h0.below hb,B0.trans (hb.mono B0.size)⟩;have HY:Hid (∀(i:Nat) (x:Cq),m.l[i]?=some x→x.seq=s→Br m s=({m with l:=m.l.eraseIdx i},some x)):=fun i x e1 e2=>VT hm.ok e1 e2
 have HD:Hid (∀W (i:Nat),Below w0.heap.size w0 W→i<q→Calls aB 95 #[v,.int .i64 (i:Int),.int .i64 ((i:Int)+1)] W fun e w'=> ∃u,e=.returned u∧B8 B w' u (m.l.eraseIdx i)∧u.ownBlock=v.ownBlock∧Ao (Bn v) W w'):=fun W i hb hi=>
  TC B W v _ (h0.below hb).own i (by rw[←hq];exact hi) (by rw[←hq];omega)
 have HX:Hid (∀W W' u (i:Nat),Below w0.heap.size w0 W→B8 B W' u (m.l.eraseIdx i)→u.ownBlock=v.ownBlock→Ao (Bn v) W W'→W'.cell? ⟨g,4,none⟩=some v∧W'.frozen? ⟨g,4,none⟩=false∧(∀k ob,W.heap[k]?=some (.cells (AL ob) 82 (0,0))→w.heap.size≤k→(W'.setCell ⟨g,4,none⟩ u).heap[k]?=some (.cells (AL ob) 82 (0,0)))∧∀W2,(Ao (Cj p) (W'.setCell ⟨g,4,none⟩ u) W2)→J3 B w W2 g {m with l:=m.l.eraseIdx i} v):=fun W W' u i hb hu hq1 hk=>by
  have hW:=h0.below hb;have hbW:Below w.heap.size w W:=B0.trans (hb.mono B0.size);have hgx:¬Bn v g:=Hw hW.own hW.blk (by decide);have hf:=Rw (hk.heap hW.blk hgx);have hp1:=hW.put (m':={m with l:=m.l.eraseIdx i}) hk hu (.inl hq1) rfl;refine⟨hf.c4,hf.fz _,fun k ob e hk1=> ?_,fun W2 h2=>⟨u,hp1.1.kept h2 fun k e e'=> ?_,?_⟩⟩
  ·have e1:¬Bn v k:=fun e'=>by have:=(h.own.lt k e').2;omega
   have e2:k≠g:=fun e'=>by have:=(h.foot_in g (.inl rfl)).2;omega
   rw[heap_setCell_other W' ⟨g,4,none⟩ k _ e2];exact hk.heap e e1
  ·unfold Cj at e';subst e';rcases e with e | e
   ·exact hgp e.symm
   ·rw[hq1] at e;have:=(h.own.lt _ e).2;omega
  ·have k1:=(FQ.of_below (F:=FB g v) hbW).trans hp1.2;exact⟨k1.kept.trans h2 fun k e=> .inr (by unfold Cj at e;omega),k1.foot⟩
 have HPW:Hid _:=hp;have HFT:Hid (¬FB g v w.heap.size):=fun e=>by have:=(h.foot_in _ e).2;omega
 have HIL:Hid (∀(i:Nat) (W':World) u,B8 B W' u (m.l.eraseIdx i)→∃o q c,u=.slice o q c):=fun i W' u hu=>by
  obtain⟨o,cap,e,_⟩:=hu.slice;exact⟨o,_,cap,e⟩
 unfold maxLen at hc2;rw[hp] at hgp;clear h h0 hm hq B0 Z0;subst hv;subst hp;go_enter Tryz.func71,Tryz.ntmps71;go_wp2_with (first|(((with_reducible refine Wc rfl ?_);refine P7 rfl rfl ?_;try rw[Qf]);refine Aw ?_));unfold AZ;rw[←hw0];have HW0:Hid _:=hw0;clear hw0;have HB0:Hid (Below w0.heap.size w0 w0):=aG _ _;obtain⟨c4,fz4,_,_⟩:=HF.out w0 HB0.out;go_wp2_with fail;go_loopw [16] (fun s16 wr=> ∃k:Nat,k≤q∧s16=.int .i64 (k:Int)∧(∀(j:Nat) (x:Cq),j<k→m.l[j]?=some x→x.seq≠s)∧Below w0.heap.size w0 wr) (fun s16 _=>q-(intOf s16).toNat)
 case atStart=>exact⟨0,Nat.zero_le _,rfl,fun j x hj=>by omega,HB0.out⟩
 case round=>
  obtain⟨k,hk,rfl,hno,hb⟩:=hrel;have HNO:Hid _:=hno;have HB:Hid _:=hb;obtain⟨c4,fz4,hgs,Z⟩:=HF.out wr hb;obtain⟨o0,cap0,hv0,hcp0,hcm0⟩:=hgs.slice;by_cases hlt:k<q
  ·have hlt':(k:Int)<(q:Int):=by omega
   obtain⟨g',off,cur,ty,fr,x,rfl,hg,hcc,hxk⟩:=hgs.at k hlt;have LD:(loadVar 82 ⟨g',off+k*17,none⟩).run aB wr=.ok (.agg (AL x)) wr:=Ud hg hcc;obtain⟨w1,hw1⟩:=eX (wr.alloc (.cells (AL x) 82));have B1:Hid (Below w0.heap.size w0 w1):=by show Below _ _ _;rw[hw1];exact HB.out.alloc HB.out.size _
   have A1:w1.heap[wr.heap.size]?=some (.cells (AL x) 82 (0,0)):=by rw[hw1];exact Ac _ _ _ rfl
   have f0:=(IF A1).c0;have HA1:Hid _:=A1;have HXK:Hid _:=hxk;have SR:(wr.alloc (.cells (AL Cr) 82)).setRow wr.heap.size (AL x)=w1:=by rw[hw1];exact BD _ _ _ _ _ rfl
   clear hno hb hgs hg hcc hxk hv0 A1 hw1
   go_wp2_with (first
    | ((with_reducible refine Wc rfl ?_);refine P7 rfl rfl ?_;try rw[Qf])
    | ((with_reducible refine Wb _ rfl ?_);refine Rr rfl _ rfl g' (off+k*17) rfl x LD ?_)
    | (((with_reducible refine Rs _ _ rfl ?_);refine LQ rfl _ _ rfl wr.heap.size x Cr rfl rfl (Ac _ _ _ rfl) _ SR ?_);refine Aw ?_))
   unfold AZ;clear LD SR;obtain⟨c4,fz4,_,_⟩:=HF.out w1 B1.out;obtain⟨sx,hsx⟩:=eX x.seq;have HSX:Hid _:=hsx;rw[←hsx] at f0;clear hsx;by_cases e1:sx=s
   ·subst e1;have hcall:=HD.out w1 k B1.out hlt;have hwr:IntKind.i64.wrap ((k:Int)+1)=(k:Int)+1:=by rw[IntKind.wrap_i64];omega
    go_wp2_with (go_at_call 95;refine hcall.mono ?_;rintro e w2 ⟨u,rfl,q1,q2,q3⟩;refine Aw ?_);unfold AZ;obtain⟨o2,n2,p2,rfl⟩:=HIL.out k w2 u q1;obtain⟨f1,f2,f3,f4⟩:=HX.out w1 w2 _ k B1.out q1 q2 q3;have F4:Hid _:=f4;have LX:=Acq (f3 wr.heap.size x HA1.out (bA (by rw[HW0.out];simp) HB.out.size));have ZX:=f3 w.heap.size Cr ((HF.out w1 B1.out).2.2.2) (aD _);have HA:Hid (Br m sx=({m with l:=m.l.eraseIdx k},some x)):=HY.out k x HXK.out HSX.out.symm;have HZW:Hid (Ao (Cj w.heap.size) (w2.setCell ⟨g,4,none⟩ (.slice o2 n2 p2)) ((w2.setCell ⟨g,4,none⟩ (.slice o2 n2 p2)).setRow w.heap.size (AL x))∧((w2.setCell ⟨g,4,none⟩ (.slice o2 n2 p2)).setRow w.heap.size (AL x)).heap[w.heap.size]?=some (.cells (AL x) 82 (0,0))):=⟨⟨rfl,rfl,rfl,by simp,fun k _ hk=>setRow_other _ _ k _ hk⟩,setRow_heap _ _ _ _ _ _ ZX⟩;clear q1 q2 q3 f3 f4 hcall
    go_wp2_with (first
     | ((with_reducible refine Wb _ rfl ?_);refine Rr rfl _ rfl wr.heap.size 0 rfl x LX ?_)
     | (((with_reducible refine Rs _ _ rfl ?_);refine LQ rfl _ _ rfl w.heap.size x Cr rfl rfl ZX _ rfl ?_)))
    refine Gt (E:=Aao) Pn rfl rfl w.heap.size rfl (AL x) rfl HZW.out.2 (.bool true) rfl ?_;rw[HA.out];exact⟨rfl,F4.out _ HZW.out.1⟩
   ·have d1:(sx==s)=false:=by simpa using e1
    go_wp2_with fail;go_roundw
    case rel=>
     refine⟨k+1,by omega,by go_num,fun j y hj hy=> ?_,B1.out⟩;by_cases hjk:j=k
     ·subst hjk;rw[HXK.out] at hy;obtain rfl:=aA hy;rw[←HSX.out];exact e1
     ·exact HNO.out j y (by omega) hy
    case measure=>simp[intOf];omega
  ·have hlt':¬(k:Int)<(q:Int):=by omega
   have HA:Hid (Br m s=(m,none)):=HN.out fun j x e=>hno j x (by have:=(aJ.1 e).1;rw[←HQ.out] at this;omega) e;have HZW:Hid (Ao (Cj w.heap.size) wr (wr.setRow w.heap.size (AL Cr))∧(wr.setRow w.heap.size (AL Cr)).heap[w.heap.size]?=some (.cells (AL Cr) 82 (0,0))):=⟨⟨rfl,rfl,rfl,by simp,fun k _ hk=>setRow_other _ _ k _ hk⟩,setRow_heap _ _ _ _ _ _ Z⟩;clear hno hb hgs hv0
   go_wp2_with (first
    | ((with_reducible refine Ae2 rfl ?_);refine We rfl rfl ?_)
    | (((with_reducible refine Rs _ _ rfl ?_);refine LQ rfl _ _ rfl w.heap.size Cr Cr rfl rfl Z _ rfl ?_)))
   refine Gt (E:=Aao) Pn rfl rfl w.heap.size rfl (AL Cr) rfl HZW.out.2 (.bool false) rfl ?_;rw[HA.out];obtain⟨t1,t2⟩:=HS.out wr HB.out;refine⟨rfl,_,t1.kept HZW.out.1 fun k e e'=> ?_,(Ao.of_below t2).trans HZW.out.1 fun k e=> .inr (by unfold Cj at e;omega),fun k e=> .inl e⟩;unfold Cj at e';subst e';exact HFT.out e
theorem Em{P:Program}{c:Code}{Q:Exit→Act→World→Prop}{a:Act}{w:World}(h:c.wp P (fun e a' w'=>e=.normal∧Q .normal a' w') a w):c.wp P Q a w:=
 Code.wp_mono (by rintro e a' w' ⟨rfl,h⟩;exact h) h
def OT(md:Region.Mode)(ops:Array Oper):List Nat→Array Bool→Bool
 | [],_=>true
 | k::ks,listed=>(bP md ops listed).contains k&&Region.free md ops listed k&&OT md ops ks (listed.setIfInBounds k true)
def Jt:List Nat→Array Bool→Array Bool
 | [],l=>l
 | k::ks,l=>Jt ks (l.setIfInBounds k true)
def Me : Oper := { dst := none, op := .move (.tmp 0), type := 0, pos := "", after := #[], guard := none }
def Df(lo:List Oper)(ks:List Nat):List Oper:=ks.map fun k=>(lo.drop k).headD Me
theorem M7{P:Program}{md:Region.Mode}{ops:Array Oper}{Q:Exit→Act→World→Prop}{S:World→Prop}{g:Nat}(hs:aW ops=true)(hQ:∀d v c a w,Q (.panic c) (aQ a d v) w→Q (.panic c) a w)(w:World)(hS:S w)(get:Nat→Oper):
  ∀(ks:List Nat) (listed:Array Bool) (a:Act),(∀k∈ks,ops[k]?=some (get k))→OT md ops ks listed=true→(ks.all fun k=>Ip (get k))=true→
   wpQuiet P ops S (fun a'=>wpAnyH P md ops Q S g (Jt ks listed) a' w) (ks.map get) a→wpAnyH P md ops Q S (ks.length+g) listed a w
 | [],_,_,_,_,_,h=>by simpa[wpQuiet,Jt] using h
 | k::ks,listed,a,hl,hB,hr,h=>by
  have h0:ops[k]?=some (get k):=hl k List.mem_cons_self
  simp only[OT,Bool.and_eq_true] at hB
  simp only[List.all_cons,Bool.and_eq_true] at hr
  have hst:qOp P ops S k (wpQuiet P ops S (fun a'=>wpAnyH P md ops Q S g (Jt (k::ks) listed) a' w) (ks.map get)) a:=by
   unfold qOp;simp only[h0];exact h
  obtain⟨v,hy,hK⟩:=yieldsIn_of_qOp h0 hst;have ih:=M7 hs hQ w hS get ks (listed.setIfInBounds k true) (a.put (get k).dst v) (fun j hj=>hl j (List.mem_cons_of_mem _ hj)) hB.2 hr.2 hK;rw[show(k::ks).length+g=(ks.length+g)+1 by simp;omega];exact wpAnyH_take h0 hs hB.1.2 hB.1.1 (fun c a w=>hQ (get k).dst v c a w) (KD hr.1 hy) hS ih
theorem AV{P:Program}{Q:Exit→Act→World→Prop}{S:World→Prop}{a:Act}{w:World}{lo:List Oper}{listed:Array Bool}(ks:List Nat)(n g:Nat)(hn:ks.length=n)(hs:aW lo.toArray=true)
  (hl:(ks.all fun k=>decide (k<lo.length))=true) (hB:OT .any lo.toArray ks listed=true) (hr:(ks.all fun k=>Ip ((lo.drop k).headD Me))=true) (hQ:∀d v c a w,Q (.panic c) (aQ a d v) w→Q (.panic c) a w) (hS:S w)
  (h:wpQuiet P lo.toArray S (fun a'=>wpAnyH P .any lo.toArray Q S g (Jt ks listed) a' w) (Df lo ks) a):wpAnyH P .any lo.toArray Q S (n+g) listed a w:=by
 have:=M7 (P:=P) (md:=.any) (Q:=Q) (g:=g) hs hQ w hS (fun k=>(lo.drop k).headD Me) ks listed a (fun k hk=>by
  rw[List.all_eq_true] at hl;have hk':k<lo.length:=of_decide_eq_true (hl k hk);show lo.toArray[k]?=_;rw[List.getElem?_toArray,List.getElem?_eq_getElem hk',List.drop_eq_getElem_cons hk'];rfl) hB hr h
 rwa [hn] at this
theorem Bb{P:Program}{Q:Exit→Act→World→Prop}{S:World→Prop}{a:Act}{w:World}{lo:List Oper}{listed:Array Bool}{g:Nat}(k:Nat)(hr:bP .any lo.toArray listed=[k])
  (h:wpOp P lo.toArray Q k (fun a' w'=>S w'∧wpAnyH P .any lo.toArray Q S g (listed.setIfInBounds k true) a' w') a w):wpAnyH P .any lo.toArray Q S (g+1) listed a w:=
 wpAnyH_all hr (by simp) fun i hi=>by obtain rfl:=List.mem_singleton.1 hi;exact h
theorem Jf{ops:Array Oper}{Q:Exit→Act→World→Prop}{i:Nat}{o:Oper}{K:Act→World→Prop}{a:Act}{w:World}(hi:ops[i]?=some o)(hw:bO o (yielded ops a.tmps)=true)(t:Nat)(ps:Array (Nat×Operand))(ho:o.op=.build t ps)(qs:Array (Nat×Value))(hq:(ps.toList.map fun p=>(p.1,a.eval p.2))=qs.toList)(v:Value)
  (h:(aX t qs).run aB w=.ok v w) (d:Option Tmp) (hd:o.dst=d) (hK:K (a.put d v) w):wpOp aB ops Q i K a w:=by
 have hq':(ps.map fun(i,x)=>(i,a.eval x))=qs:=Array.ext' (by rw[Array.toList_map];exact hq);exact ED hi hw v (by unfold execOp;simp only[ho,aR,hq',h,aK,aT]) d hd hK
theorem rR{P:Program}{Q:Exit→Act→World→Prop}{S:World→Prop}{a:Act}{w:World}{lo:List Oper}{listed:Array Bool}(ks:List Nat)(n g:Nat)(hS:S w)(h:wpQuiet P lo.toArray S (fun a'=>wpAnyH P .any lo.toArray Q S g (Jt ks listed) a' w) (Df lo ks) a)(hn:ks.length=n:=by rfl)(hs:aW lo.toArray=true:=by kernel_rfl)(hl:(ks.all fun k=>decide (k<lo.length))=true:=by decide)(hB:OT .any lo.toArray ks listed=true:=by kernel_rfl)(hr:(ks.all fun k=>Ip ((lo.drop k).headD Me))=true:=by kernel_rfl)(hQ:∀d v c a w,Q (.panic c) (aQ a d v) w→Q (.panic c) a w:=by intro d v c a w h;exact absurd h.1 (by simp)):wpAnyH P .any lo.toArray Q S (n+g) listed a w:=AV ks n g hn hs hl hB hr hQ hS h
theorem pk:(∀(lo:List Oper) (k:Nat) (ks:List Nat),Df lo (k::ks)=(lo.drop k).headD Me::Df lo ks)∧(∀lo:List Oper,Df lo []=[])∧(∀(a:Oper) (l:List Oper) (n:Nat),(a::l).drop (n+1)=l.drop n)∧(∀l:List Oper,l.drop 0=l)∧∀(a b:Oper) (l:List Oper),(a::l).headD b=a:=⟨fun _ _ _=>rfl,fun _=>rfl,fun _ _ _=>rfl,fun _=>rfl,fun _ _ _=>rfl⟩
end
end Go.Proofs.YtbhkoipcpcoooabGreat
