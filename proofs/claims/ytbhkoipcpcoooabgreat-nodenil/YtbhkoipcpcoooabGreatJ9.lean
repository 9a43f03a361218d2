import Derived.Test.YtbhkoipcpcoooabGreatJ8
import Derived.Test.YtbhkoipcpcoooabGreatJ6
import Derived.Test.YtbhkoipcpcoooabGreatJ2
import Derived.Test.YtbhkoipcpcoooabGreatJ4
import Derived.Test.YtbhkoipcpcoooabGreatJ7
import Derived.Test.YtbhkoipcpcoooabGreatJ5
import Derived.Test.YtbhkoipcpcoooabGreatJ1
import Derived.Test.YtbhkoipcpcoooabGreatJ3
import Derived.Laws.CopyRow
import Derived.StillTail
import Derived.BigRegion
import Derived.Deep.RegionLaw
import Derived.Shelf.RegionOpenPlain
namespace Go.Proofs.YtbhkoipcpcoooabGreat
set_option maxRecDepth 20000
set_option maxHeartbeats 64000000
open Go
open Go.Proofs.Tryz renaming prog → aA, ntmps83 → bE, func83 → bH, ntmps107 → bP, ntmps96 → bS, func107 → bT, func96 → bY
open _root_.List renaming setIfInBounds_toArray → aB, set_cons_succ → aC, set_cons_zero → aD, take_succ_cons → aG, filter_cons → aH, drop_succ_cons → aM, mem_cons → aO, drop_zero → aR, take_zero → aT, pairwise_cons → aV, pairwise_singleton → bF, mem_filter → bG, filter → bI, pairwise_append → bJ, map_cons → bO, takeWhile_cons → bQ, length_append → bR, length_cons → bZ, mem_append → cA, find?_cons → cB
open Go.RowKit.Below renaming refl → aI
open _root_.Array renaming getElem?_eq_some_iff → aJ, length_toList → aK, all_eq_true_iff_forall_mem → aZ
open Go.Sem renaming run_bind → aL, run_pure → bA
open Go.Act renaming put → aN
open _root_.Nat renaming le_refl → aP
open Go.Result renaming andThen_ok → aQ
open Go.World renaming drew → aW, setCell → aX, frozen? → bC
open Go.Region renaming wanted → aY
open Go.Instr renaming sureAddr → bB, storeAt → bN
open Go.Oper renaming wp → bD
open _root_.List.Pairwise renaming filter → bK, nil → bU
open Go.Builtin renaming min_ → cD, min2 → cE, max_ → cF, max2 → cG
section
open Go.RowKit
def AC(c:Ft):Ft:=(AH c.1 c.2,c.2)
theorem PP{c:Ft}(h:E6 c):E6 (AC c):=by
 have h1:Ax (AH c.1 c.2):=by unfold AH;exact Ik _
 exact⟨h1,h.2⟩
theorem Pe(c:Ft)(h:E6 c)(w:World):Calls aA 112 #[.agg (cv (Aq c.1) (Aq c.2))] w fun e w'=>e=.returned (.agg (cv (Aq (AC c).1) (Aq (AC c).2)))∧Below w.heap.size w w':=by
 have h':=PP h;rw[DH h.1.1,DH h.2.1,DH h'.1.1,DH h'.2.1];exact FP c.1 c.2 h.1 h.2 w
theorem RF{w:World}{q:Nat}{s:Ae}{c:Ft}(hg:w.heap[q]?=some (.cells (Ab s) 75 (0,0))):
  (bN 25 (.pointer (some ⟨q,4,none⟩)) (.agg (cv (Aq c.1) (Aq c.2)))).run aA w=.ok () (w.setRow q (Ab {s with cube:=c})):=by
 have hl:(cv (Aq c.1) (Aq c.2)).toList.length=26:=by rw[aK,AO _ _ (AB _) (AB _)]
 have hst:=run_storeCells_at aA q 4 75 (cv (Aq c.1) (Aq c.2)).toList 0 (Ab s) w hg (by rw[hl,AK];decide) (fun u hu=>(aZ.1 (FL _ _)) u (by simpa using hu));rw[Nat.add_zero,hl] at hst;have hl2:(cv (Aq s.cube.1) (Aq s.cube.2)).toList.length=26:=by rw[aK,AO _ _ (AB _) (AB _)]
 have hz:∀w,(sizeOf 25).run aA w=.ok 26 w:=fun w=>by kernel_rfl
 have e:((Ab s).toList.take 4++(cv (Aq c.1) (Aq c.2)).toList++(Ab s).toList.drop (4+26)).toArray=Ab {s with cube:=c}:=by
  apply Array.ext';unfold Ab;simp only[Array.toList_append];rw[List.take_append_of_le_length (by simp),List.append_assoc]
  have e1:List.drop (4+26) (#[Value.int .i64 s.bank,.int .i64 s.epoch,.int .i64 s.place,.int .i64 s.order].toList++(cv (Aq s.cube.1) (Aq s.cube.2)).toList++#[Value.int .i64 s.action,.int .i64 s.one,.int .i64 s.two,.int .i64 s.born,.int .i64 s.used,.int .i64 s.count].toList)=#[Value.int .i64 s.action,.int .i64 s.one,.int .i64 s.two,.int .i64 s.born,.int .i64 s.used,.int .i64 s.count].toList:=by
   rw[List.drop_append_of_le_length (by rw[bR,hl2];simp),List.drop_of_length_le (by rw[bR,hl2];simp),List.nil_append]
  rw[e1];simp
 rw[e] at hst;simp[bN,bB,storeVar,aL,Value.cells,hst,hz,AO _ _ (AB _) (AB _)]
theorem Ae3{P:Program}{ops:Array Oper}{Q:Exit→Act→World→Prop}{o:Oper}{rest:List Oper}{a:Act}{w:World}(x y:Operand)(_:o.op=.store 25 x y)(h:wpList P ops Q (o::rest) a w):wpList P ops Q (o::rest) a w:=h
theorem S9{ops:Array Oper}{rest:List Oper}{o:Oper}{a:Act}{w:World}{Q:Exit→Act→World→Prop}(hgd:o.guard=none)(x y:Operand)(ho:o.op=.store 25 x y)
  (q:Nat) (s:Ae) (c:Ft) (hx:a.eval x=.pointer (some ⟨q,4,none⟩)) (hy:a.eval y=.agg (cv (Aq c.1) (Aq c.2))) (hg:w.heap[q]?=some (.cells (Ab s) 75 (0,0))) (w4:World) (hw4:w.setRow q (Ab {s with cube:=c})=w4)
  (h:wpList aA ops Q rest (a.put o.dst undef) w4):wpList aA ops Q (o::rest) a w:=by
 subst hw4;refine wpList_plain hgd fun K hK=> ?_;unfold bD execOp;simp only[ho,hx,hy,aL,bA,aQ,RF hg];exact hK _ _ h
theorem UG(x:Ae)(c:Int):Ab {x with born:=c}=(Ab x).setIfInBounds 33 (.int .i64 c):=by
 unfold Ab;rw[PS _ _ 33 3 _ (by rw[Array.size_append,AO _ _ (AB _) (AB _)];rfl)];rfl
def JM(R:Rm)(S:Ay)(s:Ae):Ay×Int:=
 if s.bank=2 then ({S with a:=(FK R.auth S.a s (AC s.cube)).1},(FK R.auth S.a s (AC s.cube)).2)
 else if s.bank=3 then ({S with p:=(FK R.part S.p s (AC s.cube)).1},(FK R.part S.p s (AC s.cube)).2)
 else (S,1)
theorem Acu{R:Rm}{S:Ay}{s:Ae}(h2:s.bank≠2)(h3:s.bank≠3):JM R S s=(S,1):=by unfold JM;rw[if_neg h2,if_neg h3]
theorem Acv{R:Rm}{S:Ay}{s:Ae}{b:Nat}(hb:b=2∨b=3)(hs:s.bank=(b:Int)):JM R S s=(I8 S b (FK (II R b) (AY S b) s (AC s.cube)).1,(FK (II R b) (AY S b) s (AC s.cube)).2):=by
 unfold JM;rcases hb with rfl | rfl
 ·rw[if_pos (show s.bank=2 from hs)];rfl
 ·have hs3:s.bank=3:=hs;rw[if_neg (by omega),if_pos hs3];rfl
theorem BH.same{B:Nat}{w w':World}{g:Nat}{R:Rm}{S:Ay}{v1 v2 v3:Value}(h:BH B w g R S v1 v2 v3)(hb:Below w.heap.size w w'):Ck B w w' g R S v1 v2 v3:=⟨v1,v2,v3,h.below hb,Ao.of_below hb,fun _ hk=> .inl hk⟩
theorem Tw{W:World}{q:Nat}{s:Ae}{cu:Ft}(h:W.heap[q]?=some (.cells (Ab {s with cube:=cu}) 75 (0,0))):
  W.cell? ⟨q,33,none⟩=some (.int .i64 s.born)∧W.frozen? ⟨q,33,none⟩=false∧(W.setCell ⟨q,33,none⟩ (.int .i64 0)).cell? ⟨q,34,none⟩=some (.int .i64 s.used)∧(W.setCell ⟨q,33,none⟩ (.int .i64 0)).frozen? ⟨q,34,none⟩=false∧((W.setCell ⟨q,33,none⟩ (.int .i64 0)).setCell ⟨q,34,none⟩ (.int .i64 0)).cell? ⟨q,35,none⟩=some (.int .i64 s.count)∧((W.setCell ⟨q,33,none⟩ (.int .i64 0)).setCell ⟨q,34,none⟩ (.int .i64 0)).frozen? ⟨q,35,none⟩=false∧
  (((W.setCell ⟨q,33,none⟩ (.int .i64 0)).setCell ⟨q,34,none⟩ (.int .i64 0)).setCell ⟨q,35,none⟩ (.int .i64 0)).heap[q]?=some (.cells (Ab (EA s cu)) 75 (0,0))∧Ao (Cj q) W (((W.setCell ⟨q,33,none⟩ (.int .i64 0)).setCell ⟨q,34,none⟩ (.int .i64 0)).setCell ⟨q,35,none⟩ (.int .i64 0)):=by
 have h1:=heap_setCell_same W q 33 _ _ (.int .i64 0) h;rw[←UG] at h1;have h2:=heap_setCell_same _ q 34 _ _ (.int .i64 0) h1;rw[←Oh] at h2;have h3:=heap_setCell_same _ q 35 _ _ (.int .i64 0) h2;rw[←M4] at h3;have f0:=(DP h).c33;have f1:=(DP h1).c34;have f2:=(DP h2).c35;rw[Nat.zero_add] at f0 f1 f2;have kk:∀(W:World) (j:Nat) (u:Value),Ao (Cj q) W (W.setCell ⟨q,j,none⟩ u):=fun W j u=>⟨rfl,rfl,rfl,by simp[aX],fun k _ e=>heap_setCell_other W ⟨q,j,none⟩ k _ e⟩;exact⟨f0,by simp[bC,h],f1,by simp[bC,h1],f2,by simp[bC,h2],h3,((kk _ _ _).trans (kk _ _ _) fun k hk=> .inl hk).trans (kk _ _ _) fun k hk=> .inl hk⟩
theorem Acs(B:Nat)(w:World)(g:Nat)(R:Rm)(S:Ay)(v1 v2 v3:Value)(h:BH B w g R S v1 v2 v3)(s:Ae)(hok:E6 s.cube)(hn:∀b,(AY S b).length≤1000000):
  Calls aA 83 #[.pointer (some ⟨g,0,none⟩),.agg (Ab s)] w fun e w'=>e=.returned (.int .i64 (JM R S s).2)∧Ck B w w' g R (JM R S s).1 v1 v2 v3:=by
 have B0:Hid (Below w.heap.size w (w.alloc (.cells (Ab s) 75))):=(aI _ _).alloc (aP _) _;have c0:=(Gg w s 75).c0;have Q0:Hid ((w.alloc (.cells (Ab s) 75)).heap[w.heap.size]?=some (.cells (Ab s) 75 (0,0))):=Ac _ _ _ rfl;by_cases hb2:s.bank=2∨s.bank=3
 ·obtain⟨b,bi,o,hbb,hsB⟩:∃(b:Nat) (bi:Int) (o:Nat),(b=2∧bi=2∧o=6∨b=3∧bi=3∧o=7)∧s.bank=bi:=by
   rcases hb2 with e | e
   ·exact⟨2,2,6,.inl ⟨rfl,rfl,rfl⟩,e⟩
   ·exact⟨3,3,7,.inr ⟨rfl,rfl,rfl⟩,e⟩
  have hbi:bi=(b:Int):=by omega
  have hbo:o=4+b:=by omega
  have hb4:b<4:=by omega
  have EL:=Acv (R:=R) (S:=S) (by omega:b=2∨b=3) (hsB.trans hbi)
  have CT:Hid (∀W,Below w.heap.size w W→W.heap[w.heap.size]?=some (.cells (Ab s) 75 (0,0))→Calls aA 109 #[Bv v1 v2 v3 b,.func (.func 110) #[] #[.pointer (some ⟨w.heap.size,0,none⟩)]] W fun e w'=>e=.returned (.bool ((AY S b).any (Ni s)))∧Below W.heap.size W w'):=by
   intro W hb hq;exact SH _ _ W ((h.below hb).bank b).sl (hn b) 110 #[.pointer (some ⟨w.heap.size,0,none⟩)] (Ni s) (fun vs W=>by have hf:=Tryz.func110;simp[go_sem]) (fun x W' hW'=>Zo x s W' _ ((hW'.block _ (aJ.1 hq).1).trans hq))
  have FU:Hid (∀W,Below w.heap.size w W→Calls aA 111 #[.pointer (some ⟨g,0,none⟩),.int .i64 bi] W fun e w'=>e=.returned (.bool (decide ((AY S b).length=II R b)))∧Below W.heap.size W w'):=by
   intro W hb;rw[hbi];exact Ss B W g R S v1 v2 v3 (h.below hb) b hb4
  have CA:Hid (∀W,Calls aA 112 #[.agg (cv (Aq s.cube.1) (Aq s.cube.2))] W fun e w'=>e=.returned (.agg (cv (Aq (AC s.cube).1) (Aq (AC s.cube).2)))∧Below W.heap.size W w'):=Pe s.cube hok;have HT:Hid (BH B w g R S v1 v2 v3):=h;rw[hsB] at c0;have d0:∀u:Al (w.alloc (.cells (Ab s) 75)),u.world.cell? ⟨w.heap.size,0,none⟩=some (.int .i64 bi):=fun u=>by have h9:=(Kg Q0.out (DP Q0.out) u).c0;rw[hsB] at h9;exact h9
  obtain⟨vb,hvb⟩:∃vb,vb=Bv v1 v2 v3 b:=⟨_,rfl⟩;have d1:∀u:Al (w.alloc (.cells (Ab s) 75)),u.world.cell? ⟨g,o,none⟩=some vb:=fun u=>by have h9:=((HT.out.below B0.out).below u.below).f.bankCell b hb4;rw[←hvb] at h9;rw[hbo];exact h9
  have CT1:Hid (∀u:Al (w.alloc (.cells (Ab s) 75)),Calls aA 109 #[vb,.func (.func 110) #[] #[.pointer (some ⟨w.heap.size,0,none⟩)]] u.world fun e w'=>e=.returned (.bool ((AY S b).any (Ni s)))∧Below u.world.heap.size u.world w'):=by intro u;rw[hvb];exact CT.out u.world (Bd B0.out B0.out.size u.below) (Ai Q0.out _ ⟨u,rfl⟩)
  have ne1:=Al.ne (w.alloc (.cells (Ab s) 75));have LL:=Ln (II R b) (AY S b) s (AC s.cube);have EL':Hid (JM R S s=(I8 S b (FK (II R b) (AY S b) s (AC s.cube)).1,(FK (II R b) (AY S b) s (AC s.cube)).2)):=EL;have FU1:Hid (∀W,Below w.heap.size w W→Calls aA 111 #[.pointer (some ⟨g,0,none⟩),.int .i64 bi] W fun e w'=>e=.returned (.bool (decide ((AY S b).length=II R b)))∧Below W.heap.size W w'):=FU.out;have HBC:Hid (∀W,BH B W g R S v1 v2 v3→W.cell? ⟨g,o,none⟩=some (Bv v1 v2 v3 b)):=fun W hW=>by rw[hbo];exact(IB (BH.blk hW)).bankCell b hb4
  have HBK:Hid (∀W,BH B W g R S v1 v2 v3→Am B W (Bv v1 v2 v3 b) (AY S b)):=fun W hW=>hW.bank b;clear h hb2 CT FU EL hvb hb4 hbi hbo;rcases hbb with ⟨rfl,rfl,rfl⟩ | ⟨rfl,rfl,rfl⟩
  all_goals
   rcases LL with ⟨hany,el⟩ | ⟨hany,hlen,el⟩ | ⟨hany,hlen,el⟩
   ·have CT2:=CT1.out;rw[hany] at CT2;have CT2:Hid _:=CT2;have ER:Hid (JM R S s=(S,9)):=by show _=_;rw[EL'.out,el];rfl
    clear CT1 el hany EL' FU1;go_enter bH,bE;go_wp2_with fail;refine AR (by kernel_rfl) (by kernel_rfl) ?_
    iterate 3 (go_big_quiet_step (rfl))
    refine DG rfl _ rfl _ rfl ?_;simp only[aN,aB,aC,aD]
    iterate 4 (go_big_quiet_step (rfl))
    go_big_quiet_want;go_big_quiet_op;refine⟨_,fun u=>Calls.later_of (CT2.out u),?_⟩;go_big_quiet_on;go_big_quiet_step (rfl);refine wpQuiet_nil ?_;rintro w' ⟨u,rfl⟩;have B1:Hid (Below w.heap.size w u.world):=Bd B0.out B0.out.size u.below;have Q1:Hid (u.world.heap[w.heap.size]?=some (.cells (Ab s) 75 (0,0))):=Ai Q0.out _ ⟨u,rfl⟩;go_wp2_with fail;go_ret;rw[ER.out];exact⟨rfl,HT.out.same B1.out⟩
   ·have CT2:=CT1.out;rw[hany] at CT2;have CT2:Hid _:=CT2;have ER:Hid (JM R S s=(S,13)):=by show _=_;rw[EL'.out,el];rfl
    have FU2:=FU1.out;rw[decide_eq_true hlen] at FU2;have FU2:Hid _:=FU2;clear CT1 el hany EL' FU1 hlen;go_enter bH,bE;go_wp2_with fail;refine AR (by kernel_rfl) (by kernel_rfl) ?_
    iterate 3 (go_big_quiet_step (rfl))
    refine DG rfl _ rfl _ rfl ?_;simp only[aN,aB,aC,aD]
    iterate 4 (go_big_quiet_step (rfl))
    go_big_quiet_want;go_big_quiet_op;refine⟨_,fun u=>Calls.later_of (CT2.out u),?_⟩;go_big_quiet_on;go_big_quiet_step (rfl);refine wpQuiet_nil ?_;rintro w' ⟨u,rfl⟩;have B1:Hid (Below w.heap.size w u.world):=Bd B0.out B0.out.size u.below;have Q1:Hid (u.world.heap[w.heap.size]?=some (.cells (Ab s) 75 (0,0))):=Ai Q0.out _ ⟨u,rfl⟩;have c8:=(DP Q1.out).c0;rw[hsB] at c8;go_wp2_with (go_at_call 111;refine(FU2.out u.world B1.out).mono ?_;rintro e w2 ⟨rfl,hb2⟩;have B2:Hid (Below w.heap.size w w2):=Bd B1.out B1.out.size hb2;have Q2:Hid (w2.heap[w.heap.size]?=some (.cells (Ab s) 75 (0,0))):=(hb2.block _ (aJ.1 Q1.out).1).trans Q1.out;have c9:=(DP Q2.out).c0;rw[hsB] at c9;clear hb2;refine Dl ?_);unfold EZ;go_wp2_with fail;go_ret;rw[ER.out];exact⟨rfl,HT.out.same B2.out⟩
   ·have CT2:=CT1.out;rw[hany] at CT2;have CT2:Hid _:=CT2;have ER:=EL'.out;rw[el] at ER;have ER:Hid _:=ER;have FU2:=FU1.out;rw[decide_eq_false hlen] at FU2;have FU2:Hid _:=FU2;clear CT1 el hany EL' FU1 hlen;go_enter bH,bE;go_wp2_with fail;refine AR (by kernel_rfl) (by kernel_rfl) ?_
    iterate 3 (go_big_quiet_step (rfl))
    refine DG rfl _ rfl _ rfl ?_;simp only[aN,aB,aC,aD]
    iterate 4 (go_big_quiet_step (rfl))
    go_big_quiet_want;go_big_quiet_op;refine⟨_,fun u=>Calls.later_of (CT2.out u),?_⟩;go_big_quiet_on;go_big_quiet_step (rfl);refine wpQuiet_nil ?_;rintro w' ⟨u,rfl⟩;have B1:Hid (Below w.heap.size w u.world):=Bd B0.out B0.out.size u.below;have Q1:Hid (u.world.heap[w.heap.size]?=some (.cells (Ab s) 75 (0,0))):=Ai Q0.out _ ⟨u,rfl⟩;have c8:=(DP Q1.out).c0;rw[hsB] at c8;go_wp2_with (go_at_call 111;refine(FU2.out u.world B1.out).mono ?_;rintro e w2 ⟨rfl,hb2⟩;have B2:Hid (Below w.heap.size w w2):=Bd B1.out B1.out.size hb2;have Q2:Hid (w2.heap[w.heap.size]?=some (.cells (Ab s) 75 (0,0))):=(hb2.block _ (aJ.1 Q1.out).1).trans Q1.out;have c9:=(DP Q2.out).c0;rw[hsB] at c9;clear hb2;refine Dl ?_);unfold EZ;go_wp2_with (first|((with_reducible refine Afk _ rfl ?_);refine IN rfl _ rfl w.heap.size 4 rfl _ _ _ (Aq s.cube.1) (Aq s.cube.2) (AB _) (AB _) Q2.out (FY s) ?_)|(go_at_call 112;refine(CA.out _).mono ?_;rintro e w3 ⟨rfl,hb3⟩;have B3:Hid (Below w.heap.size w w3):=Bd B2.out B2.out.size hb3;have Q3:Hid (w3.heap[w.heap.size]?=some (.cells (Ab s) 75 (0,0))):=(hb3.block _ (aJ.1 Q2.out).1).trans Q2.out;clear hb3;refine Dl ?_));unfold EZ;obtain⟨w4,hw4⟩:∃w4,World.setRow w3 w.heap.size (Ab {s with cube:=AC s.cube})=w4:=⟨_,rfl⟩
    go_wp2_with (first|((with_reducible refine Ae3 _ _ rfl ?_);refine S9 rfl _ _ rfl w.heap.size s (AC s.cube) rfl rfl Q3.out w4 hw4 ?_;refine Dl ?_));unfold EZ;have Q4:Hid (w4.heap[w.heap.size]?=some (.cells (Ab {s with cube:=AC s.cube}) 75 (0,0))):=by show _=_;rw[←hw4];exact setRow_heap _ _ _ _ _ _ Q3.out
    have K4:Hid (Ao (Cj w.heap.size) w3 w4):=by show Ao _ _ _;rw[←hw4];exact Gh _ _ _
    clear hw4;obtain⟨l1,l2,l3,l4,l5,l6,l7,l8⟩:=Tw (W:=w4) Q4.out;have L7:Hid _:=l7;have L8:Hid _:=l8;clear l7 l8;go_wp2_with fail;obtain⟨w5,hw5⟩:∃w5,w5=aX (aX (aX w4 ⟨w.heap.size,33,none⟩ (.int .i64 0)) ⟨w.heap.size,34,none⟩ (.int .i64 0)) ⟨w.heap.size,35,none⟩ (.int .i64 0):=⟨_,rfl⟩;have Q9:Hid (w5.heap[w.heap.size]?=some (.cells (Ab (EA s (AC s.cube))) 75 (0,0))):=by show _=_;rw[hw5];exact L7.out
    have BW9:Hid (Below w.heap.size w w5):=by show Below _ _ _;rw[hw5];exact VM ((Ao.of_below (X:=Cj w.heap.size) B3.out).trans (K4.out.trans L8.out fun k hk=> .inl hk) fun k hk=> .inl hk) fun k hk=>by unfold Cj at hk;omega
    rw[←hw5];clear hw5 l1 l2 l3 l4 l5 l6 L7 L8 K4 Q4;have TT9:Hid (BH B w5 g R S v1 v2 v3):=HT.out.below BW9.out;have QG9:Hid (¬Cv g v1 v2 v3 w.heap.size):=by show¬_;intro e;have h9:=(HT.out.foot_in _ e).2;omega
    have BB9:Hid (B≤w.heap.size):=by show _≤_;have h9:=HT.out.hB;have h8:=(aJ.1 HT.out.blk).1;omega
    have e9:∀z:Rl w.heap.size (.cells (Ab (EA s (AC s.cube))) 75 (0,0)),z.world.cell? ⟨w.heap.size,0,none⟩=some (.int .i64 s.bank):=fun z=>(DP z.k1).c0;rw[hsB] at e9;refine En (fun a a' w'=> ∃y37 y38 y39 y40 y41 y42 y43 y44 y45 y46 y47 y48 y49 y50 y51 y52,a'=((((((((((((((((a.put (some 37) y37).put (some 38) y38).put (some 39) y39).put (some 40) y40).put (some 41) y41).put (some 42) y42).put (some 43) y43).put (some 44) y44).put (some 45) y45).put (some 46) y46).put (some 47) y47).put (some 48) y48).put (some 49) y49).put (some 50) y50).put (some 51) y51).put (some 52) y52)∧Ck B w w' g R (JM R S s).1 v1 v2 v3) ?_ ?_
    ·have ne9:Nonempty (Rl w.heap.size (.cells (Ab (EA s (AC s.cube))) 75 (0,0))):=⟨⟨w5,Q9.out⟩⟩;refine BJ (E7 w.heap.size (.cells (Ab (EA s (AC s.cube))) 75 (0,0))) 17 rfl (by kernel_rfl) ?_;refine rE 0 6 11 (E7.of (w:=aW w5) Q9.out) ?_;simp only[aR,aG,aT]
     iterate 6 (go_big_quiet_step (rfl))
     refine wpQuiet_nil ?_;refine Gy (i:=6) (some 43) rfl rfl _ rfl _ rfl rfl (by kernel_rfl) (by kernel_rfl) (by kernel_rfl) (E7.of (w:=aW w5) Q9.out) ?_;simp only[aN,aB,aC,aD];refine rE 7 2 8 (E7.of (w:=aW w5) Q9.out) ?_;simp only[aM,aR,aG,aT];go_big_quiet_step (rfl);go_big_quiet_step (rfl);refine wpQuiet_nil ?_;refine rE 10 1 7 (E7.of (w:=aW w5) Q9.out) ?_;simp only[aM,aR,aG,aT];refine Ov (E:=DD) D8 rfl _ rfl w.heap.size 0 rfl _ _ _ (Ab (EA s (AC s.cube))) (AK _) (by rintro w' ⟨z,rfl⟩;exact z.k1) (AA _ _) ?_;simp only[aN,aB,aC,aD];refine wpQuiet_nil ?_;refine Gy (i:=13) (some 50) rfl rfl _ rfl _ rfl rfl (by kernel_rfl) (by kernel_rfl) (by kernel_rfl) (E7.of (w:=aW w5) Q9.out) ?_;simp only[aN,aB,aC,aD]
     refine rE 14 1 5 (E7.of (w:=aW w5) Q9.out) ?_;simp only[aM,aR,aG,aT];go_big_quiet_step (rfl);refine wpQuiet_nil ?_;refine wpAnyH_all (rs:=[9,11]) (by kernel_rfl) (by decide) ?_;intro i hi;simp only[aO,List.not_mem_nil,or_false] at hi;rcases hi with rfl | rfl
     ·refine ED rfl rfl _ (MQ rfl _ _ _ _ rfl (HBC.out _ (BH.below TT9.out (by first | exact(aI _ _).drew | exact(aI _ _).drew.alloc (aP _) _)))) (some 46) rfl ?_;refine⟨E7.of (w:=aW w5) Q9.out,?_⟩;simp only[aN,aB,aC,aD];refine rO 11 ?_;refine H8 rfl rfl _ rfl (EA s (AC s.cube)) rfl (some 48) rfl ?_;refine⟨E7.of (Af _ _ _ _ Q9.out),?_⟩;simp only[aN,aB,aC,aD];refine rO 12 ?_;refine JA rfl rfl _ _ rfl B _ _ (EA s (AC s.cube)) rfl (HBK.out _ (TT9.out.below ((aI _ _).drew.alloc (aP _) _))) _ 1 rfl (Ac _ _ _ rfl) (hn _) (by have h9:=BW9.out.size;have h8:=BB9.out;simp;omega) (some 49) rfl ?_;intro v' w9 hown9 hgr9 hat9;have F9:=PT (s:=(EA s (AC s.cube))) HT.out (by decide) (by decide) BW9.out v' w9 hown9 hgr9 hat9;obtain⟨⟨o9,n9,c9,rfl⟩,ce9,fz9,bl9,tt9⟩:=F9;refine⟨E7.of (bl9 _ _ QG9.out Q9.out).1,?_⟩;simp only[aN,aB,aC,aD]
      refine rE 15 1 1 (E7.of (bl9 _ _ QG9.out Q9.out).1) ?_;simp only[aM,aR,aG,aT];go_big_quiet_step (rfl);refine wpQuiet_nil ?_;refine rO 16 ?_;refine EP rfl rfl (Nm rfl _ _ _ _ _ _ _ rfl rfl ce9 fz9) rfl ?_;refine⟨E7.of (bl9 _ _ QG9.out Q9.out).2,?_⟩;refine wpAnyH_done (by kernel_rfl) ?_ _;exact⟨rfl,_,_,_,_,_,_,_,_,_,_,_,_,_,_,_,_,rfl,by rw[ER.out];exact tt9⟩
     ·refine H8 rfl rfl _ rfl (EA s (AC s.cube)) rfl (some 48) rfl ?_;refine⟨E7.of (Af _ _ _ _ Q9.out),?_⟩;simp only[aN,aB,aC,aD];refine rO 9 ?_;refine ED rfl rfl _ (MQ rfl _ _ _ _ rfl (HBC.out _ (BH.below TT9.out (by first | exact(aI _ _).drew | exact(aI _ _).drew.alloc (aP _) _)))) (some 46) rfl ?_;refine⟨E7.of (Af _ _ _ _ Q9.out),?_⟩;simp only[aN,aB,aC,aD];refine rO 12 ?_;refine JA rfl rfl _ _ rfl B _ _ (EA s (AC s.cube)) rfl (HBK.out _ (TT9.out.below ((aI _ _).drew.alloc (aP _) _))) _ 1 rfl (Ac _ _ _ rfl) (hn _) (by have h9:=BW9.out.size;have h8:=BB9.out;simp;omega) (some 49) rfl ?_;intro v' w9 hown9 hgr9 hat9;have F9:=PT (s:=(EA s (AC s.cube))) HT.out (by decide) (by decide) BW9.out v' w9 hown9 hgr9 hat9;obtain⟨⟨o9,n9,c9,rfl⟩,ce9,fz9,bl9,tt9⟩:=F9;refine⟨E7.of (bl9 _ _ QG9.out Q9.out).1,?_⟩;simp only[aN,aB,aC,aD]
      refine rE 15 1 1 (E7.of (bl9 _ _ QG9.out Q9.out).1) ?_;simp only[aM,aR,aG,aT];go_big_quiet_step (rfl);refine wpQuiet_nil ?_;refine rO 16 ?_;refine EP rfl rfl (Nm rfl _ _ _ _ _ _ _ rfl rfl ce9 fz9) rfl ?_;refine⟨E7.of (bl9 _ _ QG9.out Q9.out).2,?_⟩;refine wpAnyH_done (by kernel_rfl) ?_ _;exact⟨rfl,_,_,_,_,_,_,_,_,_,_,_,_,_,_,_,_,rfl,by rw[ER.out];exact tt9⟩
    ·rintro a' w' ⟨y37,y38,y39,y40,y41,y42,y43,y44,y45,y46,y47,y48,y49,y50,y51,y52,rfl,tt9⟩;have T9:Hid _:=tt9;clear tt9;simp only[aN,aB,aC,aD];go_wp2_with fail;go_ret;exact⟨by rw[ER.out];rfl,T9.out⟩
 ·have hn2:s.bank≠2:=fun e=>hb2 (.inl e);have hn3:s.bank≠3:=fun e=>hb2 (.inr e);have EL:Hid (JM R S s=(S,1)):=Acu hn2 hn3;have FT:Hid (Ck B w (w.alloc (.cells (Ab s) 75)) g R S v1 v2 v3):=h.same B0.out;clear h hok hb2 hn;have hd2:(s.bank !=2)=true:=by simpa using hn2
  have hd3:(s.bank !=3)=true:=by simpa using hn3
  generalize s.bank=sb at c0 hn2 hn3 hd2 hd3;go_enter bH,bE;go_wp2_with fail;go_ret;rw[EL.out];exact⟨rfl,FT.out⟩
structure Hs(n:Nat)(R:Rm)(S:Ay):Prop where
 inv:LH E6 n R S
 ord:∀x∈S.c,x.order=0
 dist:FC S.c
theorem Hs.more{n:Nat}{R:Rm}{S:Ay}(h:Hs n R S):Hs (n+1) R S:=⟨h.inv.more,h.ord,h.dist⟩
theorem Zu(R:Rm):Hs 0 R ⟨[],[],[]⟩:=⟨Acy _ _,fun x hx=>by simp at hx,bU⟩
theorem SD{A D:List Ae}{x y:Ae}(h:FC (A++x::D))(he:y.epoch=x.epoch)(hc:y.cube=x.cube):FC (A++y::D):=by
 unfold FC at h ⊢;rw[bJ] at h ⊢;rw[aV] at h ⊢;refine⟨h.1,⟨fun z hz=>by rw[he,hc];exact h.2.1.1 z hz,h.2.1.2⟩,fun a ha b hb=> ?_⟩;rcases aO.1 hb with rfl | hb
 ·rw[he,hc];exact h.2.2 a ha x (by simp)
 ·exact h.2.2 a ha b (by simp[hb])
theorem Ql{s x:Ae}:Fk s x=true↔x.epoch=s.epoch∧x.cube=s.cube:=by unfold Fk;simp
theorem QR{C:List Ae}{s:Ae}(h:FC C)(hn:∀y∈C,Fk s y=false):FC (C++[s]):=by
 unfold FC at h ⊢;rw[bJ];refine⟨h,bF _ _,fun a ha b hb=> ?_⟩;obtain rfl:b=s:=by simpa using hb
 intro e;have h1:=Ql.2 e;rw[hn a ha] at h1
 cases h1
theorem VB(room:Nat)(C:List Ae)(s:Ae)(h:FC C):FC (BO room C s).1:=by
 rcases Im room C s with ⟨_,e⟩ | ⟨_,A,x,D,⟨h1,h2,_⟩,e⟩ | ⟨_,hn,hf,A,x,D,⟨h1,_⟩,e⟩ | ⟨_,hn,hf,e⟩
 ·rw[e];exact h
 ·rw[e];subst h1;obtain⟨q1,q2⟩:=Ql.1 h2;exact SD h q1.symm q2.symm
 ·rw[e];subst h1;refine QR ?_ fun y hy=>hn y ?_
  ·unfold FC at h ⊢;refine h.sublist ?_;exact List.Sublist.append (List.Sublist.refl _) (List.sublist_cons_self _ _)
  ·rcases cA.1 hy with h2 | h2
   ·simp[h2]
   ·simp[h2]
 ·rw[e];exact QR h hn
theorem OP{n:Nat}{R:Rm}{S:Ay}(h:Hs n R S)(s:Ae)(hs:s.order=0):(∀x∈(BO R.cache S.c s).1,x.order=0)∧FC (BO R.cache S.c s).1:=
 ⟨OM _ _ _ h.ord hs,VB _ _ _ h.dist⟩
theorem QA{n:Nat}{R:Rm}{S:Ay}(h:Hs n R S)(mt:Ae→Bool)(now:Int):(∀x∈(Ct S mt now).1.c,x.order=0)∧FC (Ct S mt now).1.c:=by
 rcases G7 S mt with ⟨A,x,D,⟨h1,_⟩,e⟩ | ⟨_,A,x,D,⟨h1,_⟩,e⟩ | ⟨_,_,A,x,D,⟨h1,_⟩,e⟩ | ⟨_,_,_,e⟩
 ·unfold Ct;rw[e];simp only[I8,if_true];have h2:=h.ord;have h3:=h.dist;rw[h1] at h2 h3;refine⟨fun y hy=> ?_,SD h3 rfl rfl⟩;rcases cA.1 hy with q | q
  ·exact h2 y (by simp[q])
  ·rcases aO.1 q with rfl | q
   ·exact h2 x (by simp)
   ·exact h2 y (by simp[q])
 ·unfold Ct;rw[e];exact⟨h.ord,h.dist⟩
 ·unfold Ct;rw[e];exact⟨h.ord,h.dist⟩
 ·unfold Ct;rw[e];exact⟨h.ord,h.dist⟩
theorem Kh{n:Nat}{R:Rm}{S:Ay}(h:Hs n R S)(x:Aap)(hq:E6 x.slot.cube):Hs (n+1) R (Oe AC Dr R S x):=by
 refine⟨Zv h.inv x (PP hq),?_,?_⟩
 all_goals
  unfold Oe;by_cases h1:x.kind=1
  ·rw[if_pos h1]
   first | exact(OP h (BB x.now x.slot.epoch (AC x.slot.cube) x.slot.action) rfl).1 | exact(OP h (BB x.now x.slot.epoch (AC x.slot.cube) x.slot.action) rfl).2
  rw[if_neg h1];by_cases h2:x.kind=2
  ·rw[if_pos h2];by_cases b2:x.slot.bank=2
   ·rw[if_pos b2];first | exact h.ord | exact h.dist
   rw[if_neg b2];by_cases b3:x.slot.bank=3
   ·rw[if_pos b3];first | exact h.ord | exact h.dist
   rw[if_neg b3];first | exact h.ord | exact h.dist
  rw[if_neg h2];by_cases h3:x.kind=3
  ·rw[if_pos h3];first | exact(QA h _ _).1 | exact(QA h _ _).2
  rw[if_neg h3];by_cases h6:x.kind=6
  ·rw[if_pos h6];first | exact fun y hy=>h.ord y (bG.1 hy).1 | exact bK _ h.dist
  rw[if_neg h6];by_cases h7:x.kind=7
  ·rw[if_pos h7];first | exact fun y hy=>h.ord y (bG.1 hy).1 | exact bK _ h.dist
  rw[if_neg h7]
  first | exact h.ord | exact h.dist
end
def Afi(c:List Int×List Int):Prop:=AH c.1 c.2=c.1∧Ax c.1∧Ax c.2
def Gl(x:Ae):List Ae→List Ae
 | []=>[x]
 | y::l=>if x.order≤y.order then x::y::l else y::Gl x l
def ID(l:List Ae):List Ae:=l.foldr Gl []
theorem Nr(x z:Ae):∀l:List Ae,z∈Gl x l↔z=x∨z∈l
 | []=>by simp[Gl]
 | y::l=>by
  unfold Gl
  split
  ·simp
  ·rw[aO,Nr x z l,aO]
   constructor <;> (rintro(h | h | h) <;> simp[h])
theorem RV(x:Ae):∀l:List Ae,(Gl x l).length=l.length+1
 | []=>rfl
 | y::l=>by
  unfold Gl
  split
  ·simp
  ·rw[bZ,RV x l,bZ]
theorem Qr{x:Ae}:∀ {l:List Ae},Ev EW l→Ev EW (Gl x l)
 | [],_=>bF _ _
 | y::l,h=>by
  have h':=aV.1 h
  unfold Gl
  split
  ·rename_i hxy
   refine aV.2 ⟨fun z hz=> ?_,h⟩
   rcases aO.1 hz with rfl | hz
   ·unfold EW;omega
   ·have:=h'.1 z hz
    unfold EW at this ⊢
    omega
  ·rename_i hxy
   refine aV.2 ⟨fun z hz=> ?_,Qr h'.2⟩
   rcases(Nr x z l).1 hz with rfl | hz
   ·unfold EW;omega
   ·exact h'.1 z hz
theorem Oz{x:Ae}:∀l:List Ae,Bl EW (Gl x l) (x::l)
 | []=>fun _=>rfl
 | y::l=>by
  unfold Gl
  split
  ·exact fun _=>rfl
  ·rename_i hxy
   intro k
   have ih:=Oz (x:=x) l k
   by_cases hx:EW x=k
   ·have hy:¬EW y=k:=by unfold EW at hx ⊢;omega
    rw[aH,if_neg (by simpa using hy),ih,aH,aH,if_pos (by simpa using hx),if_pos (by simpa using hx),aH,if_neg (by simpa using hy)]
   ·have e1:bI (fun z=>EW z==k) (Gl x l)=bI (fun z=>EW z==k) l:=by rw[ih,aH,if_neg (by simpa using hx)]
    have e2:bI (fun z=>EW z==k) (x::y::l)=bI (fun z=>EW z==k) (y::l):=by rw[aH,if_neg (by simpa using hx)]
    rw[e2,aH,e1,aH]
theorem Jh:∀l:List Ae,Jz l (ID l)
 | []=>⟨rfl,bU,Bl.refl _ _⟩
 | x::l=>by
  obtain⟨h1,h2,h3⟩:=Jh l
  refine⟨?_,Qr h2,(Oz (ID l)).trans fun k=> ?_⟩
  ·show(Gl x (ID l)).length=_
   rw[RV,h1]
   rfl
  ·rw[aH,h3 k,aH]
theorem RU{f:Ae→Ae}(hf:∀s,(f s).order=s.order)(x:Ae):∀l:List Ae,Gl (f x) (l.map f)=(Gl x l).map f
 | []=>rfl
 | y::l=>by
  show(if (f x).order≤(f y).order then _ else _)=(if x.order≤y.order then _ else _:List Ae).map f
  rw[hf,hf]
  split
  ·rfl
  ·rw[RU hf x l]
   rfl
theorem TT{f:Ae→Ae}(hf:∀s,(f s).order=s.order):∀l:List Ae,ID (l.map f)=(ID l).map f
 | []=>rfl
 | x::l=>by
  show Gl (f x) (ID (l.map f))=(Gl x (ID l)).map f
  rw[TT hf l,RU hf]
def FF(s:Ae):AN:=⟨s.order,s.cube,s.action⟩
def qX(S:Ay)(e:Int):List AN:=(ID ((S.a.map fun s=>{s with count:=0}).filter fun s=>decide (s.epoch=e))).map FF
theorem Qm{S:Ay}{e:Int}{m:List Ae}(h:Ph S e m):m=ID (S.a.filter fun x=>x.epoch==e):=
 Og h.desc (Jh _).desc (h.alike.trans (Jh _).alike.symm)
theorem PA(S:Ay)(e:Int):qX S e=(ID (S.a.filter fun x=>x.epoch==e)).map FF:=by
 unfold qX;rw[List.filter_map,TT (f:=fun s:Ae=>{s with count:=0}) (fun _=>rfl),List.map_map]
 have h1:((fun s:Ae=>decide (s.epoch=e))∘fun s:Ae=>{s with count:=0})=fun x:Ae=>x.epoch==e:=by
  funext s;show decide (s.epoch=e)=(s.epoch==e);by_cases h:s.epoch=e <;> simp[h]
 rw[h1];rfl
theorem Abu{S:Ay}{e:Int}{m:List Ae}(h:Ph S e m):m.map FF=qX S e:=by rw[PA,Qm h]
theorem Pt(z:Ae):∀l:List Ae,z∈ID l↔z∈l
 | []=>Iff.rfl
 | x::l=>by
  show z∈Gl x (ID l)↔_
  rw[Nr,Pt z l,aO]
theorem Aau{S:Ay}{e:Int}{r:AN}(h:r∈qX S e):∃s∈S.a,s.epoch=e∧FF s=r:=by
 rw[PA] at h;obtain⟨s,h1,h2⟩:=List.mem_map.1 h;obtain⟨h3,h4⟩:=bG.1 ((Pt _ _).1 h1);exact⟨s,h3,by simpa using h4,h2⟩
theorem Aav(S:Ay)(e:Int):(qX S e).length≤S.a.length:=by
 rw[PA,List.length_map,(Jh _).len];exact List.length_filter_le _ _
def S5(q:List AN)(H:List Int):Option ((List Int×List Int)×Int):=match q.find? (Hl H) with
 | some r=>some (Fs (DL (q.takeWhile fun x=> !(Hl H x))) r.cube H,r.action)
 | none=>none
theorem JU{H:List Int}{r:AN}:∀ {q:List AN} {p:Nat},Eu q H p r→q.find? (Hl H)=some r∧(q.takeWhile fun x=> !(Hl H x))=q.take p
 | [],p,h=>by have:=h.at_;simp at this
 | a::q,0,h=>by
  have h1:=h.at_
  simp only[List.getElem?_cons_zero,Option.some.injEq] at h1
  subst h1
  have h2:Hl H a=true:=h.has_
  refine⟨by rw[cB,h2],?_⟩
  rw[bQ,h2]
  rfl
 | a::q,p+1,h=>by
  have h1:=h.at_
  have h2:Hl H a=false:=h.ahead a.cube (by unfold DL;rw[aG,bO];exact List.mem_cons_self)
  have h3:Eu q H p r:=⟨by simpa using h1,h.has_,fun x hx=>h.ahead x (by unfold DL at hx ⊢;rw[aG,bO];exact List.mem_cons_of_mem _ hx)⟩
  obtain⟨e1,e2⟩:=JU h3
  refine⟨by rw[cB,h2];exact e1,?_⟩
  rw[bQ,h2,if_pos (by rfl),e2,aG]
theorem Ur{q:List AN}{H:List Int}{p:Nat}{r:AN}(h:Eu q H p r):S5 q H=some (Fs (DL (q.take p)) r.cube H,r.action):=by
 obtain⟨e1,e2⟩:=JU h;unfold S5;rw[e1,e2]
theorem Yb{q:List AN}{H:List Int}(h:∀x∈q,Hl H x=false):S5 q H=none:=by
 unfold S5;rw[List.find?_eq_none.2 fun x hx=>by rw[h x hx];decide]
theorem Ae0{q:List AN}{H:List Int}{c:List Int×List Int}{a:Int}(h:S5 q H=some (c,a)):∃p r,Eu q H p r∧c=Fs (DL (q.take p)) r.cube H∧a=r.action∧r∈q:=by
 rcases Sx q H with ⟨k,r,hf⟩ | hn
 ·rw[Ur hf] at h;simp only[Option.some.injEq,Prod.mk.injEq] at h;exact⟨k,r,hf,h.1.symm,h.2.symm,List.mem_of_getElem? hf.at_⟩
 ·rw[Yb hn] at h
  cases h
def Ar(R:Rm):S6 Ay where
 look S now e h:=Ct S (DO Dr e h) now
 learn S now e c a:=({S with c:=(BO R.cache S.c (BB now e (AC c) a)).1},(BO R.cache S.c (BB now e (AC c) a)).2.1,(BO R.cache S.c (BB now e (AC c) a)).2.2.1)
 lay S s:=if s.bank=2 then ({S with a:=(FK R.auth S.a s (AC s.cube)).1},(FK R.auth S.a s (AC s.cube)).2) else if s.bank=3 then ({S with p:=(FK R.part S.p s (AC s.cube)).1},(FK R.part S.p s (AC s.cube)).2) else (S,1)
 keep S x y:=GS S x y
 tick S now:=Aas R.idle R.hard now S
 about S e h:=S5 ((ID ((S.a.map fun s=>{s with count:=0}).filter fun s=>decide (s.epoch=e))).map FF) h
 cach S:=S.c.length
theorem Ob(R:Rm)(S:Ay)(e:Int)(h:List Int):(Ar R).about S e h=S5 (qX S e) h:=rfl
theorem VY{R:Rm}{S:Ay}{e:Int}{h:List Int}{c:List Int×List Int}{a:Int}(hab:(Ar R).about S e h=some (c,a))(hok:∀s∈S.a,E6 s.cube):Afi c∧has c.1 c.2 h=true∧∃s∈S.a,s.epoch=e∧s.action=a:=by
 rw[Ob] at hab;obtain⟨p,r,hf,rfl,rfl,hr⟩:=Ae0 hab;obtain⟨s,h1,h2,rfl⟩:=Aau hr;obtain⟨a1,_,_,a4,_⟩:=S4 (A:=DL ((qX S e).take p)) (c0:=(FF s).cube) (H:=h) (hok s h1).2 hf.has_ hf.ahead;exact⟨⟨On a4,a4.1,a4.2.1⟩,a1,s,h1,h2,rfl⟩
section
variable {T:Type} {O:S6 T}
theorem L6(n:Ap T)(«to»:Int)(m:Aj):(BX n «to» m).log=n.log∧(BX n «to» m).hold=n.hold∧(BX n «to» m).wait=n.wait∧(BX n «to» m).tab=n.tab∧(BX n «to» m).num=n.num∧(BX n «to» m).lease=n.lease∧(BX n «to» m).beat=n.beat∧(BX n «to» m).cache=n.cache:=by
 unfold BX;split <;> exact⟨rfl,rfl,rfl,rfl,rfl,rfl,rfl,rfl⟩
end
section
variable {T:Type} {O:S6 T}
theorem VU(w:BQ)(s:Int):(Br w s).1.l.Sublist w.l∧(Br w s).1.tries=w.tries∧(Br w s).1.time=w.time∧(Br w s).1.last=w.last∧(Br w s).1.room=w.room:=by
 unfold Br;split
 ·exact⟨List.filter_sublist,rfl,rfl,rfl,rfl⟩
 ·exact⟨List.Sublist.refl _,rfl,rfl,rfl,rfl⟩
end
section
open Go.RowKit
structure FQ(F F':Nat→Prop)(w w':World):Prop where
 kept:Ao F w w'
 foot:∀k,F' k→F k∨w.heap.size≤k
theorem FQ.of_below{F:Nat→Prop}{w w':World}(h:Below w.heap.size w w'):FQ F F w w':=⟨Ao.of_below h,fun _ e=> .inl e⟩
theorem FQ.trans{F F1 F2:Nat→Prop}{w w1 w2:World}(h:FQ F F1 w w1)(h':FQ F1 F2 w1 w2):FQ F F2 w w2:=
 ⟨h.kept.trans h'.kept h.foot,fun k e=>by
  rcases h'.foot k e with e | e
  ·exact h.foot k e
  ·exact .inr (Nat.le_trans h.kept.size e)⟩
theorem FQ.add{F F':Nat→Prop}{w w1 w2:World}(h:FQ F F' w w1)(hb:Below w1.heap.size w1 w2):FQ F F' w w2:=h.trans (FQ.of_below hb)
theorem FQ.pre{F F':Nat→Prop}{w w1 w2:World}(hb:Below w.heap.size w w1)(h:FQ F F' w1 w2):FQ F F' w w2:=(FQ.of_below hb).trans h
structure DW where
 inc:Int
 floor:Int
 top:Int
 lm:Int
 lo:Int
 hm:Int
 ho:Int
 use:Int
 said:Int
def Cp(s:DW)(e:Int):Int×Int:=if e=s.floor then (s.lm,s.lo) else if e=s.top then (s.hm,s.ho) else (0,0)
def Kd(s:DW)(f t:Int):DW:=⟨s.inc,f,t,(Cp s f).1,(Cp s f).2,(Cp s t).1,(Cp s t).2,if s.use=f∨s.use=t then s.use else 0,if s.use=f∨s.use=t then s.said else 0⟩
def KU(s:DW)(f:Int):DW:=if s.floor<f then Kd s f (max f s.top) else s
def KV(s:DW)(e:Int):DW:=if s.top<e then Kd s s.floor e else s
def Hc(s:DW)(e m o:Int):DW:=if e=s.floor then {s with lm:=m,lo:=o} else {s with hm:=m,ho:=o}
structure J4(s:DW)(h:AP):Prop where
 inc:s.inc=h.life
 floor:s.floor=h.floor
 top:s.top=h.top
 use:s.use=h.use
 said:s.said=h.said
 held:∀e,Cp s e=(((h.cnt e).1:Int),(h.cnt e).2)
theorem Acg(inc:Int):J4 ⟨inc,0,0,0,0,0,0,0,0⟩ (Li inc):=⟨rfl,rfl,rfl,rfl,rfl,fun e=>by
 unfold Cp Li
 dsimp only
 split
 ·rfl
 ·rfl⟩
theorem Vm(s:DW)(f t e:Int):Cp (Kd s f t) e=if e=f∨e=t then Cp s e else (0,0):=by
 show(if e=f then ((Cp s f).1,(Cp s f).2) else if e=t then ((Cp s t).1,(Cp s t).2) else (0,0))=_;by_cases h1:e=f
 ·subst h1;rw[if_pos rfl,if_pos (Or.inl rfl)]
 ·rw[if_neg h1];by_cases h2:e=t
  ·subst h2;rw[if_pos rfl,if_pos (Or.inr rfl)]
  ·rw[if_neg h2,if_neg (fun x=>x.elim h1 h2)]
theorem R7{s:DW}{h:AP}(hr:J4 s h)(f t:Int):J4 (Kd s f t) (DS {h with floor:=f,top:=t}):=by
 refine⟨hr.inc,rfl,rfl,?_,?_,fun e=> ?_⟩
 ·unfold Kd DS;dsimp only;rw[hr.use]
 ·unfold Kd DS;dsimp only;rw[hr.use,hr.said]
 ·rw[Vm,hr.held];unfold DS;dsimp only;by_cases hc:e=f∨e=t
  ·rw[if_pos hc,if_pos hc]
  ·rw[if_neg hc,if_neg hc];rfl
theorem QK{s:DW}{h:AP}(hr:J4 s h)(f:Int):J4 (KU s f) (D5 h f):=by
 unfold KU D5;rw[hr.floor];by_cases hc:h.floor<f
 ·rw[if_pos hc,if_pos hc,hr.top,Int.max_comm];exact R7 hr _ _
 ·rw[if_neg hc,if_neg hc];exact hr
theorem XN{s:DW}{h:AP}(hr:J4 s h)(e:Int):J4 (KV s e) (Ey h e):=by
 unfold KV Ey;rw[hr.top];by_cases hc:h.top<e
 ·rw[if_pos hc,if_pos hc,hr.floor];exact R7 hr _ _
 ·rw[if_neg hc,if_neg hc];exact hr
theorem TX{s:DW}{h:AP}(hr:J4 s h){e o:Int}(he:e=h.floor∨e=h.top):J4 (Hc s e (((h.cnt e).1:Int)+1) o) (GK h e o):=by
 have key:∀x,Cp (Hc s e (((h.cnt e).1:Int)+1) o) x=if x=e then (((h.cnt e).1:Int)+1,o) else Cp s x:=fun x=>by
  unfold Hc Cp;rw[←hr.floor, ←hr.top] at he;by_cases h1:e=s.floor
  ·rw[if_pos h1];dsimp only;by_cases h2:x=s.floor
   ·rw[if_pos h2,if_pos (h2.trans h1.symm)]
   ·have h5:¬x=e:=fun q=>h2 (q.trans h1);rw[if_neg h2,if_neg h5,if_neg h2]
  ·rw[if_neg h1];dsimp only;have h3:e=s.top:=he.resolve_left h1;by_cases h2:x=e
   ·have h5:¬x=s.floor:=fun q=>h1 (h2.symm.trans q);rw[if_neg h5,if_pos (h2.trans h3),if_pos h2]
   ·have h4:¬x=s.top:=fun q=>h2 (q.trans h3.symm);rw[if_neg h4,if_neg h2,if_neg h4]
 have same:(Hc s e (((h.cnt e).1:Int)+1) o).inc=s.inc∧(Hc s e (((h.cnt e).1:Int)+1) o).floor=s.floor∧(Hc s e (((h.cnt e).1:Int)+1) o).top=s.top∧(Hc s e (((h.cnt e).1:Int)+1) o).use=s.use∧(Hc s e (((h.cnt e).1:Int)+1) o).said=s.said:=by
  unfold Hc;split <;> exact⟨rfl,rfl,rfl,rfl,rfl⟩
 refine⟨same.1.trans hr.inc,same.2.1.trans hr.floor,same.2.2.1.trans hr.top,same.2.2.2.1.trans hr.use,same.2.2.2.2.trans hr.said,fun x=> ?_⟩;rw[key x];unfold GK;dsimp only;by_cases hx:x=e
 ·rw[if_pos hx,if_pos hx];rfl
 ·rw[if_neg hx,if_neg hx];exact hr.held x
end
section
open Go.Lib Go.RowKit
structure Ag where
 elem:TypeId
 size:Nat
structure Ag.Ok(E:Ag):Prop where
 hu:∃d,aA.underlying E.elem=some d∧(match d with | .struct _ | .array _ _=>true | _=>false)=true
 hi:(aA.info? E.elem).map (fun i=>i.size)=some E.size
theorem Ag.Ok.load{E:Ag}(H:E.Ok)(w:World)(g off:Nat)(cur:Array Value)(t:TypeId)(fr:Nat×Nat)(cs:Array Value)(hcs:cs.size=E.size)(hg:w.heap[g]?=some (.cells cur t fr))(hc:∀j,j<E.size→cur[off+j]?=cs[j]?):
  (loadVar E.elem ⟨g,off,none⟩).run aA w=.ok (.agg cs) w:=by
 have hl:(loadCells ⟨g,off,none⟩ cs.toList.length).run aA w=.ok cs.toList.toArray w:=
  run_loadCells_list (P:=aA) w ⟨g,off,none⟩ cs.toList (fun j v hv=>by
   have hadd:(⟨g,off,none⟩:Addr).add j=⟨g,off+j,none⟩:=by unfold Addr.add;split <;> simp_all
   have hj:j<E.size:=by
    have:=(List.getElem?_eq_some_iff.1 hv).1;rw[aK] at this;omega
   rw[hadd,cell_of_row w g (off+j) cur t fr hg,hc j hj];simpa using hv)
 obtain⟨i,hq,hs⟩:∃i,aA.info? E.elem=some i∧i.size=E.size:=by
  have h1:=H.hi
  cases h:aA.info? E.elem with
  | none=>rw[h] at h1;simp at h1
  | some i=>rw[h] at h1;exact⟨i,rfl,by simpa using h1⟩
 have hagg:(isAgg E.elem).run aA w=.ok true w:=by
  obtain⟨d,hd,hm⟩:=H.hu;unfold isAgg;rw[aL,run_underlying hd w];revert hm
  cases d <;> simp[go_sem]
 rw[aK,hcs,Array.toArray_toList] at hl;simp[loadVar,aL,hagg,sizeOf,typeInfo,hq,hs,hl]
theorem Bc{E:Ag}(H:E.Ok){ops:Array Oper}{rest:List Oper}{o:Oper}{a:Act}{w:World}{Q:Exit→Act→World→Prop}(hw:aY o (yielded ops a.tmps)=true)(x:Operand)(ho:o.op=.load E.elem x)
  (g off:Nat) (hx:a.eval x=.pointer (some ⟨g,off,none⟩)) (cur:Array Value) (t:TypeId) (fr:Nat×Nat) (cs:Array Value) (hcs:cs.size=E.size) (hg:w.heap[g]?=some (.cells cur t fr)) (hc:∀j,j<E.size→cur[off+j]?=cs[j]?)
  (h:wpList aA ops Q rest (a.put o.dst (.agg cs)) w):wpList aA ops Q (o::rest) a w:=by
 refine wpList_step fun K hK=> ?_;rw[if_pos hw];unfold bD execOp;simp only[ho,hx,Instr.loadAt,bB,aL,bA,aQ,H.load w g off cur t fr cs hcs hg hc];exact hK _ _ h
theorem Du{E:Ag}(H:E.Ok){ops:Array Oper}{rest:List Oper}{o:Oper}{a:Act}{w:World}{Q:Exit→Act→World→Prop}(hgd:o.guard=none)(x y:Operand)(ho:o.op=.store E.elem x y)
  (g:Nat) (cs:Array Value) (hf:cs.size=E.size∧cs.all (·.oneCell')=true) (hx:a.eval x=.pointer (some ⟨g,0,none⟩)) (hy:a.eval y=.agg cs) (old:Array Value) (hg:w.heap[g]?=some (.cells old E.elem (0,0))) (hold:old.size=E.size)
  (w':World) (hw':w.setRow g cs=w')
  (h:wpList aA ops Q rest (a.put o.dst undef) w'):wpList aA ops Q (o::rest) a w:=
 wpList_store_row hgd E.elem x y ho g cs hx hy E.elem old hg (by rw[hf.1];exact H.hi) (by rw[hf.1,hold]) hf.2 (by rw[hw'];exact h)
theorem G5{E:Ag}(H:E.Ok){C:World→Prop}{ops:Array Oper}{Q:Act→Prop}{rest:List Oper}{o:Oper}{a:Act}(hw:aY o (yielded ops a.tmps)=true)(x:Operand)(ho:o.op=.load E.elem x)
  (g off:Nat) (hx:a.eval x=.pointer (some ⟨g,off,none⟩)) (cur:Array Value) (t:TypeId) (fr:Nat×Nat) (cs:Array Value) (hcs:cs.size=E.size) (hg:∀w',C w'→w'.heap[g]?=some (.cells cur t fr)) (hc:∀j,j<E.size→cur[off+j]?=cs[j]?)
  (h:wpQuiet aA ops C Q rest (a.put o.dst (.agg cs))):wpQuiet aA ops C Q (o::rest) a:=by
 refine BigFrame.wpQuiet_want hw fun K hK=>⟨.agg cs,fun w hC=> ?_,hK _ h⟩;unfold Oper.quietAt execOp;simp only[ho,hx,Instr.loadAt,bB,aL,bA,aQ,H.load w g off cur t fr cs hcs (hg w hC) hc];exact⟨rfl,rfl⟩
theorem JG{E:Ag}(H:E.Ok){fn:Func}{R:Ending→World→Prop}{a:Act}{w:World}{p:Tmp}(hr:fn.results=#[.cell p E.elem])(hd:a.defers=[])(g:Nat)(hp:a.tmps.getD p undef=.pointer (some ⟨g,0,none⟩))(cs:Array Value)(hcs:cs.size=E.size)
  (hg:w.heap[g]?=some (.cells cs E.elem (0,0))) (h:R (.returned (.agg cs)) w):bodyPost aA fn R .ret a w:=by
 refine bodyPost_ret (v:=.agg cs) ?_ hd h;rw[Array.getD_eq_getD_getElem?] at hp;have hl:=H.load w g 0 cs E.elem (0,0) cs hcs hg (AA _ _);simp[results,hr,hp,asAddr,hl]
theorem Ag.Ok.store{E:Ag}(H:E.Ok)(w:World)(g off:Nat)(cur:Array Value)(t:TypeId)(cs:Array Value)(hf:cs.size=E.size∧cs.all (·.oneCell')=true)(hg:w.heap[g]?=some (.cells cur t (0,0)))(hs:off+E.size≤cur.size):
  (storeVar E.elem ⟨g,off,none⟩ (.agg cs)).run aA w=.ok () (w.setRow g (cur.toList.take off++cs.toList++cur.toList.drop (off+E.size)).toArray):=by
 have hst:=run_storeCells_at aA g off t cs.toList 0 cur w hg (by rw[aK,hf.1];omega) (fun v hv=>by
  have h1:=aZ.1 hf.2 v (by simpa using hv);exact h1)
 obtain⟨i,hq,hz⟩:∃i,aA.info? E.elem=some i∧i.size=E.size:=by
  have h1:=H.hi
  cases h:aA.info? E.elem with
  | none=>rw[h] at h1;simp at h1
  | some i=>rw[h] at h1;exact⟨i,rfl,by simpa using h1⟩
 rw[Nat.add_zero,aK,hf.1] at hst;simp[storeVar,sizeOf,typeInfo,hq,Value.cells,hz,hf.1];simpa using hst
theorem FSx{E:Ag}(H:E.Ok){ops:Array Oper}{rest:List Oper}{o:Oper}{a:Act}{w:World}{Q:Exit→Act→World→Prop}(hgd:o.guard=none)(x y:Operand)(ho:o.op=.store E.elem x y)
  (g off:Nat) (hx:a.eval x=.pointer (some ⟨g,off,none⟩)) (cs:Array Value) (hf:cs.size=E.size∧cs.all (·.oneCell')=true) (hy:a.eval y=.agg cs) (cur:Array Value) (t:TypeId) (hg:w.heap[g]?=some (.cells cur t (0,0))) (hs:off+E.size≤cur.size)
  (cs':Array Value) (hcs':(cur.toList.take off++cs.toList++cur.toList.drop (off+E.size)).toArray=cs')
  (h:wpList aA ops Q rest (a.put o.dst undef) (w.setRow g cs')):wpList aA ops Q (o::rest) a w:=
 wpList_plain hgd fun _ hK=>by
  unfold bD execOp
  simp only[ho,hx,hy,bN,bB,aL,bA,aQ,H.store w g off cur t cs hf hg hs,hcs']
  exact hK _ _ h
theorem Gt{E:Ag}(H:E.Ok){fn:Func}{R:Ending→World→Prop}{a:Act}{w:World}{p u:Tmp}(hr:fn.results=#[.cell p E.elem,.tmp u])(hd:a.defers=[])(g:Nat)(hp:a.tmps.getD p undef=.pointer (some ⟨g,0,none⟩))(cs:Array Value)(hcs:cs.size=E.size)
  (hg:w.heap[g]?=some (.cells cs E.elem (0,0))) (v:Value) (hu:a.tmps.getD u undef=v) (h:R (.returned (.tuple #[.agg cs,v])) w):bodyPost aA fn R .ret a w:=by
 refine bodyPost_ret (v:=.tuple #[.agg cs,v]) ?_ hd h;rw[results_cell_tmp hr,hp,hu];simp[asAddr,H.load w g 0 cs E.elem (0,0) cs hcs hg (AA _ _)]
end
section
open Go.RowKit
def hoA(s:DW):Array Value:=#[.int .i64 s.inc,.int .i64 s.floor,.int .i64 s.top,.int .i64 s.lm,.int .i64 s.lo,.int .i64 s.hm,.int .i64 s.ho,.int .i64 s.use,.int .i64 s.said]
def Et(w:World)(g:Nat)(s:DW):Prop:=w.heap[g]?=some (.cells (hoA s) 97 (0,0))
structure HoF(w:World)(g:Nat)(s:DW):Prop where
 c0:w.cell? ⟨g,0,none⟩=some (.int .i64 s.inc)
 c1:w.cell? ⟨g,1,none⟩=some (.int .i64 s.floor)
 c2:w.cell? ⟨g,2,none⟩=some (.int .i64 s.top)
 c3:w.cell? ⟨g,3,none⟩=some (.int .i64 s.lm)
 c4:w.cell? ⟨g,4,none⟩=some (.int .i64 s.lo)
 c5:w.cell? ⟨g,5,none⟩=some (.int .i64 s.hm)
 c6:w.cell? ⟨g,6,none⟩=some (.int .i64 s.ho)
 c7:w.cell? ⟨g,7,none⟩=some (.int .i64 s.use)
 c8:w.cell? ⟨g,8,none⟩=some (.int .i64 s.said)
 fz:∀k,w.frozen? ⟨g,k,none⟩=false
theorem Et.f{w:World}{g:Nat}{s:DW}(h:Et w g s):HoF w g s:=
 ⟨by rw[cell_of_row w g _ _ _ _ h];rfl,by rw[cell_of_row w g _ _ _ _ h];rfl,by rw[cell_of_row w g _ _ _ _ h];rfl,by rw[cell_of_row w g _ _ _ _ h];rfl,by rw[cell_of_row w g _ _ _ _ h];rfl,by rw[cell_of_row w g _ _ _ _ h];rfl,by rw[cell_of_row w g _ _ _ _ h];rfl,by rw[cell_of_row w g _ _ _ _ h];rfl,by rw[cell_of_row w g _ _ _ _ h];rfl,fun k=>by rw[bC,show w.heap[g]?=_ from h];simp⟩
theorem Et.below{w w':World}{g:Nat}{s:DW}(h:Et w g s)(hb:Below w.heap.size w w'):Et w' g s:=(hb.block g (gS h)).trans h
theorem Et.lt{w:World}{g:Nat}{s:DW}(h:Et w g s):g<w.heap.size:=(gS h)
def Dz(w w':World)(g:Nat)(s:DW):Prop:=Et w' g s∧Ao (Cj g) w w'
theorem Et.stay{w w':World}{g:Nat}{s:DW}(h:Et w g s)(hb:Below w.heap.size w w'):Dz w w' g s:=⟨h.below hb,Ao.of_below hb⟩
theorem Dz.trans{w w1 w2:World}{g:Nat}{s s':DW}(h:Dz w w1 g s)(h':Dz w1 w2 g s'):Dz w w2 g s':=⟨h'.1,h.2.trans h'.2 fun _ e=> .inl e⟩
theorem Dz.add{w w1 w2:World}{g:Nat}{s:DW}(h:Dz w w1 g s)(hb:Below w1.heap.size w1 w2):Dz w w2 g s:=h.trans (h.1.stay hb)
theorem Dz.pre{w w1 w2:World}{g:Nat}{s:DW}(hb:Below w.heap.size w w1)(h:Dz w1 w2 g s):Dz w w2 g s:=⟨h.1,h.2.pre hb⟩
def Ago:Ag:=⟨95,2⟩
theorem V7:Ago.Ok:=⟨⟨_,Tryz.underlying95,rfl⟩,by kernel_rfl⟩
def itV(m o:Int):Array Value:=#[.int .i64 m,.int .i64 o]
theorem Lp(w:World)(g:Nat)(s:DW)(h:Et w g s)(e:Int):
  Calls aA 96 #[.pointer (some ⟨g,0,none⟩),.int .i64 e] w fun x w'=>x=.returned (.agg #[.int .i64 (Cp s e).1,.int .i64 (Cp s e).2])∧Below w.heap.size w w':=by
 have F:=h.f;have c1:=F.c1;have c2:=F.c2;have c3:=F.c3;have c4:=F.c4;have c5:=F.c5;have c6:=F.c6;have hg:=h.lt;unfold Cp;by_cases h1:e=s.floor
 ·rw[if_pos h1];clear F h;go_enter bY,bS;go_wp2_with fail;exact JG V7 (p:=4) rfl rfl w.heap.size rfl (itV s.lm s.lo) rfl (Ac _ _ _ rfl) ⟨rfl,(aI _ _).alloc (aP _) _⟩
 ·rw[if_neg h1];by_cases h2:e=s.top
  ·rw[if_pos h2];clear F h;go_enter bY,bS;go_wp2_with fail;exact JG V7 (p:=4) rfl rfl w.heap.size rfl (itV s.hm s.ho) rfl (Ac _ _ _ rfl) ⟨rfl,(aI _ _).alloc (aP _) _⟩
  ·rw[if_neg h2];clear F h;go_enter bY,bS;go_wp2_with fail;exact JG V7 (p:=4) rfl rfl w.heap.size rfl (itV 0 0) rfl (Ac _ _ _ rfl) ⟨rfl,(aI _ _).alloc (aP _) _⟩
theorem O9(w:World)(g:Nat)(f t:Int)(c1:w.cell? ⟨g,1,none⟩=some (.int .i64 f))(c2:w.cell? ⟨g,2,none⟩=some (.int .i64 t))(e:Int):
  Calls aA 107 #[.pointer (some ⟨g,0,none⟩),.int .i64 e] w fun x w'=>x=.returned (.bool (decide (e=f∨e=t)))∧w'=w:=by
 by_cases h1:e=f
 ·rw[decide_eq_true (Or.inl h1)];have d1:(e==f)=true:=by simpa using h1
  clear h1;go_enter bT,bP;go_wp2_with fail;go_ret;exact⟨rfl,rfl⟩
 ·have d1:(e==f)=false:=by simpa using h1
  by_cases h2:e=t
  ·rw[decide_eq_true (Or.inr h2)];have d2:(e==t)=true:=by simpa using h2
   clear h1 h2;go_enter bT,bP;go_wp2_with fail;go_ret;exact⟨rfl,rfl⟩
  ·rw[decide_eq_false (fun x=>x.elim h1 h2)];have d2:(e==t)=false:=by simpa using h2
   clear h1 h2;go_enter bT,bP;go_wp2_with fail;go_ret;exact⟨rfl,rfl⟩
theorem Oc{ops:Array Oper}{o:Oper}{a:Act}{w:World}{K:Act→World→Prop}{Q:Exit→Act→World→Prop}{R:Prop}{E:El}(H:E.Ok)
  (hgd:o.guard=none) (s x:Operand) (hop:o.op=Op.call {callee:=Callee.builtin Builtin.append,args:=#[s,x],argTypes:=#[E.slice,E.slice]})
  (g n cap:Nat) (hs:a.eval s=.slice (some ⟨g,0,none⟩) n cap) (cur:Array Value) (hg:w.heap[g]?=some (.cells cur E.elem (0,0)))
  (ad:Addr) (m c:Nat) (news:List Value) (hx:a.eval x=.slice (some ad) m c) (hn:news.length=m*E.size) (hc:∀j u,news[j]?=some u→w.cell? (ad.add j)=some u) (h1c:∀u∈news,u.oneCell'=true)
  (hroom:n+m≤cap) (hfit:n*E.size+news.length≤cur.size)
  (hK:K (a.put o.dst (.slice (some ⟨g,0,none⟩) (n+m) cap)) (w.setRow g (cur.toList.take (n*E.size)++news++cur.toList.drop (n*E.size+news.length)).toArray)):
  if aY o (yielded ops a.tmps)=true then bD aA o a w K Q else R:=by
 have hw:aY o (yielded ops a.tmps)=true:=by simp[aY,hgd]
 rw[if_pos hw];obtain⟨i0,hi,hz0,hz1,hz2⟩:=H.info;have hrun:=run_append_room (P:=aA) w E.slice o.type E.elem i0 H.hs hi g n cap cur hg ad m c news (by rw[hz1];exact hn) hc h1c hroom (by rw[hz1];exact hfit);rw[hz1] at hrun;unfold bD execOp;simp only[hop,resolve,invoke,builtin,aL,bA,aQ,List.map_toArray,bO,List.map_nil,hs,hx,hrun];exact hK
theorem Dz.setC{w w':World}{g:Nat}{s:DW}(h:Dz w w' g s)(k:Nat)(v:Value)(s':DW)(hs:(hoA s).setIfInBounds k v=hoA s'):Dz w (w'.setCell ⟨g,k,none⟩ v) g s':=by
 refine⟨?_,h.2.trans (Y:=Cj g) ⟨rfl,rfl,rfl,by simp[aX],fun k' _ e=>heap_setCell_other w' ⟨g,k,none⟩ k' _ e⟩ fun _ e=> .inl e⟩;unfold Et;rw[heap_setCell_same w' g k _ _ _ h.1,hs]
theorem R8(w:World)(g:Nat)(s:DW)(h:Et w g s)(f t:Int):
  Calls aA 129 #[.pointer (some ⟨g,0,none⟩),.int .i64 f,.int .i64 t] w fun x w'=>x=.returned (.tuple #[])∧Dz w w' g (Kd s f t):=by
 obtain⟨a1,ha1⟩:∃a,a=(Cp s f).1:=⟨_,rfl⟩;obtain⟨a2,ha2⟩:∃a,a=(Cp s f).2:=⟨_,rfl⟩;obtain⟨a3,ha3⟩:∃a,a=(Cp s t).1:=⟨_,rfl⟩;obtain⟨a4,ha4⟩:∃a,a=(Cp s t).2:=⟨_,rfl⟩
 have C1:Hid (∀W,Below w.heap.size w W→Calls aA 96 #[.pointer (some ⟨g,0,none⟩),.int .i64 f] W fun x w'=>x=.returned (.agg #[.int .i64 a1,.int .i64 a2])∧Below W.heap.size W w'):=by
  intro W hb;rw[ha1,ha2];exact Lp W g s (h.below hb) f
 have C2:Hid (∀W,Below w.heap.size w W→Calls aA 96 #[.pointer (some ⟨g,0,none⟩),.int .i64 t] W fun x w'=>x=.returned (.agg #[.int .i64 a3,.int .i64 a4])∧Below W.heap.size W w'):=by
  intro W hb;rw[ha3,ha4];exact Lp W g s (h.below hb) t
 have HF:Hid (∀W,Below w.heap.size w W→Et W g s):=fun W hb=>h.below hb;have B0:Hid (Below w.heap.size w w.drew):=(aI _ _).drew;unfold Kd;rw[←ha1, ←ha2, ←ha3, ←ha4];clear ha1 ha2 ha3 ha4 h;obtain⟨u,hu⟩:=eX ((if s.use=f∨s.use=t then s.use else 0));obtain⟨v,hv⟩:=eX ((if s.use=f∨s.use=t then s.said else 0));rw[←hu, ←hv];have HU:Hid (u=(if s.use=f∨s.use=t then s.use else 0)∧v=(if s.use=f∨s.use=t then s.said else 0)):=⟨hu,hv⟩;clear hu hv;go_enter Tryz.func129,Tryz.ntmps129;go_wp2_with (go_at_call 96;refine Aw ?_);unfold AZ;refine(C1.out w (aI _ _)).mono ?_;rintro e w1 ⟨rfl,hb1⟩;go_wp2_with (go_at_call 96;refine Aw ?_);unfold AZ;refine(C2.out w1 hb1).mono ?_;rintro e w2 ⟨rfl,hb2⟩;have B2:Hid (Below w.heap.size w w2):=Bd hb1 hb1.size hb2;have V2:Hid (Et w2 g s):=HF.out _ B2.out;have c1:=V2.out.f.c1;have c2:=V2.out.f.c2;have c3:=V2.out.f.c3;have c4:=V2.out.f.c4;have c5:=V2.out.f.c5;have c6:=V2.out.f.c6;have c7:=V2.out.f.c7;have c8:=V2.out.f.c8;have fz:=V2.out.f.fz;clear hb1 hb2 C1 C2;go_wp2_with (go_at_call 107;refine Aw ?_);unfold AZ
 have T6:=((((((V2.out.stay (aI _ _)).setC 3 (.int .i64 a1) ⟨s.inc,s.floor,s.top,a1,s.lo,s.hm,s.ho,s.use,s.said⟩ rfl).setC 4 (.int .i64 a2) ⟨s.inc,s.floor,s.top,a1,a2,s.hm,s.ho,s.use,s.said⟩ rfl).setC 5 (.int .i64 a3) ⟨s.inc,s.floor,s.top,a1,a2,a3,s.ho,s.use,s.said⟩ rfl).setC 6 (.int .i64 a4) ⟨s.inc,s.floor,s.top,a1,a2,a3,a4,s.use,s.said⟩ rfl).setC 1 (.int .i64 f) ⟨s.inc,f,s.top,a1,a2,a3,a4,s.use,s.said⟩ rfl).setC 2 (.int .i64 t) ⟨s.inc,f,t,a1,a2,a3,a4,s.use,s.said⟩ rfl;obtain⟨W,hW⟩:∃W,(((((((w2.setCell ⟨g,3,none⟩ (.int .i64 a1)).setCell ⟨g,4,none⟩ (.int .i64 a2)).setCell ⟨g,5,none⟩ (.int .i64 a3)).setCell ⟨g,6,none⟩ (.int .i64 a4)).setCell ⟨g,1,none⟩ (.int .i64 f)).setCell ⟨g,2,none⟩ (.int .i64 t)))=W:=⟨_,rfl⟩;rw[hW] at T6 ⊢;have HT:Hid (Dz w W g ⟨s.inc,f,t,a1,a2,a3,a4,s.use,s.said⟩):=Dz.pre B2.out T6;have F6:=T6.1.f;have HC:=O9 W g f t F6.c1 F6.c2 s.use;have k7:=F6.c7;have k8:=F6.c8;have fz':=F6.fz;clear hW T6 F6 c1 c2 c3 c4 c5 c6 c7 c8 fz V2 B2 HF;by_cases hc:s.use=f∨s.use=t
 ·rw[decide_eq_true hc] at HC
  have HU2:Hid (u=s.use∧v=s.said):=by
   have:=HU.out;rw[if_pos hc,if_pos hc] at this;exact this
  clear hc;refine HC.mono ?_;rintro e w3 ⟨rfl,h3⟩;have h3:=h3.symm;subst h3;go_wp2_with fail;refine bodyPost_end (results_none rfl _ _ _) rfl ?_;exact⟨rfl,by rw[HU2.out.1,HU2.out.2];exact HT.out⟩
 ·rw[decide_eq_false hc] at HC
  have HU2:Hid (u=0∧v=0):=by
   have:=HU.out;rw[if_neg hc,if_neg hc] at this;exact this
  clear hc;refine HC.mono ?_;rintro e w3 ⟨rfl,h3⟩;have h3:=h3.symm;subst h3;go_wp2_with fail;refine bodyPost_end (results_none rfl _ _ _) rfl ?_;exact⟨rfl,by rw[HU2.out.1,HU2.out.2];exact(HT.out.setC 7 (.int .i64 0) ⟨s.inc,f,t,a1,a2,a3,a4,0,s.said⟩ rfl).setC 8 (.int .i64 0) ⟨s.inc,f,t,a1,a2,a3,a4,0,0⟩ rfl⟩
theorem TQ{ops:Array Oper}{rest:List Oper}{o:Oper}{a:Act}{w:World}{Q:Exit→Act→World→Prop}(hgd:o.guard=none)(x y:Operand)(ho:o.op=.call {callee:=.builtin .min,args:=#[x,y],argTypes:=#[3,3]})
  (p q r:Int) (hx:a.eval x=.int .i64 p) (hy:a.eval y=.int .i64 q) (hr:r=min p q) (h:wpList aA ops Q rest (a.put o.dst (.int .i64 r)) w):wpList aA ops Q (o::rest) a w:=by
 obtain⟨dst,op,ty,pos,after,guard⟩:=o;subst ho
 have hr:(execOp a.eval ⟨dst,.call {callee:=.builtin .min,args:=#[x,y],argTypes:=#[3,3]},ty,pos,after,guard⟩).run aA w=.ok (.value (.int .i64 r)) w:=by
  subst hr;by_cases h1:p≤q
  ·rw[show min p q=p by omega];unfold execOp;simp[resolve,invoke,builtin,hx,hy,cD,cE]
   all_goals omega
  ·rw[show min p q=q by omega];unfold execOp;simp[resolve,invoke,builtin,hx,hy,cD,cE]
   all_goals omega
 refine wpList_plain hgd fun K hK=> ?_;unfold bD;rw[hr];exact hK _ _ h
theorem MB{ops:Array Oper}{rest:List Oper}{o:Oper}{a:Act}{w:World}{Q:Exit→Act→World→Prop}(hgd:o.guard=none)(x y:Operand)(ho:o.op=.call {callee:=.builtin .max,args:=#[x,y],argTypes:=#[3,3]})
  (p q r:Int) (hx:a.eval x=.int .i64 p) (hy:a.eval y=.int .i64 q) (hr:r=max p q) (h:wpList aA ops Q rest (a.put o.dst (.int .i64 r)) w):wpList aA ops Q (o::rest) a w:=by
 obtain⟨dst,op,ty,pos,after,guard⟩:=o;subst ho
 have hr:(execOp a.eval ⟨dst,.call {callee:=.builtin .max,args:=#[x,y],argTypes:=#[3,3]},ty,pos,after,guard⟩).run aA w=.ok (.value (.int .i64 r)) w:=by
  subst hr;by_cases h1:q≤p
  ·rw[show max p q=p by omega];unfold execOp;simp[resolve,invoke,builtin,hx,hy,cF,cG]
   all_goals omega
  ·rw[show max p q=q by omega];unfold execOp;simp[resolve,invoke,builtin,hx,hy,cF,cG]
   all_goals omega
 refine wpList_plain hgd fun K hK=> ?_;unfold bD;rw[hr];exact hK _ _ h
end
end Go.Proofs.YtbhkoipcpcoooabGreat
