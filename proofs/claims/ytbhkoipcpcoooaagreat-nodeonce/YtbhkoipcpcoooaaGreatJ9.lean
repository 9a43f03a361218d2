import Derived.Test.YtbhkoipcpcoooaaGreatJ8
import Derived.Test.YtbhkoipcpcoooaaGreatJ6
import Derived.Test.YtbhkoipcpcoooaaGreatJ2
import Derived.Test.YtbhkoipcpcoooaaGreatJ4
import Derived.Test.YtbhkoipcpcoooaaGreatJ7
import Derived.Test.YtbhkoipcpcoooaaGreatJ5
import Derived.Test.YtbhkoipcpcoooaaGreatJ1
import Derived.Test.YtbhkoipcpcoooaaGreatJ3
import Derived.Laws.CopyRow
namespace Go.Proofs.YtbhkoipcpcoooaaGreat
set_option maxRecDepth 20000
set_option maxHeartbeats 64000000
open Go
open Go.Proofs.Tryz renaming prog → aA, ntmps149 → aW, func149 → aY
open _root_.List renaming filter_cons → aB, take_succ_cons → aC, drop_succ_cons → aH, drop_zero → aJ, take_zero → aK, mem_cons → aL, pairwise_cons → aM, pairwise_singleton → aZ, mem_append → bA, mem_filter → bB, filter → bC, pairwise_append → bD, takeWhile_cons → bI, length_append → bJ, append_assoc → bK, length_cons → bP, not_mem_nil → bQ, find?_cons → bR
open _root_.List.Sublist renaming refl → aD
open _root_.Array renaming length_toList → aG, all_eq_true_iff_forall_mem → aQ
open Go.Sem renaming run_bind → aI, run_pure → aX
open Go.RowKit.Below renaming refl → aN
open Go.World renaming drew → aO, setCell → aV, frozen? → bG
open Go.Result renaming andThen_ok → aP
open Go.Instr renaming sureAddr → aR, storeAt → bF
open _root_.Nat renaming le_refl → aT
open _root_.List.Pairwise renaming filter → bE, nil → bN
section
open Go.RowKit
def Bh(c:Hn):Hn:=(AZ c.1 c.2,c.2)
theorem Us{c:Hn}(h:GK c):GK (Bh c):=by
 have h1:AK (AZ c.1 c.2):=by unfold AZ;exact KU _
 exact⟨h1,h.2⟩
theorem TA(c:Hn)(h:GK c)(w:World):Calls aA 182 #[.agg (cv (AC c.1) (AC c.2))] w fun e w'=>e=.returned (.agg (cv (AC (Bh c).1) (AC (Bh c).2)))∧Below w.heap.size w w':=by
 have h':=Us h;rw[EX h.1.1,EX h.2.1,EX h'.1.1,EX h'.2.1];exact Ir c.1 c.2 h.1 h.2 w
theorem Wu{w:World}{q:Nat}{s:Ai}{c:Hn}(hg:w.heap[q]?=some (.cells (Ac s) 102 (0,0))):
  (bF 37 (.pointer (some ⟨q,4,none⟩)) (.agg (cv (AC c.1) (AC c.2)))).run aA w=.ok () (w.setRow q (Ac {s with cube:=c})):=by
 have hl:(cv (AC c.1) (AC c.2)).toList.length=26:=by rw[aG,Bq _ _ (AV _) (AV _)]
 have hst:=run_storeCells_at aA q 4 102 (cv (AC c.1) (AC c.2)).toList 0 (Ac s) w hg (by rw[hl,Bl];decide) (fun u hu=>(aQ.1 (Ii _ _)) u (by simpa using hu));rw[Nat.add_zero,hl] at hst;have hl2:(cv (AC s.cube.1) (AC s.cube.2)).toList.length=26:=by rw[aG,Bq _ _ (AV _) (AV _)]
 have hz:∀w,(sizeOf 37).run aA w=.ok 26 w:=fun w=>by kernel_rfl
 have e:((Ac s).toList.take 4++(cv (AC c.1) (AC c.2)).toList++(Ac s).toList.drop (4+26)).toArray=Ac {s with cube:=c}:=by
  apply Array.ext';unfold Ac;simp only[Array.toList_append];rw[List.take_append_of_le_length (by simp),bK]
  have e1:List.drop (4+26) (#[Value.int .i64 s.bank,.int .i64 s.epoch,.int .i64 s.place,.int .i64 s.order].toList++(cv (AC s.cube.1) (AC s.cube.2)).toList++#[Value.int .i64 s.action,.int .i64 s.one,.int .i64 s.two,.int .i64 s.born,.int .i64 s.used,.int .i64 s.count].toList)=#[Value.int .i64 s.action,.int .i64 s.one,.int .i64 s.two,.int .i64 s.born,.int .i64 s.used,.int .i64 s.count].toList:=by
   rw[List.drop_append_of_le_length (by rw[bJ,hl2];simp),List.drop_of_length_le (by rw[bJ,hl2];simp),List.nil_append]
  rw[e1];simp
 rw[e] at hst;simp[bF,aR,storeVar,aI,Value.cells,hst,hz,Bq _ _ (AV _) (AV _)]
theorem Aoj{P:Program}{ops:Array Oper}{Q:Exit→Act→World→Prop}{o:Oper}{rest:List Oper}{a:Act}{w:World}(x y:Operand)(_:o.op=.store 37 x y)(h:wpList P ops Q (o::rest) a w):wpList P ops Q (o::rest) a w:=h
theorem Ys{ops:Array Oper}{rest:List Oper}{o:Oper}{a:Act}{w:World}{Q:Exit→Act→World→Prop}(hgd:o.guard=none)(x y:Operand)(ho:o.op=.store 37 x y)
  (q:Nat) (s:Ai) (c:Hn) (hx:a.eval x=.pointer (some ⟨q,4,none⟩)) (hy:a.eval y=.agg (cv (AC c.1) (AC c.2))) (hg:w.heap[q]?=some (.cells (Ac s) 102 (0,0))) (w4:World) (hw4:w.setRow q (Ac {s with cube:=c})=w4)
  (h:wpList aA ops Q rest (a.put o.dst undef) w4):wpList aA ops Q (o::rest) a w:=by
 subst hw4;refine wpList_plain hgd fun K hK=> ?_;unfold Oper.wp execOp;simp only[ho,hx,hy,aI,aX,aP,Wu hg];exact hK _ _ h
theorem Aaf(x:Ai)(c:Int):Ac {x with born:=c}=(Ac x).setIfInBounds 33 (.int .i64 c):=by
 unfold Ac;rw[Uv _ _ 33 3 _ (by rw[Array.size_append,Bq _ _ (AV _) (AV _)];rfl)];rfl
def NX(R:Rm)(S:Aq)(s:Ai):Aq×Int:=
 if s.bank=2 then ({S with a:=(I7 R.auth S.a s (Bh s.cube)).1},(I7 R.auth S.a s (Bh s.cube)).2)
 else if s.bank=3 then ({S with p:=(I7 R.part S.p s (Bh s.cube)).1},(I7 R.part S.p s (Bh s.cube)).2)
 else (S,1)
theorem An2{R:Rm}{S:Aq}{s:Ai}(h2:s.bank≠2)(h3:s.bank≠3):NX R S s=(S,1):=by unfold NX;rw[if_neg h2,if_neg h3]
theorem An3{R:Rm}{S:Aq}{s:Ai}{b:Nat}(hb:b=2∨b=3)(hs:s.bank=(b:Int)):NX R S s=(Lo S b (I7 (OJ R b) (Bv S b) s (Bh s.cube)).1,(I7 (OJ R b) (Bv S b) s (Bh s.cube)).2):=by
 unfold NX;rcases hb with rfl | rfl
 ·rw[if_pos (show s.bank=2 from hs)];rfl
 ·have hs3:s.bank=3:=hs;rw[if_neg (by omega),if_pos hs3];rfl
theorem Cw.same{B:Nat}{w w':World}{g:Nat}{R:Rm}{S:Aq}{v1 v2 v3:Value}(h:Cw B w g R S v1 v2 v3)(hb:Below w.heap.size w w'):Di B w w' g R S v1 v2 v3:=⟨v1,v2,v3,h.below hb,As.of_below hb,fun _ hk=> .inl hk⟩
theorem YR{W:World}{q:Nat}{s:Ai}{cu:Hn}(h:W.heap[q]?=some (.cells (Ac {s with cube:=cu}) 102 (0,0))):
  W.cell? ⟨q,33,none⟩=some (.int .i64 s.born)∧W.frozen? ⟨q,33,none⟩=false∧(W.setCell ⟨q,33,none⟩ (.int .i64 0)).cell? ⟨q,34,none⟩=some (.int .i64 s.used)∧(W.setCell ⟨q,33,none⟩ (.int .i64 0)).frozen? ⟨q,34,none⟩=false∧((W.setCell ⟨q,33,none⟩ (.int .i64 0)).setCell ⟨q,34,none⟩ (.int .i64 0)).cell? ⟨q,35,none⟩=some (.int .i64 s.count)∧((W.setCell ⟨q,33,none⟩ (.int .i64 0)).setCell ⟨q,34,none⟩ (.int .i64 0)).frozen? ⟨q,35,none⟩=false∧
  (((W.setCell ⟨q,33,none⟩ (.int .i64 0)).setCell ⟨q,34,none⟩ (.int .i64 0)).setCell ⟨q,35,none⟩ (.int .i64 0)).heap[q]?=some (.cells (Ac (Gi s cu)) 102 (0,0))∧As (Cq q) W (((W.setCell ⟨q,33,none⟩ (.int .i64 0)).setCell ⟨q,34,none⟩ (.int .i64 0)).setCell ⟨q,35,none⟩ (.int .i64 0)):=by
 have h1:=heap_setCell_same W q 33 _ _ (.int .i64 0) h;rw[←Aaf] at h1;have h2:=heap_setCell_same _ q 34 _ _ (.int .i64 0) h1;rw[←SB] at h2;have h3:=heap_setCell_same _ q 35 _ _ (.int .i64 0) h2;rw[←Q7] at h3;have f0:=(E8 h).c33;have f1:=(E8 h1).c34;have f2:=(E8 h2).c35;rw[Nat.zero_add] at f0 f1 f2;have kk:∀(W:World) (j:Nat) (u:Value),As (Cq q) W (W.setCell ⟨q,j,none⟩ u):=fun W j u=>⟨rfl,rfl,rfl,by simp[aV],fun k _ e=>heap_setCell_other W ⟨q,j,none⟩ k _ e⟩;exact⟨f0,by simp[bG,h],f1,by simp[bG,h1],f2,by simp[bG,h2],h3,((kk _ _ _).trans (kk _ _ _) fun k hk=> .inl hk).trans (kk _ _ _) fun k hk=> .inl hk⟩
theorem An1(B:Nat)(w:World)(g:Nat)(R:Rm)(S:Aq)(v1 v2 v3:Value)(h:Cw B w g R S v1 v2 v3)(s:Ai)(hok:GK s.cube)(hn:∀b,(Bv S b).length≤1000000):
  Calls aA 149 #[.pointer (some ⟨g,0,none⟩),.agg (Ac s)] w fun e w'=>e=.returned (.int .i64 (NX R S s).2)∧Di B w w' g R (NX R S s).1 v1 v2 v3:=by
 have B0:Hid (Below w.heap.size w (w.alloc (.cells (Ac s) 102))):=(aN _ _).alloc (aT _) _;have c0:=(Gh w s 102).c0;have Q0:Hid ((w.alloc (.cells (Ac s) 102)).heap[w.heap.size]?=some (.cells (Ac s) 102 (0,0))):=Ab _ _ _ rfl;by_cases hb2:s.bank=2∨s.bank=3
 ·obtain⟨b,bi,o,hbb,hsB⟩:∃(b:Nat) (bi:Int) (o:Nat),(b=2∧bi=2∧o=6∨b=3∧bi=3∧o=7)∧s.bank=bi:=by
   rcases hb2 with e | e
   ·exact⟨2,2,6,.inl ⟨rfl,rfl,rfl⟩,e⟩
   ·exact⟨3,3,7,.inr ⟨rfl,rfl,rfl⟩,e⟩
  have hbi:bi=(b:Int):=by omega
  have hbo:o=4+b:=by omega
  have hb4:b<4:=by omega
  have EL:=An3 (R:=R) (S:=S) (by omega:b=2∨b=3) (hsB.trans hbi)
  have CT:Hid (∀W,Below w.heap.size w W→W.heap[w.heap.size]?=some (.cells (Ac s) 102 (0,0))→Calls aA 179 #[Cj v1 v2 v3 b,.func (.func 180) #[] #[.pointer (some ⟨w.heap.size,0,none⟩)]] W fun e w'=>e=.returned (.bool ((Bv S b).any (Rs s)))∧Below W.heap.size W w'):=by
   intro W hb hq;exact XU _ _ W ((h.below hb).bank b).sl (hn b) 180 #[.pointer (some ⟨w.heap.size,0,none⟩)] (Rs s) (fun vs W=>by have hf:=Tryz.func180;simp[go_sem]) (fun x W' hW'=>Aj3 x s W' _ ((hW'.block _ (gS hq)).trans hq))
  have FU:Hid (∀W,Below w.heap.size w W→Calls aA 181 #[.pointer (some ⟨g,0,none⟩),.int .i64 bi] W fun e w'=>e=.returned (.bool (decide ((Bv S b).length=OJ R b)))∧Below W.heap.size W w'):=by
   intro W hb;rw[hbi];exact XC B W g R S v1 v2 v3 (h.below hb) b hb4
  have CA:Hid (∀W,Calls aA 182 #[.agg (cv (AC s.cube.1) (AC s.cube.2))] W fun e w'=>e=.returned (.agg (cv (AC (Bh s.cube).1) (AC (Bh s.cube).2)))∧Below W.heap.size W w'):=TA s.cube hok;have HT:Hid _:=h;rw[hsB] at c0;have d0:∀u:Am (w.alloc (.cells (Ac s) 102)),u.world.cell? ⟨w.heap.size,0,none⟩=some (.int .i64 bi):=fun u=>by have h9:=(Ks Q0.out (E8 Q0.out) u).c0;rw[hsB] at h9;exact h9
  obtain⟨vb,hvb⟩:=eX (Cj v1 v2 v3 b);have d1:∀u:Am (w.alloc (.cells (Ac s) 102)),u.world.cell? ⟨g,o,none⟩=some vb:=fun u=>by have h9:=((HT.out.below B0.out).below u.below).f.bankCell b hb4;rw[←hvb] at h9;rw[hbo];exact h9
  have CT1:Hid (∀u:Am (w.alloc (.cells (Ac s) 102)),Calls aA 179 #[vb,.func (.func 180) #[] #[.pointer (some ⟨w.heap.size,0,none⟩)]] u.world fun e w'=>e=.returned (.bool ((Bv S b).any (Rs s)))∧Below u.world.heap.size u.world w'):=by intro u;rw[hvb];exact CT.out u.world (BL B0.out B0.out.size u.below) (Ap Q0.out _ ⟨u,rfl⟩)
  have ne1:=Am.ne (w.alloc (.cells (Ac s) 102));have LL:=Pb (OJ R b) (Bv S b) s (Bh s.cube);have EL':Hid _:=EL;have FU1:Hid _:=FU.out;have HBC:Hid (∀W,Cw B W g R S v1 v2 v3→W.cell? ⟨g,o,none⟩=some (Cj v1 v2 v3 b)):=fun W hW=>by rw[hbo];exact(Km (Cw.blk hW)).bankCell b hb4
  have HBK:Hid (∀W,Cw B W g R S v1 v2 v3→Au B W (Cj v1 v2 v3 b) (Bv S b)):=fun W hW=>hW.bank b;clear h hb2 CT FU EL hvb hb4 hbi hbo;rcases hbb with ⟨rfl,rfl,rfl⟩ | ⟨rfl,rfl,rfl⟩
  all_goals
   rcases LL with ⟨hany,el⟩ | ⟨hany,hlen,el⟩ | ⟨hany,hlen,el⟩
   ·have CT2:=CT1.out;rw[hany] at CT2;have CT2:Hid _:=CT2;have ER:Hid (NX R S s=(S,9)):=by show _=_;rw[EL'.out,el];rfl
    clear CT1 el hany EL' FU1;go_enter aY,aW;go_wp2_with fail;refine rL ?_
    iterate 3 (go_big_quiet_step (rfl))
    refine Em rfl _ rfl _ rfl ?_;simp only[pU]
    iterate 4 (go_big_quiet_step (rfl))
    go_big_quiet_want;go_big_quiet_op;refine⟨_,fun u=>Calls.later_of (CT2.out u),?_⟩;go_big_quiet_on;go_big_quiet_step (rfl);refine wpQuiet_nil ?_;rintro w' ⟨u,rfl⟩;have B1:Hid (Below w.heap.size w u.world):=BL B0.out B0.out.size u.below;have Q1:Hid (u.world.heap[w.heap.size]?=some (.cells (Ac s) 102 (0,0))):=Ap Q0.out _ ⟨u,rfl⟩;go_wp2_with fail;go_ret;rw[ER.out];exact⟨rfl,HT.out.same B1.out⟩
   ·have CT2:=CT1.out;rw[hany] at CT2;have CT2:Hid _:=CT2;have ER:Hid (NX R S s=(S,13)):=by show _=_;rw[EL'.out,el];rfl
    have FU2:=FU1.out;rw[decide_eq_true hlen] at FU2;have FU2:Hid _:=FU2;clear CT1 el hany EL' FU1 hlen;go_enter aY,aW;go_wp2_with fail;refine rL ?_
    iterate 3 (go_big_quiet_step (rfl))
    refine Em rfl _ rfl _ rfl ?_;simp only[pU]
    iterate 4 (go_big_quiet_step (rfl))
    go_big_quiet_want;go_big_quiet_op;refine⟨_,fun u=>Calls.later_of (CT2.out u),?_⟩;go_big_quiet_on;go_big_quiet_step (rfl);refine wpQuiet_nil ?_;rintro w' ⟨u,rfl⟩;have B1:Hid (Below w.heap.size w u.world):=BL B0.out B0.out.size u.below;have Q1:Hid (u.world.heap[w.heap.size]?=some (.cells (Ac s) 102 (0,0))):=Ap Q0.out _ ⟨u,rfl⟩;have c8:=(E8 Q1.out).c0;rw[hsB] at c8;go_wp2_with (go_at_call 181;refine(FU2.out u.world B1.out).mono ?_;rintro e w2 ⟨rfl,hb2⟩;have B2:Hid (Below w.heap.size w w2):=BL B1.out B1.out.size hb2;have Q2:Hid (w2.heap[w.heap.size]?=some (.cells (Ac s) 102 (0,0))):=(hb2.block _ (gS Q1.out)).trans Q1.out;have c9:=(E8 Q2.out).c0;rw[hsB] at c9;clear hb2;refine D9 ?_);unfold Gk;go_wp2_with fail;go_ret;rw[ER.out];exact⟨rfl,HT.out.same B2.out⟩
   ·have CT2:=CT1.out;rw[hany] at CT2;have CT2:Hid _:=CT2;have ER:=EL'.out;rw[el] at ER;have ER:Hid _:=ER;have FU2:=FU1.out;rw[decide_eq_false hlen] at FU2;have FU2:Hid _:=FU2;clear CT1 el hany EL' FU1 hlen;go_enter aY,aW;go_wp2_with fail;refine rL ?_
    iterate 3 (go_big_quiet_step (rfl))
    refine Em rfl _ rfl _ rfl ?_;simp only[pU]
    iterate 4 (go_big_quiet_step (rfl))
    go_big_quiet_want;go_big_quiet_op;refine⟨_,fun u=>Calls.later_of (CT2.out u),?_⟩;go_big_quiet_on;go_big_quiet_step (rfl);refine wpQuiet_nil ?_;rintro w' ⟨u,rfl⟩;have B1:Hid (Below w.heap.size w u.world):=BL B0.out B0.out.size u.below;have Q1:Hid (u.world.heap[w.heap.size]?=some (.cells (Ac s) 102 (0,0))):=Ap Q0.out _ ⟨u,rfl⟩;have c8:=(E8 Q1.out).c0;rw[hsB] at c8;go_wp2_with (go_at_call 181;refine(FU2.out u.world B1.out).mono ?_;rintro e w2 ⟨rfl,hb2⟩;have B2:Hid (Below w.heap.size w w2):=BL B1.out B1.out.size hb2;have Q2:Hid (w2.heap[w.heap.size]?=some (.cells (Ac s) 102 (0,0))):=(hb2.block _ (gS Q1.out)).trans Q1.out;have c9:=(E8 Q2.out).c0;rw[hsB] at c9;clear hb2;refine D9 ?_);unfold Gk;go_wp2_with (first|((with_reducible refine Apz _ rfl ?_);refine Kh rfl _ rfl w.heap.size 4 rfl _ _ _ (AC s.cube.1) (AC s.cube.2) (AV _) (AV _) Q2.out (Hb s) ?_)|(go_at_call 182;refine(CA.out _).mono ?_;rintro e w3 ⟨rfl,hb3⟩;have B3:Hid (Below w.heap.size w w3):=BL B2.out B2.out.size hb3;have Q3:Hid (w3.heap[w.heap.size]?=some (.cells (Ac s) 102 (0,0))):=(hb3.block _ (gS Q2.out)).trans Q2.out;clear hb3;refine D9 ?_));unfold Gk;obtain⟨w4,hw4⟩:∃w4,World.setRow w3 w.heap.size (Ac {s with cube:=Bh s.cube})=w4:=⟨_,rfl⟩
    go_wp2_with (first|((with_reducible refine Aoj _ _ rfl ?_);refine Ys rfl _ _ rfl w.heap.size s (Bh s.cube) rfl rfl Q3.out w4 hw4 ?_;refine D9 ?_));unfold Gk;have Q4:Hid (w4.heap[w.heap.size]?=some (.cells (Ac {s with cube:=Bh s.cube}) 102 (0,0))):=by show _=_;rw[←hw4];exact setRow_heap _ _ _ _ _ _ Q3.out
    have K4:Hid (As (Cq w.heap.size) w3 w4):=by show As _ _ _;rw[←hw4];exact IT _ _ _
    clear hw4;obtain⟨l1,l2,l3,l4,l5,l6,l7,l8⟩:=YR (W:=w4) Q4.out;have L7:Hid _:=l7;have L8:Hid _:=l8;clear l7 l8;go_wp2_with fail;obtain⟨w5,hw5⟩:=eX (aV (aV (aV w4 ⟨w.heap.size,33,none⟩ (.int .i64 0)) ⟨w.heap.size,34,none⟩ (.int .i64 0)) ⟨w.heap.size,35,none⟩ (.int .i64 0));have Q9:Hid (w5.heap[w.heap.size]?=some (.cells (Ac (Gi s (Bh s.cube))) 102 (0,0))):=by show _=_;rw[hw5];exact L7.out
    have BW9:Hid (Below w.heap.size w w5):=by show Below _ _ _;rw[hw5];exact Acl ((As.of_below (X:=Cq w.heap.size) B3.out).trans (K4.out.trans L8.out fun k hk=> .inl hk) fun k hk=> .inl hk) fun k hk=>by unfold Cq at hk;omega
    rw[←hw5];clear hw5 l1 l2 l3 l4 l5 l6 L7 L8 K4 Q4;have TT9:Hid _:=HT.out.below BW9.out;have QG9:Hid (¬Eg g v1 v2 v3 w.heap.size):=by show¬_;intro e;have h9:=(HT.out.foot_in _ e).2;omega
    have BB9:Hid (B≤w.heap.size):=by show _≤_;have h9:=HT.out.hB;have h8:=(gS HT.out.blk);omega
    have e9:∀z:Wc w.heap.size (.cells (Ac (Gi s (Bh s.cube))) 102 (0,0)),z.world.cell? ⟨w.heap.size,0,none⟩=some (.int .i64 s.bank):=fun z=>(E8 z.k1).c0;rw[hsB] at e9;refine EZ (fun a a' w'=> ∃y37 y38 y39 y40 y41 y42 y43 y44 y45 y46 y47 y48 y49 y50 y51 y52,a'=((((((((((((((((a.put (some 37) y37).put (some 38) y38).put (some 39) y39).put (some 40) y40).put (some 41) y41).put (some 42) y42).put (some 43) y43).put (some 44) y44).put (some 45) y45).put (some 46) y46).put (some 47) y47).put (some 48) y48).put (some 49) y49).put (some 50) y50).put (some 51) y51).put (some 52) y52)∧Di B w w' g R (NX R S s).1 v1 v2 v3) ?_ ?_
    ·have ne9:Nonempty (Wc w.heap.size (.cells (Ac (Gi s (Bh s.cube))) 102 (0,0))):=⟨⟨w5,Q9.out⟩⟩;refine B8 (GL w.heap.size (.cells (Ac (Gi s (Bh s.cube))) 102 (0,0))) 17 rfl (by kernel_rfl) ?_;refine rE 0 6 11 (GL.of (w:=aO w5) Q9.out) ?_;simp only[aJ,aC,aK]
     iterate 6 (go_big_quiet_step (rfl))
     refine wpQuiet_nil ?_;refine Jd (i:=6) (some 43) rfl rfl _ rfl _ rfl rfl (by kernel_rfl) (by kernel_rfl) (by kernel_rfl) (GL.of (w:=aO w5) Q9.out) ?_;simp only[pU];refine rE 7 2 8 (GL.of (w:=aO w5) Q9.out) ?_;simp only[aH,aJ,aC,aK];go_big_quiet_step (rfl);go_big_quiet_step (rfl);refine wpQuiet_nil ?_;refine rE 10 1 7 (GL.of (w:=aO w5) Q9.out) ?_;simp only[aH,aJ,aC,aK];refine SN (E:=EP) Fs rfl _ rfl w.heap.size 0 rfl _ _ _ (Ac (Gi s (Bh s.cube))) (Bl _) (by rintro w' ⟨z,rfl⟩;exact z.k1) (Ar _ _) ?_;simp only[pU];refine wpQuiet_nil ?_;refine Jd (i:=13) (some 50) rfl rfl _ rfl _ rfl rfl (by kernel_rfl) (by kernel_rfl) (by kernel_rfl) (GL.of (w:=aO w5) Q9.out) ?_;simp only[pU]
     refine rE 14 1 5 (GL.of (w:=aO w5) Q9.out) ?_;simp only[aH,aJ,aC,aK];go_big_quiet_step (rfl);refine wpQuiet_nil ?_;refine rA 9 11 ?_ ?_
     ·refine FF rfl rfl _ (QQ rfl _ _ _ _ rfl (HBC.out _ (Cw.below TT9.out (by first | exact(aN _ _).drew | exact(aN _ _).drew.alloc (aT _) _)))) (some 46) rfl ?_;refine⟨GL.of (w:=aO w5) Q9.out,?_⟩;simp only[pU];refine rO 11 ?_;refine Ky rfl rfl _ rfl (Gi s (Bh s.cube)) rfl (some 48) rfl ?_;refine⟨GL.of (Ah _ _ _ _ Q9.out),?_⟩;simp only[pU];refine rO 12 ?_;refine MO rfl rfl _ _ rfl B _ _ (Gi s (Bh s.cube)) rfl (HBK.out _ (TT9.out.below ((aN _ _).drew.alloc (aT _) _))) _ 1 rfl (Ab _ _ _ rfl) (hn _) (by have h9:=BW9.out.size;have h8:=BB9.out;simp;omega) (some 49) rfl ?_;intro v' w9 hown9 hgr9 hat9;have F9:=Uw (s:=(Gi s (Bh s.cube))) HT.out (by decide) (by decide) BW9.out v' w9 hown9 hgr9 hat9;obtain⟨⟨o9,n9,c9,rfl⟩,ce9,fz9,bl9,tt9⟩:=F9;refine⟨GL.of (bl9 _ _ QG9.out Q9.out).1,?_⟩;simp only[pU]
      refine rE 15 1 1 (GL.of (bl9 _ _ QG9.out Q9.out).1) ?_;simp only[aH,aJ,aC,aK];go_big_quiet_step (rfl);refine wpQuiet_nil ?_;refine rO 16 ?_;refine Gx rfl rfl (RB rfl _ _ _ _ _ _ _ rfl rfl ce9 fz9) rfl ?_;refine⟨GL.of (bl9 _ _ QG9.out Q9.out).2,?_⟩;refine rD ?_;exact⟨rfl,_,_,_,_,_,_,_,_,_,_,_,_,_,_,_,_,rfl,by rw[ER.out];exact tt9⟩
     ·refine Ky rfl rfl _ rfl (Gi s (Bh s.cube)) rfl (some 48) rfl ?_;refine⟨GL.of (Ah _ _ _ _ Q9.out),?_⟩;simp only[pU];refine rO 9 ?_;refine FF rfl rfl _ (QQ rfl _ _ _ _ rfl (HBC.out _ (Cw.below TT9.out (by first | exact(aN _ _).drew | exact(aN _ _).drew.alloc (aT _) _)))) (some 46) rfl ?_;refine⟨GL.of (Ah _ _ _ _ Q9.out),?_⟩;simp only[pU];refine rO 12 ?_;refine MO rfl rfl _ _ rfl B _ _ (Gi s (Bh s.cube)) rfl (HBK.out _ (TT9.out.below ((aN _ _).drew.alloc (aT _) _))) _ 1 rfl (Ab _ _ _ rfl) (hn _) (by have h9:=BW9.out.size;have h8:=BB9.out;simp;omega) (some 49) rfl ?_;intro v' w9 hown9 hgr9 hat9;have F9:=Uw (s:=(Gi s (Bh s.cube))) HT.out (by decide) (by decide) BW9.out v' w9 hown9 hgr9 hat9;obtain⟨⟨o9,n9,c9,rfl⟩,ce9,fz9,bl9,tt9⟩:=F9;refine⟨GL.of (bl9 _ _ QG9.out Q9.out).1,?_⟩;simp only[pU]
      refine rE 15 1 1 (GL.of (bl9 _ _ QG9.out Q9.out).1) ?_;simp only[aH,aJ,aC,aK];go_big_quiet_step (rfl);refine wpQuiet_nil ?_;refine rO 16 ?_;refine Gx rfl rfl (RB rfl _ _ _ _ _ _ _ rfl rfl ce9 fz9) rfl ?_;refine⟨GL.of (bl9 _ _ QG9.out Q9.out).2,?_⟩;refine rD ?_;exact⟨rfl,_,_,_,_,_,_,_,_,_,_,_,_,_,_,_,_,rfl,by rw[ER.out];exact tt9⟩
    ·rintro a' w' ⟨y37,y38,y39,y40,y41,y42,y43,y44,y45,y46,y47,y48,y49,y50,y51,y52,rfl,tt9⟩;have T9:Hid _:=tt9;clear tt9;simp only[pU];go_wp2_with fail;go_ret;exact⟨by rw[ER.out];rfl,T9.out⟩
 ·have hn2:s.bank≠2:=fun e=>hb2 (.inl e);have hn3:s.bank≠3:=fun e=>hb2 (.inr e);have EL:Hid (NX R S s=(S,1)):=An2 hn2 hn3;have FT:Hid (Di B w (w.alloc (.cells (Ac s) 102)) g R S v1 v2 v3):=h.same B0.out;clear h hok hb2 hn;have hd2:(s.bank !=2)=true:=by simpa using hn2
  have hd3:(s.bank !=3)=true:=by simpa using hn3
  generalize s.bank=sb at c0 hn2 hn3 hd2 hd3;go_enter aY,aW;go_wp2_with fail;go_ret;rw[EL.out];exact⟨rfl,FT.out⟩
structure Kf(n:Nat)(R:Rm)(S:Aq):Prop where
 inv:PA GK n R S
 ord:∀x∈S.c,x.order=0
 dist:H8 S.c
theorem Kf.more{n:Nat}{R:Rm}{S:Aq}(h:Kf n R S):Kf (n+1) R S:=⟨h.inv.more,h.ord,h.dist⟩
theorem Aj8(R:Rm):Kf 0 R ⟨[],[],[]⟩:=⟨An5 _ _,fun x hx=>by simp at hx,bN⟩
theorem XM{A D:List Ai}{x y:Ai}(h:H8 (A++x::D))(he:y.epoch=x.epoch)(hc:y.cube=x.cube):H8 (A++y::D):=by
 unfold H8 at h ⊢;rw[bD] at h ⊢;rw[aM] at h ⊢;refine⟨h.1,⟨fun z hz=>by rw[he,hc];exact h.2.1.1 z hz,h.2.1.2⟩,fun a ha b hb=> ?_⟩;rcases aL.1 hb with rfl | hb
 ·rw[he,hc];exact h.2.2 a ha x (by simp)
 ·exact h.2.2 a ha b (by simp[hb])
theorem UY{s x:Ai}:G4 s x=true↔x.epoch=s.epoch∧x.cube=s.cube:=by unfold G4;simp
theorem Vw{C:List Ai}{s:Ai}(h:H8 C)(hn:∀y∈C,G4 s y=false):H8 (C++[s]):=by
 unfold H8 at h ⊢;rw[bD];refine⟨h,aZ _ _,fun a ha b hb=> ?_⟩;obtain rfl:b=s:=by simpa using hb
 intro e;have h1:=UY.2 e;rw[hn a ha] at h1
 cases h1
theorem Ac6(room:Nat)(C:List Ai)(s:Ai)(h:H8 C):H8 (Cr room C s).1:=by
 rcases KW room C s with ⟨_,e⟩ | ⟨_,A,x,D,⟨h1,h2,_⟩,e⟩ | ⟨_,hn,hf,A,x,D,⟨h1,_⟩,e⟩ | ⟨_,hn,hf,e⟩
 ·rw[e];exact h
 ·rw[e];subst h1;obtain⟨q1,q2⟩:=UY.1 h2;exact XM h q1.symm q2.symm
 ·rw[e];subst h1;refine Vw ?_ fun y hy=>hn y ?_
  ·unfold H8 at h ⊢;refine h.sublist ?_;exact List.Sublist.append (aD _) (List.sublist_cons_self _ _)
  ·rcases bA.1 hy with h2 | h2
   ·simp[h2]
   ·simp[h2]
 ·rw[e];exact Vw h hn
theorem Te{n:Nat}{R:Rm}{S:Aq}(h:Kf n R S)(s:Ai)(hs:s.order=0):(∀x∈(Cr R.cache S.c s).1,x.order=0)∧H8 (Cr R.cache S.c s).1:=
 ⟨Tc _ _ _ h.ord hs,Ac6 _ _ _ h.dist⟩
theorem Vd{n:Nat}{R:Rm}{S:Aq}(h:Kf n R S)(mt:Ai→Bool)(now:Int):(∀x∈(DG S mt now).1.c,x.order=0)∧H8 (DG S mt now).1.c:=by
 rcases JY S mt with ⟨A,x,D,⟨h1,_⟩,e⟩ | ⟨_,A,x,D,⟨h1,_⟩,e⟩ | ⟨_,_,A,x,D,⟨h1,_⟩,e⟩ | ⟨_,_,_,e⟩
 ·unfold DG;rw[e];simp only[Lo,if_true];have h2:=h.ord;have h3:=h.dist;rw[h1] at h2 h3;refine⟨fun y hy=> ?_,XM h3 rfl rfl⟩;rcases bA.1 hy with q | q
  ·exact h2 y (by simp[q])
  ·rcases aL.1 q with rfl | q
   ·exact h2 x (by simp)
   ·exact h2 y (by simp[q])
 ·unfold DG;rw[e];exact⟨h.ord,h.dist⟩
 ·unfold DG;rw[e];exact⟨h.ord,h.dist⟩
 ·unfold DG;rw[e];exact⟨h.ord,h.dist⟩
theorem LR{n:Nat}{R:Rm}{S:Aq}(h:Kf n R S)(x:Aky)(hq:GK x.slot.cube):Kf (n+1) R (Sy Bh Er R S x):=by
 refine⟨Aj9 h.inv x (Us hq),?_,?_⟩
 all_goals
  unfold Sy;by_cases h1:x.kind=1
  ·rw[if_pos h1]
   first | exact(Te h (Co x.now x.slot.epoch (Bh x.slot.cube) x.slot.action) rfl).1 | exact(Te h (Co x.now x.slot.epoch (Bh x.slot.cube) x.slot.action) rfl).2
  rw[if_neg h1];by_cases h2:x.kind=2
  ·rw[if_pos h2];by_cases b2:x.slot.bank=2
   ·rw[if_pos b2];first | exact h.ord | exact h.dist
   rw[if_neg b2];by_cases b3:x.slot.bank=3
   ·rw[if_pos b3];first | exact h.ord | exact h.dist
   rw[if_neg b3];first | exact h.ord | exact h.dist
  rw[if_neg h2];by_cases h3:x.kind=3
  ·rw[if_pos h3];first | exact(Vd h _ _).1 | exact(Vd h _ _).2
  rw[if_neg h3];by_cases h6:x.kind=6
  ·rw[if_pos h6];first | exact fun y hy=>h.ord y (bB.1 hy).1 | exact bE _ h.dist
  rw[if_neg h6];by_cases h7:x.kind=7
  ·rw[if_pos h7];first | exact fun y hy=>h.ord y (bB.1 hy).1 | exact bE _ h.dist
  rw[if_neg h7]
  first | exact h.ord | exact h.dist
theorem Ajn(q:Ai→Bool)(C:List Ai):(C.filter fun x=> !(q x)).length+(C.filter q).length=C.length:=by
 induction C with
 | nil=>rfl
 | cons x C ih=>
  rw[aB,aB]
  cases q x <;> simp <;> omega
end
def Apx(c:List Int×List Int):Prop:=AZ c.1 c.2=c.1∧AK c.1∧AK c.2
def IW(x:Ai):List Ai→List Ai
 | []=>[x]
 | y::l=>if x.order≤y.order then x::y::l else y::IW x l
def Ln(l:List Ai):List Ai:=l.foldr IW []
theorem RF(x z:Ai):∀l:List Ai,z∈IW x l↔z=x∨z∈l
 | []=>by simp[IW]
 | y::l=>by
  unfold IW
  split
  ·simp
  ·rw[aL,RF x z l,aL]
   constructor <;> (rintro(h | h | h) <;> simp[h])
theorem WN(x:Ai):∀l:List Ai,(IW x l).length=l.length+1
 | []=>rfl
 | y::l=>by
  unfold IW
  split
  ·simp
  ·rw[bP,WN x l,bP]
theorem U2{x:Ai}:∀ {l:List Ai},Ge GF l→Ge GF (IW x l)
 | [],_=>aZ _ _
 | y::l,h=>by
  have h':=aM.1 h
  unfold IW
  split
  ·rename_i hxy
   refine aM.2 ⟨fun z hz=> ?_,h⟩
   rcases aL.1 hz with rfl | hz
   ·unfold GF;omega
   ·have:=h'.1 z hz
    unfold GF at this ⊢
    omega
  ·rename_i hxy
   refine aM.2 ⟨fun z hz=> ?_,U2 h'.2⟩
   rcases(RF x z l).1 hz with rfl | hz
   ·unfold GF;omega
   ·exact h'.1 z hz
theorem SS{x:Ai}:∀l:List Ai,BZ GF (IW x l) (x::l)
 | []=>fun _=>rfl
 | y::l=>by
  unfold IW
  split
  ·exact fun _=>rfl
  ·rename_i hxy
   intro k
   have ih:=SS (x:=x) l k
   by_cases hx:GF x=k
   ·have hy:¬GF y=k:=by unfold GF at hx ⊢;omega
    rw[aB,if_neg (by simpa using hy),ih,aB,aB,if_pos (by simpa using hx),if_pos (by simpa using hx),aB,if_neg (by simpa using hy)]
   ·have e1:bC (fun z=>GF z==k) (IW x l)=bC (fun z=>GF z==k) l:=by rw[ih,aB,if_neg (by simpa using hx)]
    have e2:bC (fun z=>GF z==k) (x::y::l)=bC (fun z=>GF z==k) (y::l):=by rw[aB,if_neg (by simpa using hx)]
    rw[e2,aB,e1,aB]
theorem Mj:∀l:List Ai,MN l (Ln l)
 | []=>⟨rfl,bN,BZ.refl _ _⟩
 | x::l=>by
  obtain⟨h1,h2,h3⟩:=Mj l
  refine⟨?_,U2 h2,(SS (Ln l)).trans fun k=> ?_⟩
  ·show(IW x (Ln l)).length=_
   rw[WN,h1]
   rfl
  ·rw[aB,h3 k,aB]
theorem WM{f:Ai→Ai}(hf:∀s,(f s).order=s.order)(x:Ai):∀l:List Ai,IW (f x) (l.map f)=(IW x l).map f
 | []=>rfl
 | y::l=>by
  show(if (f x).order≤(f y).order then _ else _)=(if x.order≤y.order then _ else _:List Ai).map f
  rw[hf,hf]
  split
  ·rfl
  ·rw[WM hf x l]
   rfl
theorem Zp{f:Ai→Ai}(hf:∀s,(f s).order=s.order):∀l:List Ai,Ln (l.map f)=(Ln l).map f
 | []=>rfl
 | x::l=>by
  show IW (f x) (Ln (l.map f))=(IW x (Ln l)).map f
  rw[Zp hf l,WM hf]
def Ic(s:Ai):Bp:=⟨s.order,s.cube,s.action⟩
def qX(S:Aq)(e:Int):List Bp:=(Ln ((S.a.map fun s=>{s with count:=0}).filter fun s=>decide (s.epoch=e))).map Ic
theorem UZ{S:Aq}{e:Int}{m:List Ai}(h:TH S e m):m=Ln (S.a.filter fun x=>x.epoch==e):=
 Sz h.desc (Mj _).desc (h.alike.trans (Mj _).alike.symm)
theorem Ua(S:Aq)(e:Int):qX S e=(Ln (S.a.filter fun x=>x.epoch==e)).map Ic:=by
 unfold qX;rw[List.filter_map,Zp (f:=fun s:Ai=>{s with count:=0}) (fun _=>rfl),List.map_map]
 have h1:((fun s:Ai=>decide (s.epoch=e))∘fun s:Ai=>{s with count:=0})=fun x:Ai=>x.epoch==e:=by
  funext s;show decide (s.epoch=e)=(s.epoch==e);by_cases h:s.epoch=e <;> simp[h]
 rw[h1];rfl
theorem Am4{S:Aq}{e:Int}{m:List Ai}(h:TH S e m):m.map Ic=qX S e:=by rw[Ua,UZ h]
theorem TX(z:Ai):∀l:List Ai,z∈Ln l↔z∈l
 | []=>Iff.rfl
 | x::l=>by
  show z∈IW x (Ln l)↔_
  rw[RF,TX z l,aL]
theorem Al2{S:Aq}{e:Int}{r:Bp}(h:r∈qX S e):∃s∈S.a,s.epoch=e∧Ic s=r:=by
 rw[Ua] at h;obtain⟨s,h1,h2⟩:=List.mem_map.1 h;obtain⟨h3,h4⟩:=bB.1 ((TX _ _).1 h1);exact⟨s,h3,by simpa using h4,h2⟩
theorem Al3(S:Aq)(e:Int):(qX S e).length≤S.a.length:=by
 rw[Ua,List.length_map,(Mj _).len];exact List.length_filter_le _ _
def Yn(q:List Bp)(H:List Int):Option ((List Int×List Int)×Int):=match q.find? (Kb H) with
 | some r=>some (Hl (E5 (q.takeWhile fun x=> !(Kb H x))) r.cube H,r.action)
 | none=>none
theorem M9{H:List Int}{r:Bp}:∀ {q:List Bp} {p:Nat},Gd q H p r→q.find? (Kb H)=some r∧(q.takeWhile fun x=> !(Kb H x))=q.take p
 | [],p,h=>by have:=h.at_;simp at this
 | a::q,0,h=>by
  have h1:=h.at_
  simp only[List.getElem?_cons_zero,Option.some.injEq] at h1
  subst h1
  have h2:Kb H a=true:=h.has_
  refine⟨by rw[bR,h2],?_⟩
  rw[bI,h2]
  rfl
 | a::q,p+1,h=>by
  have h1:=h.at_
  have h2:Kb H a=false:=h.ahead a.cube (by unfold E5;rw[aC,List.map_cons];exact List.mem_cons_self)
  have h3:Gd q H p r:=⟨by simpa using h1,h.has_,fun x hx=>h.ahead x (by unfold E5 at hx ⊢;rw[aC,List.map_cons];exact List.mem_cons_of_mem _ hx)⟩
  obtain⟨e1,e2⟩:=M9 h3
  refine⟨by rw[bR,h2];exact e1,?_⟩
  rw[bI,h2,if_pos (by rfl),e2,aC]
theorem Z7{q:List Bp}{H:List Int}{p:Nat}{r:Bp}(h:Gd q H p r):Yn q H=some (Hl (E5 (q.take p)) r.cube H,r.action):=by
 obtain⟨e1,e2⟩:=M9 h;unfold Yn;rw[e1,e2]
theorem Ah0{q:List Bp}{H:List Int}(h:∀x∈q,Kb H x=false):Yn q H=none:=by
 unfold Yn;rw[List.find?_eq_none.2 fun x hx=>by rw[h x hx];decide]
theorem Aof{q:List Bp}{H:List Int}{c:List Int×List Int}{a:Int}(h:Yn q H=some (c,a)):∃p r,Gd q H p r∧c=Hl (E5 (q.take p)) r.cube H∧a=r.action∧r∈q:=by
 rcases XI q H with ⟨k,r,hf⟩ | hn
 ·rw[Z7 hf] at h;simp only[Option.some.injEq,Prod.mk.injEq] at h;exact⟨k,r,hf,h.1.symm,h.2.symm,List.mem_of_getElem? hf.at_⟩
 ·rw[Ah0 hn] at h
  cases h
def Al(R:Rm):Qz Aq where
 look S now e h:=DG S (E7 Er e h) now
 learn S now e c a:=({S with c:=(Cr R.cache S.c (Co now e (Bh c) a)).1},(Cr R.cache S.c (Co now e (Bh c) a)).2.1,(Cr R.cache S.c (Co now e (Bh c) a)).2.2.1)
 lay S s:=if s.bank=2 then ({S with a:=(I7 R.auth S.a s (Bh s.cube)).1},(I7 R.auth S.a s (Bh s.cube)).2) else if s.bank=3 then ({S with p:=(I7 R.part S.p s (Bh s.cube)).1},(I7 R.part S.p s (Bh s.cube)).2) else (S,1)
 keep S x y:=JE S x y
 tick S now:=QE R.idle R.hard now S
 about S e h:=Yn ((Ln ((S.a.map fun s=>{s with count:=0}).filter fun s=>decide (s.epoch=e))).map Ic) h
 cach S:=S.c.length
theorem Sv(R:Rm)(S:Aq)(e:Int)(h:List Int):(Al R).about S e h=Yn (qX S e) h:=rfl
theorem Acw{R:Rm}{S:Aq}{e:Int}{h:List Int}{c:List Int×List Int}{a:Int}(hab:(Al R).about S e h=some (c,a))(hok:∀s∈S.a,GK s.cube):Apx c∧has c.1 c.2 h=true∧∃s∈S.a,s.epoch=e∧s.action=a:=by
 rw[Sv] at hab;obtain⟨p,r,hf,rfl,rfl,hr⟩:=Aof hab;obtain⟨s,h1,h2,rfl⟩:=Al2 hr;obtain⟨a1,_,_,a4,_⟩:=Ym (A:=E5 ((qX S e).take p)) (c0:=(Ic s).cube) (H:=h) (hok s h1).2 hf.has_ hf.ahead;exact⟨⟨SJ a4,a4.1,a4.2.1⟩,a1,s,h1,h2,rfl⟩
section
variable {T:Type} {O:Qz T}
def AS(Q:AP→Prop)(n n':Af T):Prop:=∃l,n'.log=n.log++l∧∀y∈l,Q y
theorem AS.refl(Q:AP→Prop)(n:Af T):AS Q n n:=⟨[],by simp,fun _ h=>absurd h (bQ)⟩
theorem AS.of_eq{Q:AP→Prop}{n n':Af T}(h:n'.log=n.log):AS Q n n':=⟨[],by simpa using h,fun _ h=>absurd h (bQ)⟩
theorem AS.trans{Q:AP→Prop}{a b c:Af T}(h1:AS Q a b)(h2:AS Q b c):AS Q a c:=by
 obtain⟨l,e1,q1⟩:=h1;obtain⟨k,e2,q2⟩:=h2;refine⟨l++k,by rw[e2,e1,bK],fun y hy=> ?_⟩;rcases bA.1 hy with h | h
 ·exact q1 y h
 ·exact q2 y h
theorem AS.mono{Q R:AP→Prop}{a b:Af T}(h:AS Q a b)(hq:∀y,Q y→R y):AS R a b:=by
 obtain⟨l,e,q⟩:=h;exact⟨l,e,fun y hy=>hq y (q y hy)⟩
theorem AS.write{Q:AP→Prop}{n a:Af T}(h:AS Q n a){x:AP}(hx:Q {x with at_:=a.num}):AS Q n (Cc a x):=
 h.trans ⟨[{x with at_:=a.num}],rfl,fun y hy=>by rw[List.mem_singleton.1 hy];exact hx⟩
theorem Ew(n:Af T)(«to»:Int)(m:An):(Cx n «to» m).log=n.log∧(Cx n «to» m).hold=n.hold∧(Cx n «to» m).wait=n.wait∧(Cx n «to» m).tab=n.tab∧(Cx n «to» m).num=n.num∧(Cx n «to» m).lease=n.lease∧(Cx n «to» m).beat=n.beat∧(Cx n «to» m).cache=n.cache:=by
 unfold Cx;split <;> exact⟨rfl,rfl,rfl,rfl,rfl,rfl,rfl,rfl⟩
structure Ft(n n':Af T):Prop where
 hold:n'.hold=n.hold
 wait:n'.wait=n.wait
 num:n'.num=n.num
 lease:n'.lease=n.lease
 beat:n'.beat=n.beat
 cache:n'.cache=n.cache
theorem Ft.refl(n:Af T):Ft n n:=⟨rfl,rfl,rfl,rfl,rfl,rfl⟩
theorem Ft.trans{a b c:Af T}(h:Ft a b)(k:Ft b c):Ft a c:=⟨k.hold.trans h.hold,k.wait.trans h.wait,k.num.trans h.num,k.lease.trans h.lease,k.beat.trans h.beat,k.cache.trans h.cache⟩
theorem Hd(n:Af T)(«to»:Int)(m:An):Ft n (Cx n «to» m):=by
 have h:=Ew n «to» m;exact⟨h.2.1,h.2.2.1,h.2.2.2.2.1,h.2.2.2.2.2.1,h.2.2.2.2.2.2.1,h.2.2.2.2.2.2.2⟩
theorem Jz(n:Af T)(x:AP):Ft n (Cc n x):=⟨rfl,rfl,rfl,rfl,rfl,rfl⟩
theorem Nr(n:Af T)(t:T):Ft n (AX n t):=⟨rfl,rfl,rfl,rfl,rfl,rfl⟩
theorem EY(n:Af T)(seq index:Int)(h:List Int)(sent:Int)(s:Ai):Ft n (Da n seq index h sent s):=by
 unfold Da;split
 ·exact Ft.refl n
 ·exact(Hd _ _ _).trans (Jz _ _)
theorem PD{Q:AP→Prop}(n:Af T)(seq index:Int)(h:List Int)(sent:Int)(s:Ai)(hq:∀y,y.kind=9→y.index=index→Q y):AS Q n (Da n seq index h sent s):=by
 unfold Da;split
 ·exact AS.refl Q n
 ·exact(AS.of_eq (Ew n _ _).1).write (hq _ rfl rfl)
theorem LW{α:Type}{Q:AP→Prop}{f:Af T→α→Af T}(I:Af T→Prop)(hI:∀n x,I n→I (f n x))(hf:∀n x,I n→AS Q n (f n x)):∀(l:List α) (n:Af T),I n→AS Q n (l.foldl f n)∧I (l.foldl f n)
 | [],n,h=>⟨AS.refl Q n,h⟩
 | x::l,n,h=>by
  obtain⟨h1,h2⟩:=LW I hI hf l (f n x) (hI n x h)
  exact⟨(hf n x h).trans h1,h2⟩
theorem UO(n:Af T)(h:Bb):AS (fun y=>y.kind=16) n (Cs O n h)∧(Cs O n h).hold=n.hold∧(Cs O n h).wait=n.wait∧(Cs O n h).lease=n.lease∧(Cs O n h).num=n.num∧(Cs O n h).cache=n.cache∧(Cs O n h).beat=n.beat:=by
 unfold Cs;dsimp only;split
 ·split
  ·exact⟨(AS.of_eq (n':=AX n _) rfl).write rfl,rfl,rfl,rfl,rfl,rfl,rfl⟩
  ·exact⟨(AS.refl _ n).write rfl,rfl,rfl,rfl,rfl,rfl,rfl⟩
 ·split
  ·exact⟨AS.of_eq rfl,rfl,rfl,rfl,rfl,rfl,rfl⟩
  ·exact⟨AS.refl _ n,rfl,rfl,rfl,rfl,rfl,rfl⟩
theorem Xc(n:Af T)(m:An):AS (fun y=>y.kind=20) n (JP O n m)∧Ft n (JP O n m):=by
 unfold JP;split;rename_i t e _;split
 ·exact⟨AS.of_eq rfl,Nr n t⟩
 ·exact⟨(AS.of_eq (n':=AX n t) rfl).write rfl,(Nr n t).trans (Jz _ _)⟩
theorem Ny(n:Af T)(m:An):AS (fun y=>y.kind=16∨y.kind=20) n (Ea O n m).1∧(Ea O n m).1.hold=(DK n.hold (Ad m 2) (Ad m 1) (Ad m 3) (Ad m 4)).1∧(Ea O n m).1.wait=n.wait∧(Ea O n m).1.lease=n.lease∧(Ea O n m).1.num=n.num∧(Ea O n m).1.cache=n.cache∧(Ea O n m).1.beat=n.beat:=by
 unfold Ea;split;rename_i h v e;rw[e];dsimp only;obtain⟨t1,t2,t3,t4,t5,t6,t7⟩:=UO (O:=O) (Bi n h) n.hold;have t1':AS (fun y=>y.kind=16∨y.kind=20) n (Cs O (Bi n h) n.hold):=(AS.of_eq (n':=Bi n h) rfl).trans (t1.mono fun _ e=> .inl e);split
 ·exact⟨t1',t2,t3,t4,t5,t6,t7⟩
 ·dsimp only;unfold Mb;split
  ·obtain⟨l1,l2⟩:=Xc (O:=O) (Cs O (Bi n h) n.hold) m;have sq:=l2.trans (Hd (JP O (Cs O (Bi n h) n.hold) m) 0 (Cz 4 (JP O (Cs O (Bi n h) n.hold) m).hold.life (Ad m 1) 0 (((JP O (Cs O (Bi n h) n.hold) m).hold.cnt (Ad m 1)).1:Nat) 0 0 0 0 0 0 0 0 0 (Z,Z) Z));exact⟨(t1'.trans (l1.mono fun _ e=> .inr e)).trans (AS.of_eq (Ew _ _ _).1),sq.hold.trans t2,sq.wait.trans t3,sq.lease.trans t4,sq.num.trans t5,sq.cache.trans t6,sq.beat.trans t7⟩
  ·have sq:=Hd (Cs O (Bi n h) n.hold) 0 (Cz 4 (Cs O (Bi n h) n.hold).hold.life (Ad m 1) 0 (((Cs O (Bi n h) n.hold).hold.cnt (Ad m 1)).1:Nat) 0 0 0 0 0 0 0 0 0 (Z,Z) Z);exact⟨t1'.trans (AS.of_eq (Ew _ _ _).1),sq.hold.trans t2,sq.wait.trans t3,sq.lease.trans t4,sq.num.trans t5,sq.cache.trans t6,sq.beat.trans t7⟩
theorem Qg(n:Af T)(m:An):AS (fun y=>y.kind=16) n (IC O n m)∧(IC O n m).hold=(Dq n.hold (Ad m 9) (Ad m 10) (Ad m 2)).1∧(IC O n m).wait=n.wait∧(IC O n m).lease=n.lease∧(IC O n m).num=n.num∧(IC O n m).cache=n.cache∧(IC O n m).beat=n.beat:=by
 unfold IC;dsimp only;obtain⟨t1,t2,t3,t4,t5,t6,t7⟩:=UO (O:=O) (Bi n (Dq n.hold (Ad m 9) (Ad m 10) (Ad m 2)).1) n.hold;have t1':=(AS.of_eq (Q:=fun y=>y.kind=16) (n':=Bi n (Dq n.hold (Ad m 9) (Ad m 10) (Ad m 2)).1) rfl).trans t1;split
 ·unfold H7;have sq:=Hd (Cs O (Bi n (Dq n.hold (Ad m 9) (Ad m 10) (Ad m 2)).1) n.hold) 0 (Cz 5 (Cs O (Bi n (Dq n.hold (Ad m 9) (Ad m 10) (Ad m 2)).1) n.hold).hold.life (Cs O (Bi n (Dq n.hold (Ad m 9) (Ad m 10) (Ad m 2)).1) n.hold).hold.top 0 (((Cs O (Bi n (Dq n.hold (Ad m 9) (Ad m 10) (Ad m 2)).1) n.hold).hold.cnt (Cs O (Bi n (Dq n.hold (Ad m 9) (Ad m 10) (Ad m 2)).1) n.hold).hold.top).1:Nat) 0 0 0 0 0 0 (Cs O (Bi n (Dq n.hold (Ad m 9) (Ad m 10) (Ad m 2)).1) n.hold).hold.use 0 (Cs O (Bi n (Dq n.hold (Ad m 9) (Ad m 10) (Ad m 2)).1) n.hold).load (Z,Z) Z);exact⟨t1'.trans (AS.of_eq (Ew _ _ _).1),sq.hold.trans t2,sq.wait.trans t3,sq.lease.trans t4,sq.num.trans t5,sq.cache.trans t6,sq.beat.trans t7⟩
 ·exact⟨t1',t2,t3,t4,t5,t6,t7⟩
theorem LH(n:Af T)(src:Int)(m:An):(DT O n src m).1.log=n.log∧Ft n (DT O n src m).1∧((DT O n src m).2=false→(DT O n src m).1=n):=by
 unfold DT;split
 ·split
  ·rename_i c a _;refine⟨(Ew _ _ _).1,?_,fun h=>by cases h⟩;exact Ft.trans (b:={n with load:=if n.load<281474976710655 then n.load+1 else n.load}) ⟨rfl,rfl,rfl,rfl,rfl,rfl⟩ (Hd _ _ _)
  ·exact⟨rfl,Ft.refl n,fun _=>rfl⟩
 ·exact⟨rfl,Ft.refl n,fun _=>rfl⟩
theorem Ab6(n:Af T)(m:An)(now:Int):AS (fun y=>y.kind=10∨y.kind=11) n (JW O n m now)∧Ft n (JW O n m now):=by
 unfold JW;split;rename_i t x gone _;dsimp only;split
 ·exact⟨((AS.of_eq (n':=AX n t) rfl).write (.inr rfl)).write (.inl rfl),⟨rfl,rfl,rfl,rfl,rfl,rfl⟩⟩
 ·exact⟨(AS.of_eq (n':=AX n t) rfl).write (.inl rfl),⟨rfl,rfl,rfl,rfl,rfl,rfl⟩⟩
structure Fi(n n':Af T):Prop where
 hold:n'.hold=n.hold
 num:n'.num=n.num
 lease:n'.lease=n.lease
 beat:n'.beat=n.beat
 cache:n'.cache=n.cache
theorem Ft.h{n n':Af T}(h:Ft n n'):Fi n n':=⟨h.hold,h.num,h.lease,h.beat,h.cache⟩
theorem Fi.refl(n:Af T):Fi n n:=⟨rfl,rfl,rfl,rfl,rfl⟩
theorem Fi.trans{a b c:Af T}(h:Fi a b)(k:Fi b c):Fi a c:=⟨k.hold.trans h.hold,k.num.trans h.num,k.lease.trans h.lease,k.beat.trans h.beat,k.cache.trans h.cache⟩
theorem P5(n:Af T)(m:An)(now:Int):AS (fun y=>y.kind=10∨y.kind=11) n (EB O n m now)∧Ft n (EB O n m now):=by
 unfold EB;split
 ·exact Ab6 n m now
 ·exact⟨AS.refl _ n,Ft.refl n⟩
theorem Xp(n:Af T)(m:An)(now:Int):AS (fun y=>(y.kind=5∨y.kind=10∨y.kind=11)∧EC n now=true) n (FL O n m now).1∧Fi n (FL O n m now).1:=by
 unfold FL;split
 ·rename_i hm;obtain⟨l1,l2⟩:=P5 (O:=O) n m now;have l3:=l1.mono (R:=fun y=>(y.kind=5∨y.kind=10∨y.kind=11)∧EC n now=true) (fun y hy=>⟨hy.elim (fun e=> .inr (.inl e)) (fun e=> .inr (.inr e)),hm⟩);split
  ·rename_i w x _;exact⟨(l3.trans (AS.of_eq (n':=Db (EB O n m now) w) rfl)).write ⟨.inl rfl,hm⟩,l2.h.trans ⟨rfl,rfl,rfl,rfl,rfl⟩⟩
  ·exact⟨l3,l2.h⟩
 ·exact⟨AS.refl _ n,Fi.refl n⟩
def TF(n:Af T)(src:Int)(data:List UInt8)(now:Int)(n':Af T):Prop:=
 (Fi n n'∧AS (fun y=>(y.kind=5∨y.kind=10∨y.kind=11)∧EC n now=true∨y.kind=13) n n')∨
 (∃m,DQ data=some m∧src=0∧Ad m 0=n.hold.life∧n'.num=n.num∧n'.lease=n.lease∧n'.beat=n.beat∧n'.cache=n.cache∧n'.wait=n.wait∧AS (fun y=>y.kind=13∨y.kind=16∨y.kind=20) n n'∧
  ((m.kind=1∨m.kind=2)∧n'.hold=(DK n.hold (Ad m 2) (Ad m 1) (Ad m 3) (Ad m 4)).1∨m.kind=3∧n'.hold=(Dq n.hold (Ad m 9) (Ad m 10) (Ad m 2)).1))
theorem Aaa{n a:Af T}{src:Int}{data:List UInt8}{now:Int}(h:TF n src data now a):TF n src data now (Cc a {FB with kind:=13}):=by
 rcases h with ⟨h1,h2⟩ | ⟨m,h1,h2,h3,h4,h5,h6,h7,h8,h9,h10⟩
 ·exact .inl ⟨h1.trans (Jz _ _).h,h2.write (.inr rfl)⟩
 ·exact .inr ⟨m,h1,h2,h3,h4,h5,h6,h7,h8,h9.write (.inl rfl),h10⟩
theorem Kj(n:Af T)(src:Int)(data:List UInt8)(now:Int):TF n src data now n:=.inl ⟨Fi.refl n,AS.refl _ n⟩
theorem Ady(n:Af T)(src:Int)(data:List UInt8)(now:Int):TF n src data now (IA O n src data now).1:=by
 unfold IA;split
 ·exact Kj n src data now
 ·rename_i m hd;dsimp only;split
  ·rename_i hk;split
   ·rename_i hs;obtain⟨i1,i2,i3,i4,i5,i6,i7⟩:=Ny (O:=O) n m;exact .inr ⟨m,hd,hs.1,of_decide_eq_true hs.2,i5,i4,i7,i6,i3,i1.mono fun _ e=> .inr e,.inl ⟨hk,i2⟩⟩
   ·exact Kj n src data now
  ·split
   ·rename_i hk;split
    ·rename_i hs;obtain⟨i1,i2,i3,i4,i5,i6,i7⟩:=Qg (O:=O) n m;exact .inr ⟨m,hd,hs.1,of_decide_eq_true hs.2,i5,i4,i7,i6,i3,i1.mono fun _ e=> .inr (.inl e),.inr ⟨hk,i2⟩⟩
    ·exact Kj n src data now
   ·split
    ·split
     ·obtain⟨a1,a2,_⟩:=LH (O:=O) n src m;exact .inl ⟨a2.h,AS.of_eq a1⟩
     ·exact Kj n src data now
    ·split
     ·split
      ·obtain⟨a1,a2⟩:=Xp (O:=O) n m now;exact .inl ⟨a2,a1.mono fun _ e=> .inl e⟩
      ·exact Kj n src data now
     ·exact Kj n src data now
theorem PQ(n:Af T)(src:Int)(data:List UInt8)(now:Int):TF n src data now (DC O n src data now):=by
 have h:=Ady (O:=O) n src data now;unfold DC;split
 ·rename_i a e;rw[e] at h;exact h
 ·rename_i a e;rw[e] at h;exact Aaa h
theorem Wy(n:Af T)(now:Int)(x:AN):Fi n (DJ O n now x):=by
 unfold DJ;split
 ·rename_i t s _;split
  ·exact((Nr n t).trans (EY _ _ _ _ _ _)).h
  ·exact⟨rfl,rfl,rfl,rfl,rfl⟩
 ·exact⟨rfl,rfl,rfl,rfl,rfl⟩
theorem Akr(n:Af T)(now:Int)(x:AN):AS (fun y=>(y.kind=5∨y.kind=9)∧y.index=x.index) n (DJ O n now x):=by
 unfold DJ;split
 ·rename_i t s _;split
  ·exact(AS.of_eq (n':=AX n t) rfl).trans (PD _ _ _ _ _ _ fun y h1 h2=>⟨.inr h1,h2⟩)
  ·exact(AS.of_eq (n':=Db (AX n t) _) rfl).write ⟨.inl rfl,rfl⟩
 ·exact AS.of_eq rfl
theorem LZ(n:Af T)(now:Int):AS (fun y=>y.kind=12) n (Ep O n now)∧Ft n (Ep O n now):=by
 unfold Ep;have f:=LW (Q:=fun y=>y.kind=12) (f:=Il) (Ft n) (fun a x ha=>ha.trans (Jz _ _)) (fun a x _=>(AS.refl _ a).write rfl) (O.tick n.tab now).2 (AX n (O.tick n.tab now).1) (Nr n _);exact⟨(AS.of_eq (n':=AX n _) rfl).trans f.1,f.2⟩
theorem Aim(n:Af T)(now:Int):AS (fun y=>(y.kind=5∨y.kind=9)∧EC n now=true∨y.kind=12) n (EI O n now)∧Fi n (EI O n now):=by
 obtain⟨a1,a2⟩:=LZ (O:=O) n now;have m1:AS (fun y=>(y.kind=5∨y.kind=9)∧EC n now=true∨y.kind=12) n (Db (Ep O n now) (Dc n.wait now)):=(a1.mono fun _ e=> .inr e).trans (AS.of_eq rfl);have s1:Fi n (Db (Ep O n now) (Dc n.wait now)):=a2.h.trans ⟨rfl,rfl,rfl,rfl,rfl⟩;unfold EI;split
 ·rename_i hm;have f2:=LW (Q:=fun y=>(y.kind=5∨y.kind=9)∧EC n now=true∨y.kind=12) (f:=fun n x=>DJ O n now x) (Fi n) (fun a x ha=>ha.trans (Wy a now x)) (fun a x _=>(Akr a now x).mono fun y hy=> .inl ⟨hy.1,hm⟩) (Cv n.wait now) _ s1;exact⟨m1.trans f2.1,f2.2⟩
 ·exact⟨m1,s1⟩
theorem Aba(n:Af T)(now:Int):AS (fun y=>(y.kind=5∨y.kind=9)∧EC n now=true∨y.kind=12∨y.kind=6) n (DZ O n now)∧Fi n (DZ O n now):=by
 obtain⟨a1,a2⟩:=Aim (O:=O) n now;unfold DZ;have f3:=LW (Q:=fun y=>(y.kind=5∨y.kind=9)∧EC n now=true∨y.kind=12∨y.kind=6) (f:=ED) (Fi n) (fun a x ha=>ha.trans (Jz _ _).h) (fun a x _=>(AS.refl _ a).write (.inr (.inr rfl))) (EE n.wait now) (EI O n now) a2;exact⟨(a1.mono fun y hy=>hy.elim (fun e=> .inl e) (fun e=> .inr (.inl e))).trans f3.1,f3.2⟩
theorem LK(n:Af T)(now:Int):AS (fun y=>(y.kind=5∨y.kind=9)∧EC n now=true∨y.kind=12∨y.kind=6) n (Ct O n now)∧Fi n (Ct O n now):=by
 obtain⟨a1,a2⟩:=Aba (O:=O) n now;unfold Ct;split
 ·exact⟨a1.trans (AS.of_eq (Ew _ _ _).1),a2.trans (Hd _ _ _).h⟩
 ·exact⟨a1,a2⟩
theorem Pt(n:Af T):AS (fun y=>y.kind=6) n (Fr n)∧Fi n (Fr n):=by
 unfold Fr;have f:=LW (Q:=fun y=>y.kind=6) (f:=fun n (x:AN)=>Eb n x.index 5) (Fi n) (fun a x ha=>ha.trans (Jz _ _).h) (fun a x _=>(AS.refl _ a).write rfl) n.wait.l n (Fi.refl n);exact⟨f.1.trans (AS.of_eq rfl),f.2.trans ⟨rfl,rfl,rfl,rfl,rfl⟩⟩
end
section
variable {T:Type} {O:Qz T}
theorem Pm{α:Type}{f:Af T→α→Af T}(hf:∀n x,(f n x).tab=n.tab):∀(l:List α) (n:Af T),(l.foldl f n).tab=n.tab
 | [],_=>rfl
 | x::l,n=>(Pm hf l (f n x)).trans (hf n x)
theorem Ld(w:Be)(s:Int):(BH w s).1.l.Sublist w.l∧(BH w s).1.tries=w.tries∧(BH w s).1.time=w.time∧(BH w s).1.last=w.last∧(BH w s).1.room=w.room:=by
 unfold BH;split
 ·exact⟨List.filter_sublist,rfl,rfl,rfl,rfl⟩
 ·exact⟨aD _,rfl,rfl,rfl,rfl⟩
theorem Sa(n:Af T)(now:Int)(x:AN):(DJ O n now x).wait.l.Sublist n.wait.l∧(DJ O n now x).wait.tries=n.wait.tries∧(DJ O n now x).wait.time=n.wait.time∧(DJ O n now x).wait.room=n.wait.room:=by
 unfold DJ;split
 ·rename_i t s _;split
  ·rw[(EY (AX n t) x.seq x.index x.head x.sent s).wait];exact⟨aD _,rfl,rfl,rfl⟩
  ·have:=Ld n.wait x.seq;exact⟨this.1,this.2.1,this.2.2.1,this.2.2.2.2⟩
 ·exact⟨aD _,rfl,rfl,rfl⟩
theorem ND{α:Type}{f:Af T→α→Af T}(hf:∀n x,(f n x).wait.l.Sublist n.wait.l∧(f n x).wait.tries=n.wait.tries∧(f n x).wait.time=n.wait.time∧(f n x).wait.room=n.wait.room):∀(l:List α) (n:Af T),(l.foldl f n).wait.l.Sublist n.wait.l∧(l.foldl f n).wait.tries=n.wait.tries∧(l.foldl f n).wait.time=n.wait.time∧(l.foldl f n).wait.room=n.wait.room
 | [],_=>⟨aD _,rfl,rfl,rfl⟩
 | x::l,n=>by
  obtain⟨a1,a2,a3,a4⟩:=ND hf l (f n x)
  obtain⟨b1,b2,b3,b4⟩:=hf n x
  exact⟨a1.trans b1,a2.trans b2,a3.trans b3,a4.trans b4⟩
theorem Kl(n:Af T)(now:Int):(Ct O n now).wait.l.Sublist (Dc n.wait now).l∧(Ct O n now).wait.tries=n.wait.tries∧(Ct O n now).wait.time=n.wait.time∧(Ct O n now).wait.room=n.wait.room:=by
 have h1:(Ct O n now).wait=(DZ O n now).wait:=by
  unfold Ct;split
  ·exact(Hd _ _ _).wait
  ·rfl
 have h2:(DZ O n now).wait.l.Sublist (EI O n now).wait.l∧(DZ O n now).wait.tries=(EI O n now).wait.tries∧(DZ O n now).wait.time=(EI O n now).wait.time∧(DZ O n now).wait.room=(EI O n now).wait.room:=by
  unfold DZ;exact ND (f:=ED) (fun _ _=>⟨aD _,rfl,rfl,rfl⟩) _ _
 have h3:(EI O n now).wait.l.Sublist (Dc n.wait now).l∧(EI O n now).wait.tries=n.wait.tries∧(EI O n now).wait.time=n.wait.time∧(EI O n now).wait.room=n.wait.room:=by
  unfold EI;split
  ·exact ND (f:=fun n x=>DJ O n now x) (fun a x=>Sa a now x) _ (Db (Ep O n now) (Dc n.wait now))
  ·exact⟨aD _,rfl,rfl,rfl⟩
 rw[h1];exact⟨h2.1.trans h3.1,h2.2.1.trans h3.2.1,h2.2.2.1.trans h3.2.2.1,h2.2.2.2.trans h3.2.2.2⟩
end
section
variable {T:Type} {O:Qz T}
theorem Ri(n:Af T)(index:Int)(hd:List Int)(now:Int):(Cl O n index hd now).wait=n.wait∨((n.wait.l.length:Int)≠n.wait.room∧(Cl O n index hd now).wait=JM n.wait index hd now):=by
 unfold Cl;split
 ·split
  ·rename_i t s _;split
   ·split;rename_i w seq e ha;split
    ·rename_i he;rw[(EY (Db (AX n t) w) seq index hd 1 s).wait];unfold Fk at ha;split at ha
     ·simp only[Prod.mk.injEq] at ha;obtain⟨_,_,rfl⟩:=ha
      cases he
     ·rename_i hr;simp only[Prod.mk.injEq] at ha;obtain⟨rfl,_,_⟩:=ha;exact .inr ⟨hr,rfl⟩
    ·exact .inl rfl
   ·exact .inl rfl
  ·exact .inl rfl
 ·exact .inl rfl
theorem Xo(n:Af T)(m:An)(now:Int):(FL O n m now).1.wait=n.wait∨∃x,BH n.wait (Ad m 11)=((FL O n m now).1.wait,some x):=by
 have hp:=(P5 (O:=O) n m now).2.wait;unfold FL;split
 ·split
  ·rename_i w x e;rw[hp] at e;exact .inr ⟨x,e⟩
  ·exact .inl hp
 ·exact .inl rfl
theorem Adx(n:Af T)(src:Int)(data:List UInt8)(now:Int):(IA O n src data now).1.wait=n.wait∨∃s,(IA O n src data now).1.wait=(BH n.wait s).1:=by
 unfold IA;split
 ·exact .inl rfl
 ·rename_i m hd;dsimp only;split
  ·split
   ·exact .inl (Ny n m).2.2.1
   ·exact .inl rfl
  ·split
   ·split
    ·exact .inl (Qg n m).2.2.1
    ·exact .inl rfl
   ·split
    ·split
     ·exact .inl (LH n src m).2.1.wait
     ·exact .inl rfl
    ·split
     ·split
      ·rcases Xo (O:=O) n m now with e | ⟨x,e⟩
       ·exact .inl e
       ·exact .inr ⟨Ad m 11,by rw[e]⟩
      ·exact .inl rfl
     ·exact .inl rfl
theorem UR(n:Af T)(src:Int)(data:List UInt8)(now:Int):(DC O n src data now).wait=n.wait∨∃s,(DC O n src data now).wait=(BH n.wait s).1:=by
 have h:=Adx (O:=O) n src data now;unfold DC;split
 ·rename_i a e;rw[e] at h;exact h
 ·rename_i a e;rw[e] at h;exact h
end
section
open Go.RowKit
structure FQ(F F':Nat→Prop)(w w':World):Prop where
 kept:As F w w'
 foot:∀k,F' k→F k∨w.heap.size≤k
theorem FQ.of_below{F:Nat→Prop}{w w':World}(h:Below w.heap.size w w'):FQ F F w w':=⟨As.of_below h,fun _ e=> .inl e⟩
theorem FQ.trans{F F1 F2:Nat→Prop}{w w1 w2:World}(h:FQ F F1 w w1)(h':FQ F1 F2 w1 w2):FQ F F2 w w2:=
 ⟨h.kept.trans h'.kept h.foot,fun k e=>by
  rcases h'.foot k e with e | e
  ·exact h.foot k e
  ·exact .inr (Nat.le_trans h.kept.size e)⟩
theorem FQ.add{F F':Nat→Prop}{w w1 w2:World}(h:FQ F F' w w1)(hb:Below w1.heap.size w1 w2):FQ F F' w w2:=h.trans (FQ.of_below hb)
theorem FQ.pre{F F':Nat→Prop}{w w1 w2:World}(hb:Below w.heap.size w w1)(h:FQ F F' w1 w2):FQ F F' w w2:=(FQ.of_below hb).trans h
structure Fd where
 inc:Int
 floor:Int
 top:Int
 lm:Int
 lo:Int
 hm:Int
 ho:Int
 use:Int
 said:Int
def Dx(s:Fd)(e:Int):Int×Int:=if e=s.floor then (s.lm,s.lo) else if e=s.top then (s.hm,s.ho) else (0,0)
def Nt(s:Fd)(f t:Int):Fd:=⟨s.inc,f,t,(Dx s f).1,(Dx s f).2,(Dx s t).1,(Dx s t).2,if s.use=f∨s.use=t then s.use else 0,if s.use=f∨s.use=t then s.said else 0⟩
def Ov(s:Fd)(f:Int):Fd:=if s.floor<f then Nt s f (max f s.top) else s
def Ow(s:Fd)(e:Int):Fd:=if s.top<e then Nt s s.floor e else s
def J1(s:Fd)(e m o:Int):Fd:=if e=s.floor then {s with lm:=m,lo:=o} else {s with hm:=m,ho:=o}
structure Ni(s:Fd)(h:Bb):Prop where
 inc:s.inc=h.life
 floor:s.floor=h.floor
 top:s.top=h.top
 use:s.use=h.use
 said:s.said=h.said
 held:∀e,Dx s e=(((h.cnt e).1:Int),(h.cnt e).2)
theorem Amq(inc:Int):Ni ⟨inc,0,0,0,0,0,0,0,0⟩ (OW inc):=⟨rfl,rfl,rfl,rfl,rfl,fun e=>by
 unfold Dx OW
 dsimp only
 split
 ·rfl
 ·rfl⟩
theorem Abm(s:Fd)(f t e:Int):Dx (Nt s f t) e=if e=f∨e=t then Dx s e else (0,0):=by
 show(if e=f then ((Dx s f).1,(Dx s f).2) else if e=t then ((Dx s t).1,(Dx s t).2) else (0,0))=_;by_cases h1:e=f
 ·subst h1;rw[if_pos rfl,if_pos (Or.inl rfl)]
 ·rw[if_neg h1];by_cases h2:e=t
  ·subst h2;rw[if_pos rfl,if_pos (Or.inr rfl)]
  ·rw[if_neg h2,if_neg (fun x=>x.elim h1 h2)]
theorem WX{s:Fd}{h:Bb}(hr:Ni s h)(f t:Int):Ni (Nt s f t) (Ei {h with floor:=f,top:=t}):=by
 refine⟨hr.inc,rfl,rfl,?_,?_,fun e=> ?_⟩
 ·unfold Nt Ei;dsimp only;rw[hr.use]
 ·unfold Nt Ei;dsimp only;rw[hr.use,hr.said]
 ·rw[Abm,hr.held];unfold Ei;dsimp only;by_cases hc:e=f∨e=t
  ·rw[if_pos hc,if_pos hc]
  ·rw[if_neg hc,if_neg hc];rfl
theorem Vp{s:Fd}{h:Bb}(hr:Ni s h)(f:Int):Ni (Ov s f) (Dp h f):=by
 unfold Ov Dp;rw[hr.floor];by_cases hc:h.floor<f
 ·rw[if_pos hc,if_pos hc,hr.top,Int.max_comm];exact WX hr _ _
 ·rw[if_neg hc,if_neg hc];exact hr
theorem Ag8{s:Fd}{h:Bb}(hr:Ni s h)(e:Int):Ni (Ow s e) (EM h e):=by
 unfold Ow EM;rw[hr.top];by_cases hc:h.top<e
 ·rw[if_pos hc,if_pos hc,hr.floor];exact WX hr _ _
 ·rw[if_neg hc,if_neg hc];exact hr
theorem Zt{s:Fd}{h:Bb}(hr:Ni s h){e o:Int}(he:e=h.floor∨e=h.top):Ni (J1 s e (((h.cnt e).1:Int)+1) o) (Jq h e o):=by
 have key:∀x,Dx (J1 s e (((h.cnt e).1:Int)+1) o) x=if x=e then (((h.cnt e).1:Int)+1,o) else Dx s x:=fun x=>by
  unfold J1 Dx;rw[←hr.floor, ←hr.top] at he;by_cases h1:e=s.floor
  ·rw[if_pos h1];dsimp only;by_cases h2:x=s.floor
   ·rw[if_pos h2,if_pos (h2.trans h1.symm)]
   ·have h5:¬x=e:=fun q=>h2 (q.trans h1);rw[if_neg h2,if_neg h5,if_neg h2]
  ·rw[if_neg h1];dsimp only;have h3:e=s.top:=he.resolve_left h1;by_cases h2:x=e
   ·have h5:¬x=s.floor:=fun q=>h1 (h2.symm.trans q);rw[if_neg h5,if_pos (h2.trans h3),if_pos h2]
   ·have h4:¬x=s.top:=fun q=>h2 (q.trans h3.symm);rw[if_neg h4,if_neg h2,if_neg h4]
 have same:(J1 s e (((h.cnt e).1:Int)+1) o).inc=s.inc∧(J1 s e (((h.cnt e).1:Int)+1) o).floor=s.floor∧(J1 s e (((h.cnt e).1:Int)+1) o).top=s.top∧(J1 s e (((h.cnt e).1:Int)+1) o).use=s.use∧(J1 s e (((h.cnt e).1:Int)+1) o).said=s.said:=by
  unfold J1;split <;> exact⟨rfl,rfl,rfl,rfl,rfl⟩
 refine⟨same.1.trans hr.inc,same.2.1.trans hr.floor,same.2.2.1.trans hr.top,same.2.2.2.1.trans hr.use,same.2.2.2.2.trans hr.said,fun x=> ?_⟩;rw[key x];unfold Jq;dsimp only;by_cases hx:x=e
 ·rw[if_pos hx,if_pos hx];rfl
 ·rw[if_neg hx,if_neg hx];exact hr.held x
end
section
open Go.Lib Go.RowKit
structure Ag where
 elem:TypeId
 size:Nat
structure Ag.Ok(E:Ag):Prop where
 hu:∃d,aA.underlying E.elem=some d∧(match d with | .struct _ | .array _ _=>true | _=>false)=true
 hi:(aA.info? E.elem).map (fun i=>i.size)=some E.size
theorem Ag.Ok.load{E:Ag}(H:E.Ok)(w:World)(g off:Nat)(cur:Array Value)(t:TypeId)(fr:Nat×Nat)(cs:Array Value)(hcs:cs.size=E.size)(hg:w.heap[g]?=some (.cells cur t fr))(hc:∀j,j<E.size→cur[off+j]?=cs[j]?):
  (loadVar E.elem ⟨g,off,none⟩).run aA w=.ok (.agg cs) w:=by
 have hl:(loadCells ⟨g,off,none⟩ cs.toList.length).run aA w=.ok cs.toList.toArray w:=
  run_loadCells_list (P:=aA) w ⟨g,off,none⟩ cs.toList (fun j v hv=>by
   have hadd:(⟨g,off,none⟩:Addr).add j=⟨g,off+j,none⟩:=by unfold Addr.add;split <;> simp_all
   have hj:j<E.size:=by
    have:=(List.getElem?_eq_some_iff.1 hv).1;rw[aG] at this;omega
   rw[hadd,cell_of_row w g (off+j) cur t fr hg,hc j hj];simpa using hv)
 obtain⟨i,hq,hs⟩:∃i,aA.info? E.elem=some i∧i.size=E.size:=by
  have h1:=H.hi
  cases h:aA.info? E.elem with
  | none=>rw[h] at h1;simp at h1
  | some i=>rw[h] at h1;exact⟨i,rfl,by simpa using h1⟩
 have hagg:(isAgg E.elem).run aA w=.ok true w:=by
  obtain⟨d,hd,hm⟩:=H.hu;unfold isAgg;rw[aI,run_underlying hd w];revert hm
  cases d <;> simp[go_sem]
 rw[aG,hcs,Array.toArray_toList] at hl;simp[loadVar,aI,hagg,sizeOf,typeInfo,hq,hs,hl]
theorem AH{E:Ag}(H:E.Ok){ops:Array Oper}{rest:List Oper}{o:Oper}{a:Act}{w:World}{Q:Exit→Act→World→Prop}(hw:Region.wanted o (yielded ops a.tmps)=true)(x:Operand)(ho:o.op=.load E.elem x)
  (g off:Nat) (hx:a.eval x=.pointer (some ⟨g,off,none⟩)) (cur:Array Value) (t:TypeId) (fr:Nat×Nat) (cs:Array Value) (hcs:cs.size=E.size) (hg:w.heap[g]?=some (.cells cur t fr)) (hc:∀j,j<E.size→cur[off+j]?=cs[j]?)
  (h:wpList aA ops Q rest (a.put o.dst (.agg cs)) w):wpList aA ops Q (o::rest) a w:=by
 refine wpList_step fun K hK=> ?_;rw[if_pos hw];unfold Oper.wp execOp;simp only[ho,hx,Instr.loadAt,aR,aI,aX,aP,H.load w g off cur t fr cs hcs hg hc];exact hK _ _ h
theorem BP{E:Ag}(H:E.Ok){ops:Array Oper}{rest:List Oper}{o:Oper}{a:Act}{w:World}{Q:Exit→Act→World→Prop}(hgd:o.guard=none)(x y:Operand)(ho:o.op=.store E.elem x y)
  (g:Nat) (cs:Array Value) (hf:cs.size=E.size∧cs.all (·.oneCell')=true) (hx:a.eval x=.pointer (some ⟨g,0,none⟩)) (hy:a.eval y=.agg cs) (old:Array Value) (hg:w.heap[g]?=some (.cells old E.elem (0,0))) (hold:old.size=E.size)
  (w':World) (hw':w.setRow g cs=w')
  (h:wpList aA ops Q rest (a.put o.dst undef) w'):wpList aA ops Q (o::rest) a w:=
 wpList_store_row hgd E.elem x y ho g cs hx hy E.elem old hg (by rw[hf.1];exact H.hi) (by rw[hf.1,hold]) hf.2 (by rw[hw'];exact h)
theorem JJ{E:Ag}(H:E.Ok){C:World→Prop}{ops:Array Oper}{Q:Act→Prop}{rest:List Oper}{o:Oper}{a:Act}(hw:Region.wanted o (yielded ops a.tmps)=true)(x:Operand)(ho:o.op=.load E.elem x)
  (g off:Nat) (hx:a.eval x=.pointer (some ⟨g,off,none⟩)) (cur:Array Value) (t:TypeId) (fr:Nat×Nat) (cs:Array Value) (hcs:cs.size=E.size) (hg:∀w',C w'→w'.heap[g]?=some (.cells cur t fr)) (hc:∀j,j<E.size→cur[off+j]?=cs[j]?)
  (h:wpQuiet aA ops C Q rest (a.put o.dst (.agg cs))):wpQuiet aA ops C Q (o::rest) a:=by
 refine BigFrame.wpQuiet_want hw fun K hK=>⟨.agg cs,fun w hC=> ?_,hK _ h⟩;unfold Oper.quietAt execOp;simp only[ho,hx,Instr.loadAt,aR,aI,aX,aP,H.load w g off cur t fr cs hcs (hg w hC) hc];exact⟨rfl,rfl⟩
theorem Fa{E:Ag}(H:E.Ok){fn:Func}{R:Ending→World→Prop}{a:Act}{w:World}{p:Tmp}(hr:fn.results=#[.cell p E.elem])(hd:a.defers=[])(g:Nat)(hp:a.tmps.getD p undef=.pointer (some ⟨g,0,none⟩))(cs:Array Value)(hcs:cs.size=E.size)
  (hg:w.heap[g]?=some (.cells cs E.elem (0,0))) (h:R (.returned (.agg cs)) w):bodyPost aA fn R .ret a w:=by
 refine bodyPost_ret (v:=.agg cs) ?_ hd h;rw[Array.getD_eq_getD_getElem?] at hp;have hl:=H.load w g 0 cs E.elem (0,0) cs hcs hg (Ar _ _);simp[results,hr,hp,asAddr,hl]
theorem Ag.Ok.store{E:Ag}(H:E.Ok)(w:World)(g off:Nat)(cur:Array Value)(t:TypeId)(cs:Array Value)(hf:cs.size=E.size∧cs.all (·.oneCell')=true)(hg:w.heap[g]?=some (.cells cur t (0,0)))(hs:off+E.size≤cur.size):
  (storeVar E.elem ⟨g,off,none⟩ (.agg cs)).run aA w=.ok () (w.setRow g (cur.toList.take off++cs.toList++cur.toList.drop (off+E.size)).toArray):=by
 have hst:=run_storeCells_at aA g off t cs.toList 0 cur w hg (by rw[aG,hf.1];omega) (fun v hv=>by
  have h1:=aQ.1 hf.2 v (by simpa using hv);exact h1)
 obtain⟨i,hq,hz⟩:∃i,aA.info? E.elem=some i∧i.size=E.size:=by
  have h1:=H.hi
  cases h:aA.info? E.elem with
  | none=>rw[h] at h1;simp at h1
  | some i=>rw[h] at h1;exact⟨i,rfl,by simpa using h1⟩
 rw[Nat.add_zero,aG,hf.1] at hst;simp[storeVar,sizeOf,typeInfo,hq,Value.cells,hz,hf.1];simpa using hst
theorem Jw{E:Ag}(H:E.Ok){ops:Array Oper}{rest:List Oper}{o:Oper}{a:Act}{w:World}{Q:Exit→Act→World→Prop}(hgd:o.guard=none)(x y:Operand)(ho:o.op=.store E.elem x y)
  (g off:Nat) (hx:a.eval x=.pointer (some ⟨g,off,none⟩)) (cs:Array Value) (hf:cs.size=E.size∧cs.all (·.oneCell')=true) (hy:a.eval y=.agg cs) (cur:Array Value) (t:TypeId) (hg:w.heap[g]?=some (.cells cur t (0,0))) (hs:off+E.size≤cur.size)
  (cs':Array Value) (hcs':(cur.toList.take off++cs.toList++cur.toList.drop (off+E.size)).toArray=cs')
  (h:wpList aA ops Q rest (a.put o.dst undef) (w.setRow g cs')):wpList aA ops Q (o::rest) a w:=
 wpList_plain hgd fun _ hK=>by
  unfold Oper.wp execOp
  simp only[ho,hx,hy,bF,aR,aI,aX,aP,H.store w g off cur t cs hf hg hs,hcs']
  exact hK _ _ h
theorem GE{E:Ag}(H:E.Ok){fn:Func}{R:Ending→World→Prop}{a:Act}{w:World}{p u:Tmp}(hr:fn.results=#[.cell p E.elem,.tmp u])(hd:a.defers=[])(g:Nat)(hp:a.tmps.getD p undef=.pointer (some ⟨g,0,none⟩))(cs:Array Value)(hcs:cs.size=E.size)
  (hg:w.heap[g]?=some (.cells cs E.elem (0,0))) (v:Value) (hu:a.tmps.getD u undef=v) (h:R (.returned (.tuple #[.agg cs,v])) w):bodyPost aA fn R .ret a w:=by
 refine bodyPost_ret (v:=.tuple #[.agg cs,v]) ?_ hd h;rw[results_cell_tmp hr,hp,hu];simp[asAddr,H.load w g 0 cs E.elem (0,0) cs hcs hg (Ar _ _)]
end
end Go.Proofs.YtbhkoipcpcoooaaGreat
