import Derived.Test.YtbhkoipcpcoooabGreatJ9
import Derived.Test.YtbhkoipcpcoooabGreatJ10
import Derived.Laws.AppendOwnNone
import Derived.Test.YtbhkoipcpcoooabGreatJ7
import Derived.Test.YtbhkoipcpcoooabGreatJ3
namespace Go.Proofs.YtbhkoipcpcoooabGreat
set_option maxRecDepth 20000
set_option maxHeartbeats 64000000
open Go
open _root_.List renaming setIfInBounds_toArray → aA, set_cons_succ → aB, set_cons_zero → aC, take_succ_cons → aK, drop_zero → aO, take_zero → aP, drop_succ_cons → aQ, mem_cons_self → aT, mem_cons_of_mem → aV, mem_singleton → aZ, getElem?_eq_some_iff → bC, not_mem_nil → bD, map_toArray → bE, all_eq_true → bF, mem_cons → bI, map_cons → bJ, map_nil → bK, count_append → bQ, count_cons → bX, mem_range → bZ
open _root_.Array renaming getD_eq_getD_getElem? → aD, getElem?_eq_some_iff → aH, getElem?_eq_getElem → aJ, getElem?_eq_none → aX, all_append → bT
open Go.RowKit.Below renaming block → aG, refl → aN, size → bA, alloc → bS
open Go.Proofs.Tryz renaming prog → aI
open Go.World renaming drew → aL, setCell → aW, heap → aY, ownsRow_nil → bP, alloc → bR
open Go.Act renaming put → aM
open _root_.Nat renaming le_refl → aR, lt_or_ge → bG
open _root_.Option.some renaming injEq → bB
open Go.Region renaming wanted → bH, ready → bN, binds → cA
section
open Go.RowKit
theorem LI{m m':Ae→Bool}{k:Ae→Int}:∀ {C:List Ae},(∀y∈C,m y=m' y)→AD m k C=AD m' k C
 | [],_=>rfl
 | x::l,h=>by
  have ih:=LI (m:=m) (m':=m') (k:=k) (C:=l) fun y hy=>h y (aV _ hy)
  unfold AD
  rw[ih,h x (by simp)]
theorem Xu{s:Ae}{y:Ae}(hs:E6 s.cube)(hy:E6 y.cube):NA s.epoch s y=Fk s y:=by
 unfold NA Fk;rw[DH hs.1.1,DH hs.2.1,DH hy.1.1,DH hy.2.1];rfl
theorem Ky(e ac nw:Int)(c:Ft)(W:World):(Instr.build 75 #[(0,.int .i64 1),(1,.int .i64 e),(4,.agg (cv (Aq c.1) (Aq c.2))),(5,.int .i64 ac),(8,.int .i64 nw),(9,.int .i64 nw)]).run aI W=.ok (.agg (Ab ⟨1,e,0,0,c,ac,0,0,nw,nw,0⟩)) W:=by kernel_rfl
theorem JE{o:Oper}{t:Nat}{ps:Array (Nat×Operand)}(ho:o.op=.build t ps)(a:Act)(W:World)(qs:Array (Nat×Value))(hq:(ps.map fun(i,x)=>(i,a.eval x))=qs)(v:Value)(h:(Instr.build t qs).run aI W=.ok v W):(execOp a.eval o).run aI W=.ok (.value v) W:=by
 unfold execOp;simp only[ho,Sem.run_bind,hq,h,Result.andThen_ok,Sem.run_pure]
theorem KA{o:Oper}(ho:o.op=.alloc 75)(a:Act)(W:World):(execOp a.eval o).run aI W=.ok (.value (.pointer (some ⟨W.heap.size,0,none⟩))) (W.alloc (.cells (Ab Av) 75)):=by
 unfold execOp;simp only[ho,Sem.run_bind,Q5,Result.andThen_ok,Sem.run_pure]
theorem MX{ops:Array Oper}{Q:Exit→Act→World→Prop}{i:Nat}{o:Oper}{K:Act→World→Prop}{a:Act}{w:World}(hi:ops[i]?=some o)(hgd:o.guard=none)(x y:Operand)(ho:o.op=.store 75 x y)
  (g:Nat) (s z:Ae) (hx:a.eval x=.pointer (some ⟨g,0,none⟩)) (hy:a.eval y=.agg (Ab s)) (hg:w.heap[g]?=some (.cells (Ab z) 75 (0,0))) (hd:o.dst=none)
  (hK:K a (w.setRow g (Ab s))):wpOp aI ops Q i K a w:=by
 refine Dt hi (BV hgd x y ho g s z hx hy hg _ rfl ?_);rw[hd];exact hK
theorem Q7{ops:Array Oper}{Q:Exit→Act→World→Prop}{i:Nat}{o:Oper}{K:Act→World→Prop}{a:Act}{w:World}(hi:ops[i]?=some o)(hgd:o.guard=none)(x y:Operand)(ho:o.op=.store 75 x y)
  (g off:Nat) (s:Ae) (hx:a.eval x=.pointer (some ⟨g,off,none⟩)) (hy:a.eval y=.agg (Ab s)) (cur:Array Value) (t:TypeId) (hg:w.heap[g]?=some (.cells cur t (0,0))) (hf:off+36≤cur.size) (hd:o.dst=none)
  (hK:K a (w.setRow g (cur.toList.take off++(Ab s).toList++cur.toList.drop (off+36)).toArray)):wpOp aI ops Q i K a w:=by
 refine Dt hi (Ta hgd x y ho g off s hx hy cur t hg hf ?_);rw[hd];exact hK
theorem UL{fn:Func}{R:Ending→World→Prop}{a:Act}{w:World}{p u u':Tmp}(hr:fn.results=#[.cell p 75,.tmp u,.tmp u'])(hd:a.defers=[])(g:Nat)(hp:a.tmps.getD p undef=.pointer (some ⟨g,0,none⟩))(x:Ae)
  (hg:w.heap[g]?=some (.cells (Ab x) 75 (0,0))) (v v':Value) (hu:a.tmps.getD u undef=v) (hu':a.tmps.getD u' undef=v') (h:R (.returned (.tuple #[.agg (Ab x),v,v'])) w):bodyPost aI fn R .ret a w:=by
 refine bodyPost_ret (v:=.tuple #[.agg (Ab x),v,v']) ?_ hd h;rw[aD] at hp hu hu';simp[results,hr,hp,hu,hu',asAddr,FJ hg]
theorem Ac0{K:World→Prop}{ops:Array Oper}{Q:Act→Prop}{rest:List Oper}{o:Oper}{a:Act}(hw:bH o (yielded ops a.tmps)=true)(x:Operand)(ho:o.op=.load 25 x)
  (g:Nat) (hx:a.eval x=.pointer (some ⟨g,0,none⟩)) (c:Ft) (hg:∀w',K w'→w'.heap[g]?=some (.cells (cv (Aq c.1) (Aq c.2)) 25 (0,0)))
  (h:wpQuiet aI ops K Q rest (a.put o.dst (.agg (cv (Aq c.1) (Aq c.2))))):wpQuiet aI ops K Q (o::rest) a:=
 RR hw x ho g 0 hx _ _ _ (Aq c.1) (Aq c.2) (AB _) (AB _) hg (AA _ _) h
theorem Xs(B:Nat)(w:World)(g:Nat)(R:Rm)(S:Ay)(v1 v2 v3:Value)(h:BH B w g R S v1 v2 v3)(now e:Int)(c:Ft)(act:Int)(hc:E6 c)(hn:S.c.length≤1000000)(hd:FC S.c)(hok:∀y∈S.c,E6 y.cube):
  Calls aI 119 #[.pointer (some ⟨g,0,none⟩),.int .i64 now,.int .i64 e,.agg (cv (Aq c.1) (Aq c.2)),.int .i64 act] w fun r w'=>r=.returned (.tuple #[.agg (Ab (BO R.cache S.c (BB now e (AC c) act)).2.1),.bool (BO R.cache S.c (BB now e (AC c) act)).2.2.1,.int .i64 (BO R.cache S.c (BB now e (AC c) act)).2.2.2])∧Ck B w w' g R {S with c:=(BO R.cache S.c (BB now e (AC c) act)).1} v1 v2 v3:=by
 obtain⟨w0,hw0⟩:∃w0,w0=((w.alloc (.cells #[.int .i64 e] 3)).alloc (.cells (cv (Aq c.1) (Aq c.2)) 25)).alloc (.cells (Ab Av) 75):=⟨_,rfl⟩;have B0:Hid (Below w.heap.size w w0):=by show Below _ _ _;rw[hw0];exact(((aN _ _).alloc (aR _) _).alloc (by simp) _).alloc (by simp;omega) _
 have SZ:Hid (w0.heap.size=w.heap.size+3):=by show _=_;rw[hw0];simp
 have E0:Hid (w0.heap[w.heap.size]?=some (.cells #[.int .i64 e] 3 (0,0))):=by show _=_;rw[hw0];exact Af _ _ _ _ (Af _ _ _ _ (Ac _ _ _ rfl))
 have C0:Hid (w0.heap[w.heap.size+1]?=some (.cells (cv (Aq c.1) (Aq c.2)) 25 (0,0))):=by show _=_;rw[hw0];exact Af _ _ _ _ (Ac _ _ _ (by simp))
 have Z0:Hid (w0.heap[w.heap.size+1+1]?=some (.cells (Ab Av) 75 (0,0))):=by show _=_;rw[hw0];exact Ac _ _ _ (by simp)
 have SE:Hid (w.heap.size<w0.heap.size):=by show _<_;have:=SZ.out;omega
 have SC:Hid (w.heap.size+1<w0.heap.size):=by show _<_;have:=SZ.out;omega
 have TI:Hid (∀W,Calls aI 67 #[.int .i64 now] W fun r w'=>r=.returned (.int .i64 (Cd now))∧w'=W):=Qc now;have CA:Hid (∀W,Calls aI 112 #[.agg (cv (Aq c.1) (Aq c.2))] W fun e w'=>e=.returned (.agg (cv (Aq (AC c).1) (Aq (AC c).2)))∧Below W.heap.size W w'):=Pe c hc;have HT:Hid (BH B w g R S v1 v2 v3):=h;have T0:=(HT.out.below B0.out).f;have c1:=T0.c1;have c5:=T0.c5;by_cases hr:R.cache=0
 ·have ER:Hid (BO R.cache S.c (BB now e (AC c) act)=(S.c,Av,false,13)):=by show _=_;rw[hr];exact Mk _ _
  rw[hr,show((0:Nat):Int)=0 from rfl] at c1;clear h hd hok hn hc T0;go_enter Tryz.func119,Tryz.ntmps119;go_wp2_with (first|((with_reducible refine FW rfl ?_);refine C9 rfl rfl ?_;try rw[AI]);refine Dl ?_);unfold EZ;rw[←hw0];clear hw0;go_wp2_with (first|((with_reducible refine Rf rfl ?_);refine J8 rfl rfl ?_)|((with_reducible refine Ex _ _ rfl ?_);refine BV rfl _ _ rfl (w.heap.size+1+1) Av Av rfl rfl Z0.out _ rfl ?_));refine UL (p:=10) (u:=11) (u':=12) rfl rfl (w.heap.size+1+1) rfl Av (setRow_heap _ _ _ _ _ _ Z0.out) _ _ rfl rfl ?_;rw[ER.out];exact⟨rfl,HT.out.same (Ak B0.out (by omega) _)⟩
 ·have hr':¬((R.cache:Nat):Int)=0:=by omega
  obtain⟨rc,hrc⟩:∃rc,rc=((R.cache:Nat):Int):=⟨_,rfl⟩;rw[←hrc] at c1 hr';clear hrc T0
  have IX:Hid (∀W q,Below w.heap.size w W→W.heap[w.heap.size]?=some (.cells #[.int .i64 e] 3 (0,0))→W.heap[q]?=some (.cells (Ab (BB now e (AC c) act)) 75 (0,0))→Calls aI 130 #[v1,.func (.func 140) #[] #[.pointer (some ⟨w.heap.size,0,none⟩),.pointer (some ⟨q,0,none⟩)]] W fun r w'=>(∃i,r=.returned (.int .i64 i)∧J5 (Fk (BB now e (AC c) act)) S.c i)∧Below W.heap.size W w'):=by
   intro W q hb he hq;refine(QB _ _ W (h.below hb).o1.sl hn 140 #[.pointer (some ⟨w.heap.size,0,none⟩),.pointer (some ⟨q,0,none⟩)] (NA e (BB now e (AC c) act)) (fun vs W=>by have hf:=Tryz.func140;simp[go_sem]) (fun x W' hW'=>Ve x _ e W' _ _ _ ((hW'.block _ (aH.1 he).1).trans he) ((hW'.block _ (aH.1 hq).1).trans hq))).mono ?_;rintro r w' ⟨⟨i,rfl,hf⟩,hb'⟩;refine⟨⟨i,rfl,?_⟩,hb'⟩;have cong:AD (NA e (BB now e (AC c) act)) (fun _=>0) S.c=AD (Fk (BB now e (AC c) act)) (fun _=>0) S.c:=LI fun y hy=>Xu (s:=BB now e (AC c) act) (PP hc) (hok y hy);unfold J5 at hf ⊢;rw[cong] at hf;exact hf
  have EV:Hid (∀W,Below w.heap.size w W→Calls aI 141 #[.pointer (some ⟨g,0,none⟩)] W fun r w'=>r=.returned (.tuple #[.agg (Ab (Cy R.cache S.c).2.1),.bool (Cy R.cache S.c).2.2])∧Ck B W w' g R {S with c:=(Cy R.cache S.c).1} v1 v2 v3):=by
   intro W hb;exact XL B W g R S v1 v2 v3 (h.below hb) hn hr hd hok
  have LE:Hid (AD (Fk (BB now e (AC c) act)) (fun _=>0) S.c=none→BO R.cache S.c (BB now e (AC c) act)=((Cy R.cache S.c).1++[BB now e (AC c) act],(Cy R.cache S.c).2.1,(Cy R.cache S.c).2.2,0)):=fun hl=>Se hr hl;have LS:Hid (∀A x D,AD (Fk (BB now e (AC c) act)) (fun _=>0) S.c=some (A,x,D)→BO R.cache S.c (BB now e (AC c) act)=(A++BB now e (AC c) act::D,Av,false,0)):=fun A x D hl=>M9 hr hl
  have EN:Hid ((Cy R.cache S.c).1.length≤1000000):=by
   show _≤_;unfold Cy;split
   ·cases hl:AD (fun _=>true) (·.used) S.c with
    | none=>exact hn
    | some r=>obtain⟨A,x,D⟩:=r;have:=(Dx hl).1;rw[this] at hn;simp at hn ⊢;omega
   ·exact hn
  clear h hd hok hc;go_enter Tryz.func119,Tryz.ntmps119;go_wp2_with (first|((with_reducible refine FW rfl ?_);refine C9 rfl rfl ?_;try rw[AI]);refine Dl ?_);unfold EZ;rw[←hw0];clear hw0;go_wp2_with (go_at_call 67;refine(TI.out _).mono ?_;rintro r w2 ⟨rfl,hw2⟩;rw[hw2];clear hw2);refine En (fun a a' w'=> ∃y29 y30 y31 y32 y33 y34 y35 q,a'=(((((((a.put (some 29) y29).put (some 30) y30).put (some 31) y31).put (some 32) y32).put (some 33) y33).put (some 34) y34).put (some 35) y35).put (some 13) (.pointer (some ⟨q,0,none⟩))∧w'.heap[q]?=some (.cells (Ab (BB now e (AC c) act)) 75 (0,0))∧Below w0.heap.size w0 w'∧w0.heap.size≤q) ?_ ?_
  ·have ne9:Nonempty (Pk w.heap.size (.cells #[.int .i64 e] 3 (0,0)) (w.heap.size+1) (.cells (cv (Aq c.1) (Aq c.2)) 25 (0,0))):=⟨⟨w0,E0.out,C0.out⟩⟩;have e9:∀z:Pk w.heap.size (.cells #[.int .i64 e] 3 (0,0)) (w.heap.size+1) (.cells (cv (Aq c.1) (Aq c.2)) 25 (0,0)),z.world.cell? ⟨w.heap.size,0,none⟩=some (.int .i64 e):=fun z=>by rw[cell_of_row _ _ _ _ _ _ z.k1];rfl
   refine BJ (Iv w.heap.size (.cells #[.int .i64 e] 3 (0,0)) (w.heap.size+1) (.cells (cv (Aq c.1) (Aq c.2)) 25 (0,0))) 9 rfl (by kernel_rfl) ?_;refine rE 0 2 7 (Iv.of (w:=aL w0) E0.out C0.out) ?_;simp only[aO,aK,aP];go_big_quiet_step (rfl);refine Ac0 rfl _ rfl (w.heap.size+1) rfl c (by rintro w' ⟨z,rfl⟩;exact z.k2) ?_;simp only[aM,aA,aB,aC];refine wpQuiet_nil ?_;refine rE 3 3 4 (Iv.of (w:=aL w0) E0.out C0.out) ?_;simp only[aQ,aO,aK,aP]
   iterate 3 (go_big_quiet_step (rfl))
   refine wpQuiet_nil ?_;refine wpAnyH_all (rs:=[2,7]) (by kernel_rfl) (by decide) ?_;intro i hi;simp only[bI,bD,or_false] at hi;rcases hi with rfl | rfl
   ·skip;refine Bp rfl rfl 112 #[.tmp 30] (by intro b w;have hf:=Tryz.func112;simp[go_sem]) #[.agg (cv (Aq c.1) (Aq c.2))] rfl (fun v w'=>v=.agg (cv (Aq (AC c).1) (Aq (AC c).2))∧Below (aY _).size _ w') ((CA.out _).mono fun e w' h=>⟨_,h.1,rfl,h.2⟩) (some 31) rfl ?_;rintro v x1 ⟨rfl,hx1⟩;have X1:Below w0.heap.size w0 x1:=Bd ((aN w0.heap.size w0).drew) (bA ((aN w0.heap.size w0).drew)) hx1;refine⟨Iv.of ((aG X1 _ SE.out).trans E0.out) ((aG X1 _ SC.out).trans C0.out),?_⟩;simp only[aM,aA,aB,aC];refine wpAnyH_all (rs:=[6,7]) (by kernel_rfl) (by decide) ?_;intro i hi;simp only[bI,bD,or_false] at hi;rcases hi with rfl | rfl
    focus
     skip;refine ED rfl rfl (.agg (Ab (BB now e (AC c) act))) (JE rfl _ _ #[(0,.int .i64 1),(1,.int .i64 e),(4,.agg (cv (Aq (AC c).1) (Aq (AC c).2))),(5,.int .i64 act),(8,.int .i64 (Cd now)),(9,.int .i64 (Cd now))] (by simp only[bE,bJ,bK];rfl) _ (Ky e act (Cd now) (AC c) _)) (some 35) rfl ?_;refine⟨Iv.of ((aG X1 _ SE.out).trans E0.out) ((aG X1 _ SC.out).trans C0.out),?_⟩;simp only[aM,aA,aB,aC];refine rO 7 ?_;refine ED rfl rfl _ (KA rfl _ _) (some 13) rfl ?_;have Y1:Below w0.heap.size w0 (bR x1 (.cells (Ab Av) 75)):=bS X1 (bA X1) _
    rotate_left
    focus
     skip;refine ED rfl rfl _ (KA rfl _ _) (some 13) rfl ?_;have Y1:Below w0.heap.size w0 (bR x1 (.cells (Ab Av) 75)):=bS X1 (bA X1) _;refine⟨Iv.of ((aG Y1 _ SE.out).trans E0.out) ((aG Y1 _ SC.out).trans C0.out),?_⟩;simp only[aM,aA,aB,aC];refine rO 6 ?_;refine ED rfl rfl (.agg (Ab (BB now e (AC c) act))) (JE rfl _ _ #[(0,.int .i64 1),(1,.int .i64 e),(4,.agg (cv (Aq (AC c).1) (Aq (AC c).2))),(5,.int .i64 act),(8,.int .i64 (Cd now)),(9,.int .i64 (Cd now))] (by simp only[bE,bJ,bK];rfl) _ (Ky e act (Cd now) (AC c) _)) (some 35) rfl ?_
    all_goals
     refine⟨Iv.of ((aG Y1 _ SE.out).trans E0.out) ((aG Y1 _ SC.out).trans C0.out),?_⟩;simp only[aM,aA,aB,aC];refine rO 8 ?_;refine MX rfl rfl _ _ rfl (aY x1).size (BB now e (AC c) act) Av rfl rfl (Ac _ _ _ rfl) rfl ?_;have X9:Below w0.heap.size w0 _:=Ak Y1 (g:=(aY x1).size) (bA X1) (Ab (BB now e (AC c) act));refine⟨Iv.of ((aG X9 _ SE.out).trans E0.out) ((aG X9 _ SC.out).trans C0.out),?_⟩;refine wpAnyH_done (by kernel_rfl) ?_ _;exact⟨rfl,_,_,_,_,_,_,_,(aY x1).size,rfl,setRow_heap _ _ _ _ _ _ (Ac _ _ _ rfl),X9,bA X1⟩
   ·skip;refine ED rfl rfl _ (KA rfl _ _) (some 13) rfl ?_;have Y0:Below w0.heap.size w0 (bR (aL w0) (.cells (Ab Av) 75)):=bS ((aN w0.heap.size w0).drew) (aR _) _;refine⟨Iv.of ((aG Y0 _ SE.out).trans E0.out) ((aG Y0 _ SC.out).trans C0.out),?_⟩;simp only[aM,aA,aB,aC];refine rO 2 ?_;refine Bp rfl rfl 112 #[.tmp 30] (by intro b w;have hf:=Tryz.func112;simp[go_sem]) #[.agg (cv (Aq c.1) (Aq c.2))] rfl (fun v w'=>v=.agg (cv (Aq (AC c).1) (Aq (AC c).2))∧Below (aY _).size _ w') ((CA.out _).mono fun e w' h=>⟨_,h.1,rfl,h.2⟩) (some 31) rfl ?_;rintro v x2 ⟨rfl,hx2⟩;have X2:Below w0.heap.size w0 x2:=Bd Y0 (bA Y0) hx2;refine⟨Iv.of ((aG X2 _ SE.out).trans E0.out) ((aG X2 _ SC.out).trans C0.out),?_⟩;simp only[aM,aA,aB,aC];refine rO 6 ?_
    refine ED rfl rfl (.agg (Ab (BB now e (AC c) act))) (JE rfl _ _ #[(0,.int .i64 1),(1,.int .i64 e),(4,.agg (cv (Aq (AC c).1) (Aq (AC c).2))),(5,.int .i64 act),(8,.int .i64 (Cd now)),(9,.int .i64 (Cd now))] (by simp only[bE,bJ,bK];rfl) _ (Ky e act (Cd now) (AC c) _)) (some 35) rfl ?_;refine⟨Iv.of ((aG X2 _ SE.out).trans E0.out) ((aG X2 _ SC.out).trans C0.out),?_⟩;simp only[aM,aA,aB,aC];refine rO 8 ?_;refine MX rfl rfl _ _ rfl (aY w0).size (BB now e (AC c) act) Av rfl rfl ((aG hx2 _ (by simp)).trans (Ac _ _ _ rfl)) rfl ?_;have X9:Below w0.heap.size w0 _:=Ak X2 (g:=(aY w0).size) (aR _) (Ab (BB now e (AC c) act));refine⟨Iv.of ((aG X9 _ SE.out).trans E0.out) ((aG X9 _ SC.out).trans C0.out),?_⟩;refine wpAnyH_done (by kernel_rfl) ?_ _;exact⟨rfl,_,_,_,_,_,_,_,(aY w0).size,rfl,setRow_heap _ _ _ _ _ _ ((aG hx2 _ (by simp)).trans (Ac _ _ _ rfl)),X9,aR _⟩
  ·rintro a' w1 ⟨y29,y30,y31,y32,y33,y34,y35,q,rfl,hq1,hb1,hq2⟩;simp only[aM,aA,aB,aC];have B1:Hid (Below w.heap.size w w1):=Bd B0.out B0.out.size hb1;have Q1:Hid (w1.heap[q]?=some (.cells (Ab (BB now e (AC c) act)) 75 (0,0))):=hq1;have E1:Hid (w1.heap[w.heap.size]?=some (.cells #[.int .i64 e] 3 (0,0))):=(hb1.block _ SE.out).trans E0.out;have Z1:Hid (w1.heap[w.heap.size+1+1]?=some (.cells (Ab Av) 75 (0,0))):=(hb1.block _ (by have:=SZ.out;omega)).trans Z0.out;have QS:Hid (w.heap.size+3≤q):=by show _≤_;have:=SZ.out;omega
   have d5:=(HT.out.below B1.out).f.c5;clear hq1 hb1 hq2;have hix:=IX.out w1 q B1.out E1.out Q1.out;go_wp2_with (go_at_call 130;refine hix.mono ?_;rintro r w2 ⟨⟨i,rfl,hfi⟩,hb2⟩;refine Dl ?_);unfold EZ;have B2:Hid (Below w.heap.size w w2):=Bd B1.out B1.out.size hb2;have Q2:Hid (w2.heap[q]?=some (.cells (Ab (BB now e (AC c) act)) 75 (0,0))):=(hb2.block _ (aH.1 Q1.out).1).trans Q1.out;have Z2:Hid (w2.heap[w.heap.size+1+1]?=some (.cells (Ab Av) 75 (0,0))):=(hb2.block _ (aH.1 Z1.out).1).trans Z1.out;clear hb2 hix d5;rcases hfi with ⟨rfl,hl⟩ | ⟨i,x,rfl,hi,hx,hl⟩
   ·have EL:Hid _:=LE.out hl;clear hl LE LS IX;go_wp2_with (go_at_call 141;refine(EV.out w2 B2.out).mono ?_;rintro r w3 ⟨rfl,ht⟩;refine Dl ?_);unfold EZ;obtain⟨u1,u2,u3,ht1,ht2,ht3⟩:=ht;have T3:Hid (BH B w3 g R {S with c:=(Cy R.cache S.c).1} u1 u2 u3):=ht1;have K3:Hid (Ao (Cv g v1 v2 v3) w2 w3):=ht2;have F3:Hid (∀k,Cv g u1 u2 u3 k→Cv g v1 v2 v3 k∨w2.heap.size≤k):=ht3
    have NQ:Hid (∀k,w.heap.size≤k→k<w2.heap.size→¬Cv g u1 u2 u3 k):=by
     intro k h1 h2 h3;rcases F3.out k h3 with h4 | h4
     ·have:=(HT.out.foot_in k h4).2;omega
     ·omega
    have NV:Hid (∀k,w.heap.size≤k→¬Cv g v1 v2 v3 k):=by
     intro k h1 h3;have:=(HT.out.foot_in k h3).2;omega
    have Q3:Hid (w3.heap[q]?=some (.cells (Ab (BB now e (AC c) act)) 75 (0,0))):=K3.out.heap Q2.out (NV.out q (by have:=QS.out;omega));have Z3:Hid (w3.heap[w.heap.size+1+1]?=some (.cells (Ab Av) 75 (0,0))):=K3.out.heap Z2.out (NV.out _ (by omega));have S2q:Hid (q<w2.heap.size):=(aH.1 Q2.out).1;have S2z:Hid (w.heap.size+1+1<w2.heap.size):=(aH.1 Z2.out).1;clear ht1 ht2 ht3;obtain⟨x,hxx⟩:∃x,x=(Cy R.cache S.c).2.1:=⟨_,rfl⟩;obtain⟨bb,hbb⟩:∃bb,bb=(Cy R.cache S.c).2.2:=⟨_,rfl⟩;rw[←hxx, ←hbb] at EL ⊢;clear hxx hbb;obtain⟨w4,hw4⟩:∃w4,w4=w3.alloc (.cells (Ab x) 75):=⟨_,rfl⟩;have X4:Hid (w4.heap[w3.heap.size]?=some (.cells (Ab x) 75 (0,0))):=by show _=_;rw[hw4];exact Ac _ _ _ rfl
    have Q9:Hid (w4.heap[q]?=some (.cells (Ab (BB now e (AC c) act)) 75 (0,0))):=by show _=_;rw[hw4];exact Af _ _ _ _ Q3.out
    have Z4:Hid (w4.heap[w.heap.size+1+1]?=some (.cells (Ab Av) 75 (0,0))):=by show _=_;rw[hw4];exact Af _ _ _ _ Z3.out
    have BW9:Hid (Below w3.heap.size w3 w4):=by show Below _ _ _;rw[hw4];exact(aN _ _).alloc (aR _) _
    have QG9:Hid (¬Cv g u1 u2 u3 q):=NQ.out q (by have:=QS.out;omega) S2q.out;have ZG9:Hid (¬Cv g u1 u2 u3 (w.heap.size+1+1)):=NQ.out _ (by omega) S2z.out;have XG9:Hid (¬Cv g u1 u2 u3 w3.heap.size):=by show¬_;intro h3;have:=(T3.out.foot_in _ h3).2;omega
    have BB9:Hid (B≤w3.heap.size):=by show _≤_;have h9:=T3.out.hB;have h8:=(aH.1 T3.out.blk).1;omega
    have TT9:Hid (BH B w4 g R {S with c:=(Cy R.cache S.c).1} u1 u2 u3):=T3.out.below BW9.out;go_wp2_with (first|((with_reducible refine FW rfl ?_);refine C9 rfl rfl ?_;try rw[AI])|((with_reducible refine Ex _ _ rfl ?_);refine BV rfl _ _ rfl w3.heap.size x Av rfl rfl (Ac _ _ _ rfl) _ (BD _ _ _ _ _ rfl) ?_));rw[←hw4];clear hw4;refine En (fun a a' w'=> ∃y59 y60 y61 y62 y63 y64 y65 y66 y67 y68 y69 y70 v' w9,a'=((((((((((((a.put (some 59) y59).put (some 60) y60).put (some 61) y61).put (some 62) y62).put (some 63) y63).put (some 64) y64).put (some 65) y65).put (some 66) y66).put (some 67) y67).put (some 68) y68).put (some 69) y69).put (some 70) y70)∧w'=aW w9 ⟨g,5,none⟩ v'∧(Ck B w3 (aW w9 ⟨g,5,none⟩ v') g R (Pw {S with c:=(Cy R.cache S.c).1} 1 (AY {S with c:=(Cy R.cache S.c).1} 1++[(BB now e (AC c) act)])) u1 u2 u3∧(aW w9 ⟨g,5,none⟩ v').heap[w3.heap.size]?=some (.cells (Ab x) 75 (0,0))∧(aW w9 ⟨g,5,none⟩ v').heap[w.heap.size+1+1]?=some (.cells (Ab Av) 75 (0,0)))) ?_ ?_
    ·have ne9:Nonempty (Rl q (.cells (Ab (BB now e (AC c) act)) 75 (0,0))):=⟨⟨w4,Q9.out⟩⟩;refine BJ (E7 q (.cells (Ab (BB now e (AC c) act)) 75 (0,0))) 13 rfl (by kernel_rfl) ?_;refine rE 0 2 11 (E7.of (w:=aL w4) Q9.out) ?_;simp only[aO,aK,aP];go_big_quiet_step (rfl);go_big_quiet_step (rfl);refine wpQuiet_nil ?_;refine Gy (i:=2) (some 61) rfl rfl _ rfl _ rfl rfl (by kernel_rfl) (by kernel_rfl) (by kernel_rfl) (E7.of (w:=aL w4) Q9.out) ?_;simp only[aM,aA,aB,aC];refine rE 3 2 8 (E7.of (w:=aL w4) Q9.out) ?_;simp only[aQ,aO,aK,aP];go_big_quiet_step (rfl);go_big_quiet_step (rfl);refine wpQuiet_nil ?_;refine rE 6 1 7 (E7.of (w:=aL w4) Q9.out) ?_;simp only[aQ,aO,aK,aP]
     refine Ov (E:=DD) D8 rfl _ rfl q 0 rfl _ _ _ (Ab (BB now e (AC c) act)) (AK _) (by rintro w' ⟨z,rfl⟩;exact z.k1) (AA _ _) ?_;simp only[aM,aA,aB,aC];refine wpQuiet_nil ?_;refine Gy (i:=9) (some 68) rfl rfl _ rfl _ rfl rfl (by kernel_rfl) (by kernel_rfl) (by kernel_rfl) (E7.of (w:=aL w4) Q9.out) ?_;simp only[aM,aA,aB,aC];refine rE 10 1 5 (E7.of (w:=aL w4) Q9.out) ?_;simp only[aQ,aO,aK,aP];go_big_quiet_step (rfl);refine wpQuiet_nil ?_;refine wpAnyH_all (rs:=[5,7]) (by kernel_rfl) (by decide) ?_;intro i hi;simp only[bI,bD,or_false] at hi;rcases hi with rfl | rfl
     focus
      refine ED rfl rfl (Bv u1 u2 u3 1) (MQ rfl _ _ ⟨g,5,none⟩ (Bv u1 u2 u3 1) rfl ((IB (BH.blk (BH.below TT9.out (by first | exact(aN _ _).drew | exact(aN _ _).drew.alloc (aR _) _)))).bankCell 1 (by decide))) (some 64) rfl ?_;refine⟨E7.of (w:=aL w4) Q9.out,?_⟩;simp only[aM,aA,aB,aC];refine rO 7 ?_;refine H8 rfl rfl _ rfl (BB now e (AC c) act) rfl (some 66) rfl ?_
     rotate_left
     focus
      refine H8 rfl rfl _ rfl (BB now e (AC c) act) rfl (some 66) rfl ?_;refine⟨E7.of (Af _ _ _ _ Q9.out),?_⟩;simp only[aM,aA,aB,aC];refine rO 5 ?_;refine ED rfl rfl (Bv u1 u2 u3 1) (MQ rfl _ _ ⟨g,5,none⟩ (Bv u1 u2 u3 1) rfl ((IB (BH.blk (BH.below TT9.out (by first | exact(aN _ _).drew | exact(aN _ _).drew.alloc (aR _) _)))).bankCell 1 (by decide))) (some 64) rfl ?_
     all_goals
      refine⟨E7.of (Af _ _ _ _ Q9.out),?_⟩;simp only[aM,aA,aB,aC];refine rO 8 ?_;refine JA rfl rfl _ _ rfl B (Bv u1 u2 u3 1) _ (BB now e (AC c) act) rfl (((TT9.out.below ((aN _ _).drew.alloc (aR _) _)).bank 1)) _ 1 rfl (Ac _ _ _ rfl) EN.out (by have h9:=BW9.out.size;have h8:=BB9.out;simp;omega) (some 67) rfl ?_;intro v' w9 hown9 hgr9 hat9;have F9:=PT (b:=1) (s:=(BB now e (AC c) act)) T3.out (by decide) (by decide) BW9.out v' w9 hown9 hgr9 hat9;obtain⟨⟨o9,n9,c9,rfl⟩,ce9,fz9,bl9,tt9⟩:=F9;refine⟨E7.of (bl9 _ _ QG9.out Q9.out).1,?_⟩;simp only[aM,aA,aB,aC];refine rE 11 1 1 (E7.of (bl9 _ _ QG9.out Q9.out).1) ?_;simp only[aQ,aO,aK,aP];go_big_quiet_step (rfl);refine wpQuiet_nil ?_;refine rO 12 ?_;refine EP rfl rfl (Nm rfl _ _ ⟨g,5,none⟩ _ _ _ _ rfl rfl ce9 fz9) rfl ?_;refine⟨E7.of (bl9 _ _ QG9.out Q9.out).2,?_⟩;refine wpAnyH_done (by kernel_rfl) ?_ _
      exact⟨rfl,_,_,_,_,_,_,_,_,_,_,_,_,_,w9,rfl,rfl,tt9,(bl9 _ _ XG9.out X4.out).2,(bl9 _ _ ZG9.out Z4.out).2⟩
    ·rintro a' w' ⟨y59,y60,y61,y62,y63,y64,y65,y66,y67,y68,y69,y70,v',w9,rfl,rfl,tt9,x9,z9⟩;have T9:Hid _:=tt9;clear tt9;simp only[aM,aA,aB,aC];have X9:Hid _:=x9;have Z9:Hid _:=z9;clear x9 z9;go_wp2_with (first|((with_reducible refine Gs _ rfl ?_);refine Cw rfl _ rfl w3.heap.size 0 rfl x (FJ X9.out) ?_)|((with_reducible refine Ex _ _ rfl ?_);refine BV rfl _ _ rfl (w.heap.size+1+1) x Av rfl rfl Z9.out _ rfl ?_));refine UL (p:=10) (u:=11) (u':=12) rfl rfl (w.heap.size+1+1) rfl x (setRow_heap _ _ _ _ _ _ Z9.out) _ _ rfl rfl ?_;rw[EL.out];exact⟨rfl,(Ck.step K3.out F3.out T9.out).loc HT.out B2.out (Gh _ _ _) fun k e'=>by unfold Cj at e';have:=S2z.out;omega⟩
   ·have EL:Hid (BO R.cache S.c (BB now e (AC c) act)=(S.c.set i (BB now e (AC c) act),Av,false,0)):=by show _=_;rw[LS.out _ _ _ hl,Qj _ hi]
    have T2:Hid (BH B w2 g R S v1 v2 v3):=HT.out.below B2.out;obtain⟨gb,nb,cap,ev,eo,_⟩:=T2.out.o1.slot (A:=S.c.take i) (x:=x) (D:=S.c.drop (i+1)) (Dx hl).1
    have hlen:nb=S.c.length:=by
     obtain⟨o,cap',e',_⟩:=T2.out.o1.slice;rw[ev] at e';simp only[Value.slice.injEq] at e';exact e'.2.1
    have o1:=T2.out.o1;rw[ev] at o1;obtain⟨cur,hcur,hfit,hst⟩:=o1.store i hi (BB now e (AC c) act);have CU:Hid (w2.heap[gb]?=some (.cells cur 75 (0,0))):=hcur;have HST:Hid _:=hst;have hin:(i:Int)<(nb:Int):=by omega
    have G2:Hid (w2.heap[g]?=some (.cells (LY R (.slice (some ⟨gb,0,none⟩) nb cap) v2 v3) 102 (0,0))):=by have h9:=T2.out.blk;rw[ev] at h9;exact h9
    have NGB:Hid (gb≠g):=by show _≠_;intro h9;subst h9;rw[G2.out] at hcur;simp only[bB,Obj.cells.injEq] at hcur;exact absurd hcur.2.1 (by decide)
    have NQB:Hid (gb≠q):=by show _≠_;intro h9;have h8:=(HT.out.o1.lt gb eo).2;have:=QS.out;omega
    have NZB:Hid (gb≠w.heap.size+1+1):=by show _≠_;intro h9;have h8:=(HT.out.o1.lt gb eo).2;omega
    have SZ2:Hid (w.heap.size+1+1<w2.heap.size):=(aH.1 Z2.out).1
    have ROW:Hid (∀w6,Ao (Cj gb) w2 w6→Am B w6 (.slice (some ⟨gb,0,none⟩) nb cap) (S.c.set i (BB now e (AC c) act))→Ck B w2 w6 g R {S with c:=S.c.set i (BB now e (AC c) act)} v1 v2 v3):=by
     intro w6 hk hs;have key:∀k,Cj gb k→Bn (Bv v1 v2 v3 1) k:=fun k e'=>by unfold Cj at e';unfold Bn;rw[e'];exact eo
     exact T2.out.row 1 (.inl rfl) _ (hk.mono fun k _ e'=>key k e') (by show Am _ _ v1 _;rw[ev];exact hs)
    have hlc:nb≤1000000:=by omega
    clear hl hcur hst LE LS IX EV ev eo o1 T2 hlen hi hx;clear hn;go_wp2_with fail;refine M6 ?_;have ne9:Nonempty (Pk g (.cells (LY R (.slice (some ⟨gb,0,none⟩) nb cap) v2 v3) 102 (0,0)) q (.cells (Ab (BB now e (AC c) act)) 75 (0,0))):=⟨⟨w2,G2.out,Q2.out⟩⟩;have e9:∀z:Pk g (.cells (LY R (.slice (some ⟨gb,0,none⟩) nb cap) v2 v3) 102 (0,0)) q (.cells (Ab (BB now e (AC c) act)) 75 (0,0)),z.world.cell? ⟨g,5,none⟩=some (.slice (some ⟨gb,0,none⟩) nb cap):=fun z=>(IB z.k1).c5;refine BJ (Iv g (.cells (LY R (.slice (some ⟨gb,0,none⟩) nb cap) v2 v3) 102 (0,0)) q (.cells (Ab (BB now e (AC c) act)) 75 (0,0))) 9 rfl (by kernel_rfl) ?_;refine rE 0 1 8 (Iv.of (w:=aL w2) G2.out Q2.out) ?_;simp only[aO,aK,aP];go_big_quiet_step (rfl);refine wpQuiet_nil ?_;refine Gy (i:=1) (some 46) rfl rfl _ rfl _ rfl rfl (by kernel_rfl) (by kernel_rfl) (by kernel_rfl) (Iv.of (w:=aL w2) G2.out Q2.out) ?_;simp only[aM,aA,aB,aC];refine rE 2 6 1 (Iv.of (w:=aL w2) G2.out Q2.out) ?_
    simp only[aQ,aO,aK,aP]
    iterate 4 (go_big_quiet_step (rfl))
    refine Ov (E:=DD) D8 rfl _ rfl q 0 rfl _ _ _ (Ab (BB now e (AC c) act)) (AK _) (by rintro w' ⟨z,rfl⟩;exact z.k2) (AA _ _) ?_;simp only[aM,aA,aB,aC];go_big_quiet_step (rfl);refine wpQuiet_nil ?_;refine rO 8 ?_;refine Q7 rfl rfl _ _ rfl gb (i*36) (BB now e (AC c) act) rfl rfl cur 75 CU.out hfit rfl ?_;obtain⟨w6,hw6⟩:∃w6,w6=(aL w2).setRow gb (cur.toList.take (i*36)++(Ab (BB now e (AC c) act)).toList++cur.toList.drop (i*36+36)).toArray:=⟨_,rfl⟩;have K6:Hid (Ao (Cj gb) w2 w6):=by show Ao _ _ _;rw[hw6];exact(Ao.of_below (X:=Cj gb) (aN _ _).drew).trans (Gh _ _ _) fun k hk=> .inl hk
    have T6:Hid (Ck B w2 w6 g R {S with c:=S.c.set i (BB now e (AC c) act)} v1 v2 v3):=ROW.out w6 K6.out (HST.out w6 (by rw[hw6];exact setRow_heap _ _ _ _ _ _ CU.out));have Z6:Hid (w6.heap[w.heap.size+1+1]?=some (.cells (Ab Av) 75 (0,0))):=K6.out.heap Z2.out fun e'=>NZB.out (by unfold Cj at e';exact e'.symm);rw[←hw6];refine⟨Iv.of (K6.out.heap G2.out fun e'=>NGB.out (by unfold Cj at e';exact e'.symm)) (K6.out.heap Q2.out fun e'=>NQB.out (by unfold Cj at e';exact e'.symm)),?_⟩;clear hw6;refine wpAnyH_done (by kernel_rfl) ?_ _;refine⟨rfl,?_⟩;go_wp2_with (first|((with_reducible refine Rf rfl ?_);refine J8 rfl rfl ?_)|((with_reducible refine Ex _ _ rfl ?_);refine BV rfl _ _ rfl (w.heap.size+1+1) Av Av rfl rfl Z6.out _ rfl ?_));refine UL (p:=10) (u:=11) (u':=12) rfl rfl (w.heap.size+1+1) rfl Av (setRow_heap _ _ _ _ _ _ Z6.out) _ _ rfl rfl ?_;rw[EL.out];exact⟨rfl,T6.out.loc HT.out B2.out (Gh _ _ _) fun k e'=>by unfold Cj at e';have:=SZ2.out;omega⟩
def BL(x:Di):Array Value:=#[.int .i64 x.kind,.int .i64 x.at_,.int .i64 x.to,.int .i64 x.index,.int .i64 x.epoch,.int .i64 x.action,.int .i64 x.why,.int .i64 x.place]++hv (Aq x.head)++cv (Aq x.cube.1) (Aq x.cube.2)
theorem F0(x:Di):(BL x).size=47:=by
 unfold BL;simp only[Array.size_append,AO _ _ (AB _) (AB _),DE,AB];rfl
theorem WW(x:Di):(BL x).all (·.oneCell')=true:=by
 unfold BL;rw[bT,bT,FL,KT];simp[Value.oneCell']
def MW:El:=⟨56,33,47,104,BL IJ⟩
theorem My:MW.Ok:=⟨Tryz.underlying33,⟨_,Tryz.underlying56,rfl⟩,by kernel_rfl,F0 _,by decide,by decide,by decide⟩
theorem WV(x:Di):Mz MW (BL x):=⟨F0 x,WW x⟩
def BZ(B:Nat)(w:World)(v:Value)(C:List Di):Prop:=w.ownsRow B 56 47 v C.length (Bh BL C)
theorem BZ.sl{B:Nat}{w:World}{v:Value}{C:List Di}(h:BZ B w v C):EC MW BL w v C:=OV (E:=MW) h fun c _=>F0 c
theorem BZ.lt{B:Nat}{w:World}{v:Value}{C:List Di}(h:BZ B w v C):∀k,v.ownBlock=some k→B≤k∧k<w.heap.size:=World.ownsRow.lt h
theorem BZ.nil(B:Nat)(w:World):BZ B w (.slice none 0 0) []:=bP _ _ _ _
theorem BZ.kept{X:Nat→Prop}{B:Nat}{w w':World}{v:Value}{C:List Di}(h:BZ B w v C)(hk:Ao X w w')(hX:∀k,v.ownBlock=some k→¬X k):BZ B w' v C:=hk.own h hX
theorem BZ.below{B:Nat}{w w':World}{v:Value}{C:List Di}(h:BZ B w v C)(hb:Below w.heap.size w w'):BZ B w' v C:=Jk h hb
theorem BZ.slice{B:Nat}{w:World}{v:Value}{C:List Di}(h:BZ B w v C):∃o cap,v=.slice o C.length cap∧C.length≤cap∧cap≤maxLen:=h.sl.slice
def Il(num:Int)(x:Int×List UInt8):Array Value:=#[.int .i64 num,.int .i64 x.1,.string ⟨x.2.toArray⟩]
def Rj:El:=⟨141,35,3,32,#[.int .i64 0,.int .i64 0,.string ⟨#[]⟩]⟩
theorem Yc:Rj.Ok:=⟨Tryz.underlying35,⟨_,Tryz.underlying141,rfl⟩,by kernel_rfl,rfl,by decide,by decide,by decide⟩
theorem Xn(num:Int)(x:Int×List UInt8):Mz Rj (Il num x):=⟨rfl,by simp[Il,Value.oneCell']⟩
def DT(B:Nat)(w:World)(num:Int)(v:Value)(C:List (Int×List UInt8)):Prop:=w.ownsRow B 141 3 v C.length (Bh (Il num) C)
theorem DT.lt{B:Nat}{w:World}{num:Int}{v:Value}{C:List (Int×List UInt8)}(h:DT B w num v C):∀k,v.ownBlock=some k→B≤k∧k<w.heap.size:=World.ownsRow.lt h
theorem DT.nil(B:Nat)(w:World)(num:Int):DT B w num (.slice none 0 0) []:=bP _ _ _ _
theorem DT.kept{X:Nat→Prop}{B:Nat}{w w':World}{num:Int}{v:Value}{C:List (Int×List UInt8)}(h:DT B w num v C)(hk:Ao X w w')(hX:∀k,v.ownBlock=some k→¬X k):DT B w' num v C:=hk.own h hX
theorem DT.below{B:Nat}{w w':World}{num:Int}{v:Value}{C:List (Int×List UInt8)}(h:DT B w num v C)(hb:Below w.heap.size w w'):DT B w' num v C:=Jk h hb
def IW(w:World)(t:TypeId)(k:Nat):Prop:=∃cs fr,w.heap[k]?=some (.cells cs t fr)
theorem IW.one{w:World}{t t':TypeId}{k:Nat}(h:IW w t k)(h':IW w t' k):t=t':=by
 obtain⟨cs,fr,e⟩:=h;obtain⟨cs',fr',e'⟩:=h';rw[e] at e';simp only[bB,Obj.cells.injEq] at e';exact e'.2.1
theorem IW.own{B:Nat}{w:World}{e:TypeId}{s:Nat}{v:Value}{n:Nat}{xs:List Value}(h:w.ownsRow B e s v n xs){k:Nat}(hk:v.ownBlock=some k):IW w e k:=by
 obtain⟨_,⟨rfl,_⟩ | ⟨g',cap,cur,rfl,_,h1,_⟩⟩:=h
 ·cases hk
 ·simp only[Value.ownBlock,bB] at hk;subst hk;exact⟨_,_,h1⟩
structure DU where
 v1:Value
 v2:Value
 v3:Value
 vw:Value
 vl:Value
 vn:Value
def ndV(n:Ap Ay)(gt gh gw:Nat)(r:DU):Array Value:=#[.int .i64 n.num,.int .i64 n.lease,.int .i64 n.beat,.int .i64 n.load,.pointer (some ⟨gt,0,none⟩),.pointer (some ⟨gh,0,none⟩),.pointer (some ⟨gw,0,none⟩),r.vl,r.vn]
structure BT(B:Nat)(w:World)(g gt gh gw:Nat)(R:Rm)(n:Ap Ay)(r:DU):Prop where
 blk:w.heap[g]?=some (.cells (ndV n gt gh gw r) 63 (0,0))
 tab:BH B w gt R n.tab r.v1 r.v2 r.v3
 hold:Er w gh n.hold
 wait:Dq B w gw n.wait r.vw
 post:DT B w n.num r.vl n.post
 log:BZ B w r.vn n.log
 hB:B≤g
 hH:B≤gh
def EU(g gt gh gw:Nat)(r:DU):Nat→Nat→Prop
 | 0=>Cj g
 | 1=>Cj gh
 | 2=>Cv gt r.v1 r.v2 r.v3
 | 3=>FB gw r.vw
 | 4=>Bn r.vl
 | 5=>Bn r.vn
 | _=>fun _=>False
def Rz:Nat→List TypeId
 | 0=>[63]
 | 1=>[97]
 | 2=>[102,75]
 | 3=>[105,82]
 | 4=>[141]
 | 5=>[56]
 | _=>[]
def Hd(g gt gh gw:Nat)(r:DU)(k:Nat):Prop:=∃i,i<6∧EU g gt gh gw r i k
section
variable {B:Nat} {w w':World} {g gt gh gw:Nat} {R:Rm} {n:Ap Ay} {r:DU}
theorem BT.ty(h:BT B w g gt gh gw R n r)(i k:Nat)(hk:EU g gt gh gw r i k):∃t∈Rz i,IW w t k:=by
 match i,hk with
 | 0,hk=>obtain rfl:k=g:=hk;exact⟨_,aZ.2 rfl,_,_,h.blk⟩
 | 1,hk=>obtain rfl:k=gh:=hk;obtain⟨s,h1,_⟩:=h.hold;exact⟨_,aZ.2 rfl,_,_,h1⟩
 | 2,hk=>
  rcases hk with rfl | e | e | e
  ·exact⟨_,aT,_,_,h.tab.blk⟩
  ·exact⟨_,aV _ aT,IW.own h.tab.o1 e⟩
  ·exact⟨_,aV _ aT,IW.own h.tab.o2 e⟩
  ·exact⟨_,aV _ aT,IW.own h.tab.o3 e⟩
 | 3,hk=>
  rcases hk with rfl | e
  ·exact⟨_,aT,_,_,h.wait.blk⟩
  ·exact⟨_,aV _ aT,IW.own h.wait.own e⟩
 | 4,hk=>exact⟨_,aZ.2 rfl,IW.own h.post hk⟩
 | 5,hk=>exact⟨_,aZ.2 rfl,IW.own h.log hk⟩
 | n+6,hk=>exact hk.elim
theorem BT.apart(h:BT B w g gt gh gw R n r){i j:Nat}(hi:i<6)(hj:j<6)(hij:i≠j)(k:Nat)(h1:EU g gt gh gw r i k):¬EU g gt gh gw r j k:=fun h2=>by
 obtain⟨t,t1,t2⟩:=h.ty i k h1
 obtain⟨s,s1,s2⟩:=h.ty j k h2
 have e:=t2.one s2
 subst e
 have key:((List.range 6).all fun i=>(List.range 6).all fun j=>i==j || (Rz i).all fun t=> !((Rz j).contains t))=true:=by decide
 rw[bF] at key
 have k1:=key i (bZ.2 hi)
 rw[bF] at k1
 have k2:=k1 j (bZ.2 hj)
 rw[Bool.or_eq_true,bF] at k2
 rcases k2 with e | e
 ·exact hij (by simpa using e)
 ·have:=e t t1
  rw[Bool.not_eq_true'] at this
  rw[List.contains_iff_mem.2 s1] at this
  cases this
theorem BT.foot_in(h:BT B w g gt gh gw R n r):∀k,Hd g gt gh gw r k→B≤k∧k<w.heap.size:=by
 rintro k ⟨i,_,hk⟩;match i,hk with
 | 0,hk=>obtain rfl:k=g:=hk;exact⟨h.hB,(gS h.blk)⟩
 | 1,hk=>obtain rfl:k=gh:=hk;exact⟨h.hH,h.hold.lt⟩
 | 2,hk=>exact h.tab.foot_in k hk
 | 3,hk=>exact h.wait.foot_in k hk
 | 4,hk=>exact h.post.lt k hk
 | 5,hk=>exact h.log.lt k hk
 | n+6,hk=>exact hk.elim
theorem BT.hw(h:BT B w g gt gh gw R n r):B≤w.heap.size:=by have:=h.foot_in g ⟨0,by decide,rfl⟩;omega
theorem BT.kept{X:Nat→Prop}(h:BT B w g gt gh gw R n r)(hk:Ao X w w')(hX:∀k,Hd g gt gh gw r k→¬X k):BT B w' g gt gh gw R n r:=
 ⟨hk.heap h.blk (hX _ ⟨0,by decide,rfl⟩),h.tab.kept hk fun k e=>hX k ⟨2,by decide,e⟩,h.hold.kept hk (hX _ ⟨1,by decide,rfl⟩),h.wait.kept hk fun k e=>hX k ⟨3,by decide,e⟩,h.post.kept hk fun k e=>hX k ⟨4,by decide,e⟩,h.log.kept hk fun k e=>hX k ⟨5,by decide,e⟩,h.hB,h.hH⟩
theorem BT.below(h:BT B w g gt gh gw R n r)(hb:Below w.heap.size w w'):BT B w' g gt gh gw R n r:=h.kept (X:=fun _=>False) (Ao.of_below hb) fun _ _ e=>e
def CZ(B:Nat)(w w':World)(g gt gh gw:Nat)(R:Rm)(n':Ap Ay)(r:DU):Prop:=∃u,BT B w' g gt gh gw R n' u∧FQ (Hd g gt gh gw r) (Hd g gt gh gw u) w w'
theorem CZ.pre{w1 w2:World}{n':Ap Ay}(hb:Below w.heap.size w w1)(h:CZ B w1 w2 g gt gh gw R n' r):CZ B w w2 g gt gh gw R n' r:=by
 obtain⟨u,h1,h2⟩:=h;exact⟨u,h1,h2.pre hb⟩
theorem CZ.below(h:BT B w g gt gh gw R n r){n':Ap Ay}(ht:CZ B w w' g gt gh gw R n' r):Below B w w':=by
 obtain⟨u,_,h2⟩:=ht;exact h2.kept.below (fun k hk=>(h.foot_in k hk).1) h.hw
theorem BT.part(_:BT B w g gt gh gw R n r){i:Nat}(hi:i<6){w':World}{u:DU}(hk:Ao (EU g gt gh gw r i) w w')(ho:∀j,j≠i→EU g gt gh gw u j=EU g gt gh gw r j)(hn:∀k,EU g gt gh gw u i k→EU g gt gh gw r i k∨w.heap.size≤k):FQ (Hd g gt gh gw r) (Hd g gt gh gw u) w w':=
 ⟨hk.mono fun k _ e=>⟨i,hi,e⟩,fun k e=>by
  obtain⟨j,hj,e⟩:=e
  by_cases hji:j=i
  ·subst hji
   rcases hn k e with q | q
   ·exact .inl ⟨j,hj,q⟩
   ·exact .inr q
  ·rw[ho j hji] at e
   exact .inl ⟨j,hj,e⟩⟩
theorem BT.off(h:BT B w g gt gh gw R n r){i j:Nat}(hi:i<6)(hj:j<6)(hij:i≠j):∀k,EU g gt gh gw r i k→¬EU g gt gh gw r j k:=h.apart hi hj hij
theorem BT.setTab(h:BT B w g gt gh gw R n r){S':Ay}(ht:Ck B w w' gt R S' r.v1 r.v2 r.v3):CZ B w w' g gt gh gw R (Bm n S') r:=by
 obtain⟨u1,u2,u3,h1,h2,h3⟩:=ht;have hk:Ao (EU g gt gh gw r 2) w w':=h2;refine⟨{r with v1:=u1,v2:=u2,v3:=u3},⟨hk.heap h.blk (h.off (i:=0) (j:=2) (by decide) (by decide) (by decide) g rfl),h1,h.hold.kept hk (h.off (i:=1) (j:=2) (by decide) (by decide) (by decide) gh rfl),h.wait.kept hk (h.off (i:=3) (j:=2) (by decide) (by decide) (by decide)),h.post.kept hk (h.off (i:=4) (j:=2) (by decide) (by decide) (by decide)),h.log.kept hk (h.off (i:=5) (j:=2) (by decide) (by decide) (by decide)),h.hB,h.hH⟩,h.part (i:=2) (by decide) hk (fun j hj=> ?_) h3⟩;match j,hj with
 | 0,_=>rfl
 | 1,_=>rfl
 | 2,hj=>exact absurd rfl hj
 | 3,_=>rfl
 | 4,_=>rfl
 | 5,_=>rfl
 | j+6,_=>rfl
theorem BT.setHold(h:BT B w g gt gh gw R n r){k:AP}(ht:Ge w w' gh k):CZ B w w' g gt gh gw R (Bg n k) r:=by
 obtain⟨h1,h2⟩:=ht;have hk:Ao (EU g gt gh gw r 1) w w':=h2;exact⟨r,⟨hk.heap h.blk (h.off (i:=0) (j:=1) (by decide) (by decide) (by decide) g rfl),h.tab.kept hk (h.off (i:=2) (j:=1) (by decide) (by decide) (by decide)),h1,h.wait.kept hk (h.off (i:=3) (j:=1) (by decide) (by decide) (by decide)),h.post.kept hk (h.off (i:=4) (j:=1) (by decide) (by decide) (by decide)),h.log.kept hk (h.off (i:=5) (j:=1) (by decide) (by decide) (by decide)),h.hB,h.hH⟩,h.part (i:=1) (by decide) hk (fun _ _=>rfl) fun _ e=> .inl e⟩
theorem BT.setWait(h:BT B w g gt gh gw R n r){m:BQ}{v:Value}(h1:Dq B w' gw m v)(h2:FQ (FB gw r.vw) (FB gw v) w w'):CZ B w w' g gt gh gw R (IY n m) r:=by
 have hk:Ao (EU g gt gh gw r 3) w w':=h2.kept;refine⟨{r with vw:=v},⟨hk.heap h.blk (h.off (i:=0) (j:=3) (by decide) (by decide) (by decide) g rfl),h.tab.kept hk (h.off (i:=2) (j:=3) (by decide) (by decide) (by decide)),h.hold.kept hk (h.off (i:=1) (j:=3) (by decide) (by decide) (by decide) gh rfl),h1,h.post.kept hk (h.off (i:=4) (j:=3) (by decide) (by decide) (by decide)),h.log.kept hk (h.off (i:=5) (j:=3) (by decide) (by decide) (by decide)),h.hB,h.hH⟩,h.part (i:=3) (by decide) hk (fun j hj=> ?_) h2.foot⟩;match j,hj with
 | 0,_=>rfl
 | 1,_=>rfl
 | 2,_=>rfl
 | 3,hj=>exact absurd rfl hj
 | 4,_=>rfl
 | 5,_=>rfl
 | j+6,_=>rfl
theorem BT.setWaitTo(h:BT B w g gt gh gw R n r){m:BQ}(ht:J3 B w w' gw m r.vw):CZ B w w' g gt gh gw R (IY n m) r:=by
 obtain⟨u,h1,h2⟩:=ht;exact h.setWait h1 h2
theorem BT.setCell(h:BT B w g gt gh gw R n r){j:Nat}{v:Value}{n':Ap Ay}{u:DU}(hs:(ndV n gt gh gw r).setIfInBounds j v=ndV n' gt gh gw u)(h1:n'.tab=n.tab)(h2:n'.hold=n.hold)(h3:n'.wait=n.wait)(e1:u.v1=r.v1)(e2:u.v2=r.v2)(e3:u.v3=r.v3)(e4:u.vw=r.vw)(hp:DT B w n'.num u.vl n'.post)(hl:BZ B w u.vn n'.log):BT B (w.setCell ⟨g,j,none⟩ v) g gt gh gw R n' u∧Ao (Cj g) w (w.setCell ⟨g,j,none⟩ v):=by
 have hk:Ao (EU g gt gh gw r 0) w (w.setCell ⟨g,j,none⟩ v):=⟨rfl,rfl,rfl,by simp[aW],fun k' _ e=>heap_setCell_other w ⟨g,j,none⟩ k' _ e⟩;refine⟨⟨?_,?_,?_,?_,?_,?_,h.hB,h.hH⟩,hk⟩
 ·rw[heap_setCell_same w g j _ _ _ h.blk,hs]
 ·rw[h1,e1,e2,e3];exact h.tab.kept hk (h.off (i:=2) (j:=0) (by decide) (by decide) (by decide))
 ·rw[h2];exact h.hold.kept hk (h.off (i:=1) (j:=0) (by decide) (by decide) (by decide) gh rfl)
 ·rw[h3,e4];exact h.wait.kept hk (h.off (i:=3) (j:=0) (by decide) (by decide) (by decide))
 ·refine hp.kept hk fun k hk' e=> ?_;have t1:=IW.own hp hk';obtain rfl:k=g:=e;exact absurd (t1.one ⟨_,_,h.blk⟩) (by decide)
 ·refine hl.kept hk fun k hk' e=> ?_;have t1:=IW.own hl hk';obtain rfl:k=g:=e;exact absurd (t1.one ⟨_,_,h.blk⟩) (by decide)
theorem BT.putLog(h:BT B w g gt gh gw R n r){w1:World}{u:Value}{L:List Di}(hk:Ao (Bn r.vn) w w1)(hu:BZ B w1 u L)(hu2:∀k,u.ownBlock=some k→r.vn.ownBlock=some k∨w.heap.size≤k):CZ B w (w1.setCell ⟨g,8,none⟩ u) g gt gh gw R {n with log:=L} r:=by
 have hk5:Ao (EU g gt gh gw r 5) w w1:=hk;have hblk:=hk5.heap h.blk (h.off (i:=0) (j:=5) (by decide) (by decide) (by decide) g rfl);have hk0:Ao (EU g gt gh gw r 0) w1 (w1.setCell ⟨g,8,none⟩ u):=⟨rfl,rfl,rfl,by simp[aW],fun k' _ e=>heap_setCell_other w1 ⟨g,8,none⟩ k' _ e⟩;refine⟨{r with vn:=u},⟨?_,?_,?_,?_,?_,?_,h.hB,h.hH⟩,⟨?_,?_⟩⟩
 ·rw[heap_setCell_same w1 g 8 _ _ _ hblk];rfl
 ·exact(h.tab.kept hk5 (h.off (i:=2) (j:=5) (by decide) (by decide) (by decide))).kept hk0 (h.off (i:=2) (j:=0) (by decide) (by decide) (by decide))
 ·exact(h.hold.kept hk5 (h.off (i:=1) (j:=5) (by decide) (by decide) (by decide) gh rfl)).kept hk0 (h.off (i:=1) (j:=0) (by decide) (by decide) (by decide) gh rfl)
 ·exact(h.wait.kept hk5 (h.off (i:=3) (j:=5) (by decide) (by decide) (by decide))).kept hk0 (h.off (i:=3) (j:=0) (by decide) (by decide) (by decide))
 ·exact(h.post.kept hk5 (h.off (i:=4) (j:=5) (by decide) (by decide) (by decide))).kept hk0 (h.off (i:=4) (j:=0) (by decide) (by decide) (by decide))
 ·refine hu.kept hk0 fun k hk' e=> ?_;have t1:=IW.own hu hk';obtain rfl:k=g:=e;exact absurd (t1.one ⟨_,_,hblk⟩) (by decide)
 ·exact(hk5.mono (Y:=Hd g gt gh gw r) fun k _ e=>⟨5,by decide,e⟩).trans hk0 fun k e=> .inl ⟨0,by decide,e⟩
 ·rintro k ⟨j,hj,e⟩;match j,hj,e with
  | 0,_,e=>exact .inl ⟨0,by decide,e⟩
  | 1,_,e=>exact .inl ⟨1,by decide,e⟩
  | 2,_,e=>exact .inl ⟨2,by decide,e⟩
  | 3,_,e=>exact .inl ⟨3,by decide,e⟩
  | 4,_,e=>exact .inl ⟨4,by decide,e⟩
  | 5,_,e=>
   rcases hu2 k e with q | q
   ·exact .inl ⟨5,by decide,q⟩
   ·exact .inr q
  | j+6,hj,_=>omega
theorem BT.putPost(h:BT B w g gt gh gw R n r){w1:World}{u:Value}{L:List (Int×List UInt8)}(hk:Ao (Bn r.vl) w w1)(hu:DT B w1 n.num u L)(hu2:∀k,u.ownBlock=some k→r.vl.ownBlock=some k∨w.heap.size≤k):CZ B w (w1.setCell ⟨g,7,none⟩ u) g gt gh gw R {n with post:=L} r:=by
 have hk5:Ao (EU g gt gh gw r 4) w w1:=hk;have hblk:=hk5.heap h.blk (h.off (i:=0) (j:=4) (by decide) (by decide) (by decide) g rfl);have hk0:Ao (EU g gt gh gw r 0) w1 (w1.setCell ⟨g,7,none⟩ u):=⟨rfl,rfl,rfl,by simp[aW],fun k' _ e=>heap_setCell_other w1 ⟨g,7,none⟩ k' _ e⟩;refine⟨{r with vl:=u},⟨?_,?_,?_,?_,?_,?_,h.hB,h.hH⟩,⟨?_,?_⟩⟩
 ·rw[heap_setCell_same w1 g 7 _ _ _ hblk];rfl
 ·exact(h.tab.kept hk5 (h.off (i:=2) (j:=4) (by decide) (by decide) (by decide))).kept hk0 (h.off (i:=2) (j:=0) (by decide) (by decide) (by decide))
 ·exact(h.hold.kept hk5 (h.off (i:=1) (j:=4) (by decide) (by decide) (by decide) gh rfl)).kept hk0 (h.off (i:=1) (j:=0) (by decide) (by decide) (by decide) gh rfl)
 ·exact(h.wait.kept hk5 (h.off (i:=3) (j:=4) (by decide) (by decide) (by decide))).kept hk0 (h.off (i:=3) (j:=0) (by decide) (by decide) (by decide))
 ·refine hu.kept hk0 fun k hk' e=> ?_;have t1:=IW.own hu hk';obtain rfl:k=g:=e;exact absurd (t1.one ⟨_,_,hblk⟩) (by decide)
 ·exact(h.log.kept hk5 (h.off (i:=5) (j:=4) (by decide) (by decide) (by decide))).kept hk0 (h.off (i:=5) (j:=0) (by decide) (by decide) (by decide))
 ·exact(hk5.mono (Y:=Hd g gt gh gw r) fun k _ e=>⟨4,by decide,e⟩).trans hk0 fun k e=> .inl ⟨0,by decide,e⟩
 ·rintro k ⟨j,hj,e⟩;match j,hj,e with
  | 0,_,e=>exact .inl ⟨0,by decide,e⟩
  | 1,_,e=>exact .inl ⟨1,by decide,e⟩
  | 2,_,e=>exact .inl ⟨2,by decide,e⟩
  | 3,_,e=>exact .inl ⟨3,by decide,e⟩
  | 4,_,e=>
   rcases hu2 k e with q | q
   ·exact .inl ⟨4,by decide,q⟩
   ·exact .inr q
  | 5,_,e=>exact .inl ⟨5,by decide,e⟩
  | j+6,hj,_=>omega
end
structure NdF(w:World)(g gt gh gw:Nat)(n:Ap Ay)(r:DU):Prop where
 c0:w.cell? ⟨g,0,none⟩=some (.int .i64 n.num)
 c1:w.cell? ⟨g,1,none⟩=some (.int .i64 n.lease)
 c2:w.cell? ⟨g,2,none⟩=some (.int .i64 n.beat)
 c3:w.cell? ⟨g,3,none⟩=some (.int .i64 n.load)
 c4:w.cell? ⟨g,4,none⟩=some (.pointer (some ⟨gt,0,none⟩))
 c5:w.cell? ⟨g,5,none⟩=some (.pointer (some ⟨gh,0,none⟩))
 c6:w.cell? ⟨g,6,none⟩=some (.pointer (some ⟨gw,0,none⟩))
 c7:w.cell? ⟨g,7,none⟩=some r.vl
 c8:w.cell? ⟨g,8,none⟩=some r.vn
 fz:∀k,w.frozen? ⟨g,k,none⟩=false
theorem OH{w:World}{g gt gh gw:Nat}{n:Ap Ay}{r:DU}{t:TypeId}(h:w.heap[g]?=some (.cells (ndV n gt gh gw r) t (0,0))):NdF w g gt gh gw n r:=
 ⟨by rw[cell_of_row w g _ _ _ _ h];rfl,by rw[cell_of_row w g _ _ _ _ h];rfl,by rw[cell_of_row w g _ _ _ _ h];rfl,by rw[cell_of_row w g _ _ _ _ h];rfl,by rw[cell_of_row w g _ _ _ _ h];rfl,by rw[cell_of_row w g _ _ _ _ h];rfl,by rw[cell_of_row w g _ _ _ _ h];rfl,by rw[cell_of_row w g _ _ _ _ h];rfl,by rw[cell_of_row w g _ _ _ _ h];rfl,fun k=>by simp[World.frozen?,h]⟩
theorem BT.f{B:Nat}{w:World}{g gt gh gw:Nat}{R:Rm}{n:Ap Ay}{r:DU}(h:BT B w g gt gh gw R n r):NdF w g gt gh gw n r:=OH h.blk
theorem TJ(now:Int)(w:World):Calls aI 52 #[.int .i64 now] w fun e w'=>e=.returned (.int .i64 (GI now))∧w'=w:=by
 unfold GI;obtain⟨m,hm⟩:=eX (max now 0);obtain⟨q,hq⟩:=eX (min m 1099511627776);rw[←hm, ←hq];have HM:Hid _:=hm;have HQ:Hid _:=hq;clear hm hq;go_enter Tryz.func52,Tryz.ntmps52
 go_wp2_with (first
  | (refine MB rfl (.tmp 3) _ rfl now 0 m rfl rfl HM.out ?_)
  | (refine TQ rfl (.tmp 4) _ rfl m 1099511627776 q rfl rfl HQ.out ?_))
 go_ret;exact⟨rfl,rfl⟩
def VZ(room tries time:Int):Prop:=1≤room∧room≤64∧0≤tries∧tries≤8∧1≤time∧time≤1000
theorem W0(room tries time:Int)(h:VZ room tries time)(w:World):
  Calls aI 29 #[.int .i64 room,.int .i64 tries,.int .i64 time] w fun e w'=>e=.returned (.tuple #[.pointer (some ⟨w.heap.size,0,none⟩),.int .i64 0])∧Dq w.heap.size w' w.heap.size ⟨room,tries,time,[],0⟩ (.slice none 0 0)∧Below w.heap.size w w':=by
 have HN:Hid (Dq w.heap.size (w.alloc (.cells (JC ⟨room,tries,time,[],0⟩ (.slice none 0 0)) 105)) w.heap.size ⟨room,tries,time,[],0⟩ (.slice none 0 0)):=⟨Ac _ _ _ rfl,B8.nil _ _,aR _⟩;obtain⟨h1,h2,h3,h4,h5,h6⟩:=h;have d1:¬room<1:=by omega
 have d2:¬room>64:=by omega
 have d3:¬tries<0:=by omega
 have d4:¬tries>8:=by omega
 have d5:¬time<1:=by omega
 have d6:¬time>1000:=by omega
 clear h1 h2 h3 h4 h5 h6;go_enter Tryz.func29,Tryz.ntmps29;go_wp2_with fail;go_ret2;exact⟨rfl,HN.out,(aN _ _).alloc (aR _) _⟩
structure Ah8(ops:Array Oper)(V:Nat→Value→World→Prop)(D:List Nat)(a0:Act)(w0:World)(listed:Array Bool)(a:Act)(w:World):Prop where
 below:Below w0.heap.size w0 w
 size:a.tmps.size=a0.tmps.size
 defers:a.defers=a0.defers
 other:∀d,d∉D→a.eval (.tmp d)=a0.eval (.tmp d)
 has:∀j o d,ops[j]?=some o→o.dst=some d→listed.getD j false=true→V j (a.eval (.tmp d)) w
theorem QO{ops:Array Oper}{D:List Nat}(hD:(ops.toList.filterMap (·.dst))=D)(hnd:D.Nodup){i j:Nat}{oi oj:Oper}{d:Nat}(hi:ops[i]?=some oi)(hj:ops[j]?=some oj)(di:oi.dst=some d)(dj:oj.dst=some d):i=j:=by
 subst hD;rw[List.nodup_iff_pairwise_ne,List.pairwise_filterMap] at hnd;rw[←Array.getElem?_toList] at hi hj;obtain⟨hi1,hi2⟩:=bC.1 hi;obtain⟨hj1,hj2⟩:=bC.1 hj;rw[List.pairwise_iff_getElem] at hnd;rcases Nat.lt_trichotomy i j with h | h | h
 ·exact absurd rfl (hnd i j hi1 hj1 h d (by rw[hi2];exact di) d (by rw[hj2];exact dj))
 ·exact h
 ·exact absurd rfl (hnd j i hj1 hi1 h d (by rw[hj2];exact dj) d (by rw[hi2];exact di))
theorem Vx(l:Array Bool)(i:Nat)(h:l.getD i true=false):(l.setIfInBounds i true).toList.count false+1=l.toList.count false:=by
 have hi:i<l.size:=by
  rw[aD] at h;rcases bG i l.size with h1 | h1
  ·exact h1
  ·rw[aX h1] at h;simp at h
 have hv:l[i]=false:=by
  rw[aD,aJ hi] at h;simpa using h
 rw[Array.toList_setIfInBounds];have hi':i<l.toList.length:=by simpa using hi
 have e:l.toList=l.toList.take i++false::l.toList.drop (i+1):=by
  have:=List.drop_eq_getElem_cons hi';rw[show l.toList[i]=false by simpa using hv] at this;rw[←this,List.take_append_drop]
 rw[List.set_eq_take_append_cons_drop,if_pos hi',e];have e2:(l.toList.take i++false::l.toList.drop (i+1)).take i=l.toList.take i:=by rw[←e]
 have e3:(l.toList.take i++false::l.toList.drop (i+1)).drop (i+1)=l.toList.drop (i+1):=by rw[←e]
 rw[e2,e3,bQ,bQ,bX,bX];simp;omega
theorem UO{md:Region.Mode}{ops:Array Oper}{l:Array Bool}(h:l.toList.count false=0):bN md ops l=[]:=by
 rw[List.eq_nil_iff_forall_not_mem];intro j hj;have h1:=(mem_ready.1 hj).1;rw[aD] at h1;rcases bG j l.size with h2 | h2
 ·rw[aJ h2] at h1;have h3:l[j]=false:=by simpa using h1
  have:false∈l.toList:=by rw[←h3];exact Array.mem_toList_iff.2 (Array.getElem_mem h2)
  have:=List.count_pos_iff.2 this;omega
 ·rw[aX h2] at h1;simp at h1
theorem Ad8{l:Array Bool}{j:Nat}(h:l.getD j true=false):l.getD j false=false:=by
 rw[aD] at h ⊢;rcases bG j l.size with h2 | h2
 ·rw[aJ h2] at h ⊢;simpa using h
 ·rw[aX h2];rfl
theorem Ff{l:Array Bool}{i j:Nat}(h:i≠j)(b c:Bool):(l.setIfInBounds i b).getD j c=l.getD j c:=by
 rw[aD,aD,Array.getElem?_setIfInBounds_ne h]
theorem UN{ops:Array Oper}{l:Array Bool}(hs:l.size=ops.size)(hdag:∀(i:Nat) (o:Oper),ops[i]?=some o→∀e∈o.after,e.on<i):∀j,l.getD j true=false→bN .any ops l≠[]:=by
 intro j;induction j using Nat.strongRecOn with
 | ind j ih=>
  intro hj hr
  have hjl:j<l.size:=by
   rw[aD] at hj;rcases bG j l.size with h1 | h1
   ·exact h1
   ·rw[aX h1] at hj;simp at hj
  have ho:ops[j]?=some (ops[j]'(by omega)):=aJ (by omega);by_cases hall:∀e∈(ops[j]'(by omega)).after,cA .any e=true→l.getD e.on false=true
  ·have:j∈bN .any ops l:=mem_ready.2 ⟨hj,_,ho,hall⟩;rw[hr] at this;simp at this
  ·simp only[Classical.not_forall] at hall;obtain⟨e,he,hb,hl⟩:=hall;have hlt:=hdag j _ ho e he;refine ih e.on hlt ?_ hr;rw[aD,aJ (by omega)] at hl ⊢;simpa using hl
theorem Bt{ops:Array Oper}{Q:Exit→Act→World→Prop}{V:Nat→Value→World→Prop}{i:Nat}{o:Oper}{a:Act}{w:World}(hi:ops[i]?=some o)(hw:bH o (yielded ops a.tmps)=true)(v:Value)
  (hx:(execOp a.eval o).run aI w=.ok (.value v) w) (hv:V i v w):wpOp aI ops Q i (fun a' w'=> ∃v,a'=a.put o.dst v∧Below w.heap.size w w'∧∀d,o.dst=some d→V i v w') a w:=
 ED hi hw v hx o.dst rfl ⟨v,rfl,aN _ _,fun _ _=>hv⟩
theorem Acw{ops:Array Oper}{Q:Exit→Act→World→Prop}{V:Nat→Value→World→Prop}{i:Nat}{o:Oper}{a:Act}{w:World}(hi:ops[i]?=some o)(hw:bH o (yielded ops a.tmps)=true)(f:FuncId)(vs:Array Value)
  (hf:(execOp a.eval o).run aI w=.ok (.enter f vs) w) (h:Calls aI f vs w fun e w'=> ∃v,e=.returned v∧Below w.heap.size w w'∧V i v w'):wpOp aI ops Q i (fun a' w'=> ∃v,a'=a.put o.dst v∧Below w.heap.size w w'∧∀d,o.dst=some d→V i v w') a w:=
 Uw hi hw f vs hf _ h o.dst rfl (fun v w' hD=>by
  obtain⟨u,hu,hb,hv⟩:=hD
  obtain rfl:v=u:=by simpa using hu
  exact⟨v,rfl,hb,fun _ _=>hv⟩) (fun ch w' hD=>by obtain⟨u,hu,_⟩:=hD;cases hu) (fun w' hD=>by obtain⟨u,hu,_⟩:=hD;cases hu)
theorem PF{ops:Array Oper}{Q:Exit→Act→World→Prop}{V:Nat→Value→World→Prop}{i:Nat}{o:Oper}{a:Act}{w:World}(hi:ops[i]?=some o)
  (h:wpList aI ops (fun e a' w'=>match e with | .normal=>(∃v,a'=a.put o.dst v∧Below w.heap.size w w'∧∀d,o.dst=some d→V i v w') | e=>Q e a' w') [o] a w):wpOp aI ops Q i (fun a' w'=> ∃v,a'=a.put o.dst v∧Below w.heap.size w w'∧∀d,o.dst=some d→V i v w') a w:=
 Dt hi h
def Hb(D:List Nat)(y:Nat→Value)(a:Act):Act:=D.foldl (fun b d=>b.put (some d) (y d)) a
theorem Ow(y:Nat→Value):∀(D:List Nat) (a:Act),(Hb D y a).tmps.size=a.tmps.size∧(Hb D y a).defers=a.defers
 | [],a=>⟨rfl,rfl⟩
 | d::D,a=>by
  have:=Ow y D (a.put (some d) (y d))
  exact⟨this.1.trans (K9 _ _ _),this.2.trans rfl⟩
theorem Oy(y:Nat→Value):∀(D:List Nat) (a:Act),(∀d∈D,d<a.tmps.size)→∀k,(Hb D y a).eval (.tmp k)=if k∈D then y k else a.eval (.tmp k)
 | [],a,_,k=>by simp[Hb]
 | d::D,a,h,k=>by
  show(Hb D y (a.put (some d) (y d))).eval (.tmp k)=_
  rw[Oy y D _ (fun e he=>by rw[K9];exact h e (by simp[he])) k]
  by_cases hk:k∈D
  ·rw[if_pos hk,if_pos (by simp[hk])]
  ·rw[if_neg hk,Ho _ _ _ _ (h d (by simp))]
   by_cases hkd:k=d
   ·rw[if_pos hkd,if_pos (by simp[hkd]),hkd]
   ·rw[if_neg hkd,if_neg (by simp[hk,hkd])]
theorem Adz{a b:Act}(hs:a.tmps.size=b.tmps.size)(hd:a.defers=b.defers)(he:∀k,a.eval (.tmp k)=b.eval (.tmp k)):a=b:=by
 obtain⟨ta,da⟩:=a;obtain⟨tb,db⟩:=b;simp only at hs hd;subst hd;congr 1;refine Array.ext hs fun k h1 h2=> ?_;have:=he k;simp only[Act.eval,aD] at this;rw[aJ h1,aJ h2] at this;simpa using this
theorem Mb{D:List Nat}{a a0:Act}(hs:a.tmps.size=a0.tmps.size)(hd:a.defers=a0.defers)(ho:∀d,d∉D→a.eval (.tmp d)=a0.eval (.tmp d))(hD:∀d∈D,d<a0.tmps.size):a=Hb D (fun d=>a.eval (.tmp d)) a0:=by
 obtain⟨h1,h2⟩:=Ow (fun d=>a.eval (.tmp d)) D a0;refine Adz (hs.trans h1.symm) (hd.trans h2.symm) fun k=> ?_;rw[Oy _ _ _ hD];split
 ·rfl
 ·rename_i h;exact ho k h
structure Agp(ops:Array Oper)(V:Nat→Value→World→Prop)(D:List Nat)(I:Bool→World→Prop)(m:Nat)(a0:Act)(listed:Array Bool)(a:Act)(w:World):Prop where
 wld:I (listed.getD m false) w
 size:a.tmps.size=a0.tmps.size
 defers:a.defers=a0.defers
 other:∀d,d∉D→a.eval (.tmp d)=a0.eval (.tmp d)
 has:∀j o d,ops[j]?=some o→o.dst=some d→listed.getD j false=true→V j (a.eval (.tmp d)) w
structure AtM(ops:Array Oper)(V:Nat→Value→World→Prop)(D:List Nat)(I:Bool→World→Prop)(b:Bool)(a0:Act)(o:Oper)(a:Act)(w:World):Prop where
 wld:I b w
 size:a.tmps.size=a0.tmps.size
 defers:a.defers=a0.defers
 other:∀d,d∉D→a.eval (.tmp d)=a0.eval (.tmp d)
 has:∀e∈o.after,cA .any e=true→∀oj d,ops[e.on]?=some oj→oj.dst=some d→V e.on (a.eval (.tmp d)) w
end
end Go.Proofs.YtbhkoipcpcoooabGreat
