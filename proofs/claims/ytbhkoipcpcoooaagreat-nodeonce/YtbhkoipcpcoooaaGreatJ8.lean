import Derived.Test.YtbhkoipcpcoooaaGreatJ3
import Derived.Test.YtbhkoipcpcoooaaGreatJ7
import Derived.Test.YtbhkoipcpcoooaaGreatJ6
namespace Go.Proofs.YtbhkoipcpcoooaaGreat
set_option maxRecDepth 20000
set_option maxHeartbeats 64000000
open Go
open _root_.List renaming setIfInBounds_toArray → aA, set_cons_succ → aB, set_cons_zero → aC, length_filter_le → aK, flatMap_cons → aO, getElem?_eq_some_iff → aQ, set_append_right → aW, mem_cons_of_mem → aX, flatMap_append → aZ
open Go.Proofs.Tryz renaming prog → aD
open Go.Act renaming put → aG
open _root_.Option.some renaming injEq → aH
open _root_.Array renaming toList_setIfInBounds → aI, length_toList → aM, toList_append → bA, size_append → bC
open _root_.Nat renaming le_refl → aJ, add_sub_cancel_left → aT, le_trans → bB, zero_le → bD
open Go.RowKit.Below renaming refl → aL
open Go.Region renaming wanted → aN
open Go.Value.slice renaming injEq → aP
section
open Go.RowKit
theorem Ra{P:Program}{c:Code}{Q:Exit→Act→World→Prop}{a:Act}{w:World}(h:c.wp P (fun e a' w'=>e=.normal∧Q .normal a' w') a w):c.wp P Q a w:=
 Code.wp_mono (by rintro e a' w' ⟨rfl,h⟩;exact h) h
structure TM(g1:Nat)(o1:Obj)(g2:Nat)(o2:Obj) where
 world:World
 k1:world.heap[g1]?=some o1
 k2:world.heap[g2]?=some o2
abbrev Lf(g1:Nat)(o1:Obj)(g2:Nat)(o2:Obj)(w:World):Prop:=∃z:TM g1 o1 g2 o2,w=z.world
theorem Lf.of{g1 g2:Nat}{o1 o2:Obj}{w:World}(h1:w.heap[g1]?=some o1)(h2:w.heap[g2]?=some o2):Lf g1 o1 g2 o2 w:=⟨⟨w,h1,h2⟩,rfl⟩
theorem Ae1{o:Oper}{x:Operand}(ho:o.op=.nilCheck x)(a:Act)(W:World)(ad:Addr)(hx:a.eval x=.pointer (some ad)):(execOp a.eval o).run aD W=.ok (.value (.pointer (some ad))) W:=by
 unfold execOp;simp only[ho,hx];simp[go_sem]
theorem Jd{ops:Array Oper}{F:Act→World→Prop}{S:World→Prop}{i:Nat}{oi:Oper}{fuel:Nat}{listed:Array Bool}{a:Act}{w:World}(d:Option Tmp)(hi:ops[i]?=some oi)(hd:oi.dst=d)(x:Operand)(ho:oi.op=.nilCheck x)(ad:Addr)(hx:a.eval x=.pointer (some ad))(hw:aN oi (yielded ops a.tmps)=true)
  (hs:Region.noSelect ops=true) (hf:Region.free .any ops listed i=true) (hr:(Region.ready .any ops listed).contains i=true) (hS:S w)
  (h:wpAnyH aD .any ops (fun e a' w'=>e=.normal∧F a' w') S fuel (listed.setIfInBounds i true) (a.put d (.pointer (some ad))) w):wpAnyH aD .any ops (fun e a' w'=>e=.normal∧F a' w') S (fuel+1) listed a w:=by
 subst hd;exact wpAnyH_take hi hs hf hr (fun c a w h=>absurd h.1 (by simp)) (.inl ⟨hw,fun w' _=>Ae1 ho a w' ad hx⟩) hS h
theorem RB{o:Oper}{x y:Operand}(ho:o.op=.store 65 x y)(a:Act)(W:World)(ad:Addr)(o1:Option Addr)(n c:Nat)(old:Value)(hx:a.eval x=.pointer (some ad))(hy:a.eval y=.slice o1 n c)(hc:W.cell? ad=some old)(hf:W.frozen? ad=false):(execOp a.eval o).run aD W=.ok .skip (W.setCell ad (.slice o1 n c)):=by
 have hz:∀w,(sizeOf 65).run aD w=.ok 1 w:=fun w=>by kernel_rfl
 unfold execOp;simp only[ho,hx,hy];simp[go_sem,hz,hc,hf,storeVar,storeCells,Instr.storeAt,Instr.sureAddr]
structure Wc(g1:Nat)(o1:Obj) where
 world:World
 k1:world.heap[g1]?=some o1
abbrev GL(g1:Nat)(o1:Obj)(w:World):Prop:=∃z:Wc g1 o1,w=z.world
theorem GL.of{g1:Nat}{o1:Obj}{w:World}(h1:w.heap[g1]?=some o1):GL g1 o1 w:=⟨⟨w,h1⟩,rfl⟩
theorem QQ{o:Oper}{x:Operand}(ho:o.op=.load 65 x)(a:Act)(W:World)(ad:Addr)(v:Value)(hx:a.eval x=.pointer (some ad))(hc:W.cell? ad=some v):(execOp a.eval o).run aD W=.ok (.value v) W:=
 GC ho a W _ v hx (Nw Tryz.underlying65 W ad v hc)
theorem Ky{ops:Array Oper}{Q:Exit→Act→World→Prop}{i:Nat}{o:Oper}{K:Act→World→Prop}{a:Act}{w:World}(hi:ops[i]?=some o)(hg:o.guard=none)(x:Operand)(ho:o.op=.buildSlice 65 1 #[(0,x)])(s:Ai)(hx:a.eval x=.agg (Ac s))(d:Option Tmp)(hd:o.dst=d)
  (hK:K (a.put d (.slice (some ⟨w.heap.size,0,none⟩) 1 1)) (w.alloc (.cells (Ac s) 102))):wpOp aD ops Q i K a w:=by
 subst hd;exact Et hi (Mf hg x ho s hx hK)
theorem MO{ops:Array Oper}{Q:Exit→Act→World→Prop}{i:Nat}{o:Oper}{K:Act→World→Prop}{a:Act}{w:World}(hi:ops[i]?=some o)(hgd:o.guard=none)(s x:Operand)(ho:o.op=.call {callee:=.builtin .append,args:=#[s,x],argTypes:=#[65,65]})
  (B:Nat) (v:Value) (C:List Ai) (c:Ai) (hs:a.eval s=v) (hown:Au B w v C) (g cap:Nat) (hx:a.eval x=.slice (some ⟨g,0,none⟩) 1 cap) (hg:w.heap[g]?=some (.cells (Ac c) 102 (0,0)))
  (hn:C.length≤1000000) (hB:B≤w.heap.size) (d:Option Tmp) (hd:o.dst=d)
  (hK:∀v' w',Au B w' v' (C++[c])→w.grownBy w' v.ownBlock→(v'.ownBlock=v.ownBlock∨v'.ownBlock=some w.heap.size)→K (a.put d v') w'):wpOp aD ops Q i K a w:=by
 subst hd;exact Et hi (Oz hgd s x ho B v C c hs hown g cap hx hg hn hB hK)
theorem Uw{B:Nat}{w W:World}{g:Nat}{R:Rm}{S:Aq}{v1 v2 v3:Value}{b:Nat}{s:Ai}(h:Cw B w g R S v1 v2 v3)(hb4:b<4)(hb0:b≠0)(hB:Below w.heap.size w W)(v':Value)(w9:World)(hown:Au B w9 v' (Bv S b++[s]))(hgr:(W.drew.alloc (.cells (Ac s) 102)).grownBy w9 (Cj v1 v2 v3 b).ownBlock)(hat:v'.ownBlock=(Cj v1 v2 v3 b).ownBlock∨v'.ownBlock=some (W.drew.alloc (.cells (Ac s) 102)).heap.size):
  (∃o n c,v'=.slice o n c)∧w9.cell? ⟨g,4+b,none⟩=some (Cj v1 v2 v3 b)∧w9.frozen? ⟨g,4+b,none⟩=false∧(∀q o,¬Eg g v1 v2 v3 q→W.heap[q]?=some o→w9.heap[q]?=some o∧(w9.setCell ⟨g,4+b,none⟩ v').heap[q]?=some o)∧Di B w (w9.setCell ⟨g,4+b,none⟩ v') g R (RC S b (Bv S b++[s])) v1 v2 v3:=by
 have hBW:Below w.heap.size w (W.drew.alloc (.cells (Ac s) 102)):=(hB.trans ((aL _ _).drew.mono hB.size)).alloc (by have:=hB.size;exact this) _;have hT:=h.below hBW;have hk:As (BT (Cj v1 v2 v3 b)) (W.drew.alloc (.cells (Ac s) 102)) w9:=As.of_grown hgr fun k e=>e
 obtain⟨r1,r2,r3⟩:=hT.put b hb4 v' _ hk hown (by
  rcases hat with e | e
  ·exact .inl e
  ·exact .inr fun k hk=>by rw[e] at hk;simp only[aH] at hk;omega) (fun e=>absurd e hb0)
 have hgx:¬BT (Cj v1 v2 v3 b) g:=(hT.bank b).ty hT.blk (by decide);have hbk:=hk.heap hT.blk hgx;obtain⟨o,c,e,_⟩:=hown.slice;refine⟨⟨o,_,c,e⟩,(Km hbk).bankCell b hb4,by simp[World.frozen?,hbk],fun q ob hq hqo=> ?_,_,_,_,r1,As.pre hBW r2,fun k hk=> ?_⟩
 ·have h1:w9.heap[q]?=some ob:=hk.heap (Ah _ _ _ _ hqo) fun e=>hq (by
   unfold BT Cj at e;split at e
   ·exact .inr (.inl e)
   ·split at e
    ·exact .inr (.inr (.inl e))
    ·split at e
     ·exact .inr (.inr (.inr e))
     ·cases e)
  exact⟨h1,by rw[heap_setCell_other _ _ _ _ (fun e=>hq (.inl e))];exact h1⟩
 ·rcases r3 k hk with e | e
  ·exact .inl e
  ·exact .inr (bB hBW.size e)
def Er(c:Hn)(h:List Int):Bool:=has (AC c.1) (AC c.2) h
theorem WL{K:World→Prop}{ops:Array Oper}{Q:Act→Prop}{rest:List Oper}{o:Oper}{a:Act}(hw:aN o (yielded ops a.tmps)=true)(x:Operand)(ho:o.op=.load 37 x)
  (g off:Nat) (hx:a.eval x=.pointer (some ⟨g,off,none⟩)) (cur:Array Value) (t:TypeId) (fr:Nat×Nat) (V M:List Int) (hV:V.length=13) (hM:M.length=13) (hg:∀w',K w'→w'.heap[g]?=some (.cells cur t fr)) (hc:∀j,j<26→cur[off+j]?=(cv V M)[j]?)
  (h:wpQuiet aD ops K Q rest (a.put o.dst (.agg (cv V M)))):wpQuiet aD ops K Q (o::rest) a:=by
 refine BigFrame.wpQuiet_want hw fun K' hK=>⟨.agg (cv V M),fun w hC=> ?_,hK _ h⟩;unfold Oper.quietAt execOp;simp only[ho,hx,Instr.loadAt,Instr.sureAddr,Sem.run_bind,Sem.run_pure,Result.andThen_ok,Tu hV hM (hg w hC) hc];exact⟨rfl,rfl⟩
theorem Aoz{C:World→Prop}{ops:Array Oper}{Q:Act→Prop}{rest:List Oper}{o:Oper}{a:Act}(hw:aN o (yielded ops a.tmps)=true)(v:Value)(hx:∀w,C w→(execOp a.eval o).run aD w=.ok (.value v) w)(h:wpQuiet aD ops C Q rest (a.put o.dst v)):wpQuiet aD ops C Q (o::rest) a:=by
 refine BigFrame.wpQuiet_want hw fun K hK=>⟨v,fun w hC=> ?_,hK _ h⟩;unfold Oper.quietAt;rw[hx w hC];exact⟨rfl,rfl⟩
theorem Em{C:World→Prop}{ops:Array Oper}{Q:Act→Prop}{rest:List Oper}{o:Oper}{a:Act}(hw:aN o (yielded ops a.tmps)=true)(x:Operand)(ho:o.op=.nilCheck x)(ad:Addr)(hx:a.eval x=.pointer (some ad))(h:wpQuiet aD ops C Q rest (a.put o.dst (.pointer (some ad)))):wpQuiet aD ops C Q (o::rest) a:=by
 refine Aoz hw _ (fun w _=> ?_) h;unfold execOp;simp only[ho,hx];simp[go_sem]
theorem Zu{c:Hn}(h:GK c):AK (AC c.1)∧AK (AC c.2):=by rw[EX h.1.1,EX h.2.1];exact h
theorem Ajl(c:Hn)(H:List Int)(hc:GK c)(hH:AK H)(W:World):Calls aD 200 #[.agg (cv (AC c.1) (AC c.2)),.agg (hv H)] W fun r w'=>r=.returned (.bool (Er c H))∧Below W.heap.size W w':=
 ZP (AC c.1) (AC c.2) H (Zu hc).1 (Zu hc).2 hH W
theorem Ks{W:World}{g off:Nat}{x:Ai}{cur:Array Value}{t:TypeId}(hg:W.heap[g]?=some (.cells cur t (0,0)))(h:NR W g off x):∀u:Am W,NR u.world g off x:=fun u=>h.below ((Ap hg _ ⟨u,rfl⟩).trans hg.symm)
def Akv(m:Ai→Bool)(g:Nat)(C:List Ai)(r:Value):Prop:=
 (r=.pointer none∧Bc m (·.order) C=none)∨∃(i:Nat) (x:Ai),r=.pointer (some ⟨g,i*36,none⟩)∧i<C.length∧C[i]?=some x∧Bc m (·.order) C=some (C.take i,x,C.drop (i+1))
def TO(m:Ai→Bool)(g:Nat)(C:List Ai)(k:Nat)(r:Value):Prop:=
 (r=.pointer none∧FP m (·.order) C k (-1))∨∃(j:Nat) (x:Ai),r=.pointer (some ⟨g,j*36,none⟩)∧C[j]?=some x∧FP m (·.order) C k (j:Int)
theorem TO.all{m:Ai→Bool}{g:Nat}{C:List Ai}{r:Value}(h:TO m g C C.length r):Akv m g C r:=by
 rcases h with ⟨e,h⟩ | ⟨j,x,e,hx,h⟩
 ·rcases Qn h with ⟨_,h⟩ | ⟨i,x,h,_⟩
  ·exact .inl ⟨e,h⟩
  ·omega
 ·rcases Qn h with ⟨h,_⟩ | ⟨i,z,hi,h1,h2,h3⟩
  ·omega
  ·obtain rfl:j=i:=by omega
   exact .inr ⟨j,z,e,h1,h2,h3⟩
theorem WD{w:World}{g:Nat}{cur:Array Value}{C:List Ai}(_:w.heap[g]?=some (.cells cur 102 (0,0)))(h:cur.toList.take (C.length*36)=BC Ac C)(k:Nat)(x:Ai)(hx:C[k]?=some x):∀j,j<36→cur[k*36+j]?=(Ac x)[j]?:=fun j hj=>by
 have hk:k<C.length:=(aQ.1 hx).1
 have h1:=LU Ac 36 C (fun c _=>Bl c) k hk j hj
 rw[←h,List.getElem?_take_of_lt (by have:=Nat.mul_le_mul_right 36 (show k+1≤C.length by omega);omega),Array.getElem?_toList] at h1
 rw[Nat.mul_comm k 36,h1,(aQ.1 hx).2]
theorem Afc(w:World)(e:Int)(H:List Int):Calls aD 190 #[.slice none 0 0,.int .i64 e,.agg (hv H)] w fun r w'=>r=.returned (.pointer none)∧Below w.heap.size w w':=by
 go_enter Tryz.func190,Tryz.ntmps190;go_wp2_with fail;go_loopw [7,12] (fun s7 i wr=>i=.int .i64 0∧s7=.pointer none∧Hid (Below w.heap.size w wr)) (fun _ _ _=>0)
 case atStart=>exact⟨rfl,rfl,(aL _ _).alloc (aJ _) _⟩
 case round=>
  obtain⟨rfl,rfl,HB⟩:=hrel;go_wp2_with fail;go_ret;exact⟨rfl,HB.out⟩
theorem Ab5(g n cap:Nat)(C:List Ai)(w:World)(cur:Array Value)(hn0:n=C.length)(hg:w.heap[g]?=some (.cells cur 102 (0,0)))(hcap:n≤cap)(hcm:cap≤maxLen)(htk:cur.toList.take (n*36)=BC Ac C)(e:Int)(H:List Int)(hH:AK H)(hok:∀x∈C,GK x.cube):
  Calls aD 190 #[.slice (some ⟨g,0,none⟩) n cap,.int .i64 e,.agg (hv H)] w fun r w'=>(∃p,r=.returned p∧Akv (E7 Er e H) g C p)∧Below w.heap.size w w':=by
 have HHl:=hH.1;have HAS:Hid (∀x:Ai,GK x.cube→∀W,Calls aD 200 #[.agg (cv (AC x.cube.1) (AC x.cube.2)),.agg (hv H)] W fun r w'=>r=.returned (.bool (Er x.cube H))∧Below W.heap.size W w'):=by intro x hx W;exact Ajl x.cube H hx hH W
 have HOK:Hid (∀x∈C,GK x.cube):=hok;have HN:Hid (n=C.length):=hn0;have HR:Hid (∀wr:World,Below w.heap.size w wr→wr.heap[g]?=some (.cells cur 102 (0,0))):=fun wr hb=>(hb.block g (Array.getElem?_eq_some_iff.1 hg).1).trans hg;have HT:Hid (∀(k:Nat) (x:Ai),C[k]?=some x→∀j,j<36→cur[k*36+j]?=(Ac x)[j]?):=fun k x hx=>WD hg (by rw[←hn0];exact htk) k x hx;have HE:Hid (∀p,TO (E7 Er e H) g C n p→Akv (E7 Er e H) g C p):=fun p hp=>by rw[hn0] at hp;exact hp.all
 unfold maxLen at hcm;clear hg htk hn0 hok hH;go_enter Tryz.func190,Tryz.ntmps190;go_wp2_with fail;go_loopw [7,12] (fun s7 i wr=> ∃k:Nat,k≤n∧i=.int .i64 (k:Int)∧Hid (TO (E7 Er e H) g C k s7)∧Hid (wr.heap[w.heap.size]?=some (.cells (hv H) 35 (0,0)))∧Hid (Below w.heap.size w wr)) (fun _ i _=>n-(intOf i).toNat)
 case atStart=>exact⟨0,bD _,rfl,.inl ⟨rfl,Vm _⟩,Ab _ _ _ rfl,(aL _ _).alloc (aJ _) _⟩
 case round=>
  obtain⟨k,hk,rfl,HS,HH,HB⟩:=hrel;by_cases hlt:k<n
  ·have hlt':(k:Int)<(n:Int):=by omega
   obtain⟨y,hy⟩:∃y,C[k]?=some y:=⟨_,List.getElem?_eq_getElem (show k<C.length by have:=HN.out;omega)⟩;have HY:Hid (C[k]?=some y):=hy;have HYO:Hid (GK y.cube):=HOK.out y (List.mem_of_getElem? hy);have K1:Hid (wr.heap[g]?=some (.cells cur 102 (0,0))):=HR.out wr HB.out;have H1:Hid (∀j,j<36→cur[k*36+j]?=(Ac y)[j]?):=HT.out k y hy;have HC1:Hid (∀j,j<26→cur[k*36+4+j]?=(cv (AC y.cube.1) (AC y.cube.2))[j]?):=Aka K1.out H1.out;have d1:∀u:Am wr,u.world.cell? ⟨g,k*36+1,none⟩=some (.int .i64 y.epoch):=fun u=>(Ks K1.out (GU K1.out H1.out) u).c1;have d3:∀u:Am wr,u.world.cell? ⟨g,k*36+3,none⟩=some (.int .i64 y.order):=fun u=>(Ks K1.out (GU K1.out H1.out) u).c3;have ne1:=Am.ne wr;have HM:Hid (E7 Er e H y=((y.epoch==e)&&Er y.cube H)):=rfl;obtain⟨ye,hye⟩:∃ye,ye=y.epoch:=⟨_,rfl⟩;obtain⟨yo,hyo⟩:∃yo,yo=y.order:=⟨_,rfl⟩;have HYE:Hid (ye=y.epoch):=hye;have HYQ:Hid (yo=y.order):=hyo;rw[←hye] at d1;rw[←hyo] at d3;clear hy hye hyo;by_cases he:ye=e
   ·subst he;have hed:(ye==ye)=true:=by simp
    rcases HS.out with ⟨rfl,hf⟩ | ⟨j,x,rfl,hxj,hf⟩
    ·have HF:Hid (FP (E7 Er ye H) (·.order) C k (-1)):=hf;clear hf HS;rcases Bool.eq_false_or_eq_true (Er y.cube H) with hh | hh
     ·have HMM:Hid (E7 Er ye H y=true):=by show _=_;rw[HM.out, ←HYE.out,hh,hed];rfl
      have hcall:∀W,Calls aD 200 #[.agg (cv (AC y.cube.1) (AC y.cube.2)),.agg (hv H)] W fun r w'=>r=.returned (.bool true)∧Below W.heap.size W w':=by intro W;rw[←hh];exact HAS.out y HYO.out W
      clear hh HM;go_wp2_with fail;refine BE (by kernel_rfl) (by kernel_rfl) ?_;go_big_quiet_step (rfl);refine Em rfl _ rfl _ rfl ?_;simp only[aG,aA,aB,aC]
      iterate 21 (go_big_quiet_step (rfl))
      refine Em rfl _ rfl _ rfl ?_;simp only[aG,aA,aB,aC];go_big_quiet_step (rfl);refine WL rfl _ rfl g (k*36+4) rfl cur _ _ (AC y.cube.1) (AC y.cube.2) (AV _) (AV _) (Ap K1.out) HC1.out ?_;simp only[aG,aA,aB,aC];refine U1 rfl _ rfl w.heap.size rfl H HH.out HHl ?_;simp only[aG,aA,aB,aC];go_big_quiet_want;go_big_quiet_op;refine⟨_,fun u=>Calls.later_of (hcall u.world),?_⟩;go_big_quiet_on;go_big_quiet_step (rfl);refine wpQuiet_nil ?_;rintro w' ⟨u,rfl⟩;go_wp2_with fail;go_roundw
      case rel=>exact⟨k+1,by omega,by go_num,.inr ⟨k,y,rfl,HY.out,Rn HF.out HY.out HMM.out⟩,Ap HH.out _ ⟨u,rfl⟩,BL HB.out HB.out.size u.below⟩
      case measure=>simp[intOf];omega
     ·have HMM:Hid (E7 Er ye H y=false):=by show _=_;rw[HM.out, ←HYE.out,hh,hed];rfl
      have hcall:∀W,Calls aD 200 #[.agg (cv (AC y.cube.1) (AC y.cube.2)),.agg (hv H)] W fun r w'=>r=.returned (.bool false)∧Below W.heap.size W w':=by intro W;rw[←hh];exact HAS.out y HYO.out W
      clear hh HM;go_wp2_with fail;refine BE (by kernel_rfl) (by kernel_rfl) ?_;go_big_quiet_step (rfl);refine Em rfl _ rfl _ rfl ?_;simp only[aG,aA,aB,aC]
      iterate 21 (go_big_quiet_step (rfl))
      refine Em rfl _ rfl _ rfl ?_;simp only[aG,aA,aB,aC];go_big_quiet_step (rfl);refine WL rfl _ rfl g (k*36+4) rfl cur _ _ (AC y.cube.1) (AC y.cube.2) (AV _) (AV _) (Ap K1.out) HC1.out ?_;simp only[aG,aA,aB,aC];refine U1 rfl _ rfl w.heap.size rfl H HH.out HHl ?_;simp only[aG,aA,aB,aC];go_big_quiet_want;go_big_quiet_op;refine⟨_,fun u=>Calls.later_of (hcall u.world),?_⟩;go_big_quiet_on;go_big_quiet_step (rfl);refine wpQuiet_nil ?_;rintro w' ⟨u,rfl⟩;go_wp2_with fail;go_roundw
      case rel=>exact⟨k+1,by omega,by go_num,.inl ⟨rfl,Mq HF.out HY.out HMM.out⟩,Ap HH.out _ ⟨u,rfl⟩,BL HB.out HB.out.size u.below⟩
      case measure=>simp[intOf];omega
    ·have HF:Hid (FP (E7 Er ye H) (·.order) C k (j:Int)):=hf;have HXJ:Hid (C[j]?=some x):=hxj;have x3:∀u:Am wr,u.world.cell? ⟨g,j*36+3,none⟩=some (.int .i64 x.order):=fun u=>(Ks K1.out (GU K1.out (HT.out j x hxj)) u).c3;clear hf HS hxj;obtain⟨xo,hxo⟩:∃xo,xo=x.order:=⟨_,rfl⟩;have HXO:Hid (xo=x.order):=hxo;rw[←hxo] at x3;clear hxo;by_cases hlo:yo<xo
     ·have hld:decide (yo<xo)=true:=decide_eq_true hlo;have HLO:Hid (y.order<x.order):=by show _<_;rw[←HYQ.out, ←HXO.out];exact hlo
      clear hlo;rcases Bool.eq_false_or_eq_true (Er y.cube H) with hh | hh
      ·have HMM:Hid (E7 Er ye H y=true):=by show _=_;rw[HM.out, ←HYE.out,hh,hed];rfl
       have hcall:∀W,Calls aD 200 #[.agg (cv (AC y.cube.1) (AC y.cube.2)),.agg (hv H)] W fun r w'=>r=.returned (.bool true)∧Below W.heap.size W w':=by intro W;rw[←hh];exact HAS.out y HYO.out W
       clear hh HM;go_wp2_with fail;refine BE (by kernel_rfl) (by kernel_rfl) ?_;go_big_quiet_step (rfl);refine Em rfl _ rfl _ rfl ?_;simp only[aG,aA,aB,aC]
       iterate 9 (go_big_quiet_step (rfl))
       refine Em rfl _ rfl _ rfl ?_;simp only[aG,aA,aB,aC]
       iterate 3 (go_big_quiet_step (rfl))
       refine Em rfl _ rfl _ rfl ?_;simp only[aG,aA,aB,aC]
       iterate 7 (go_big_quiet_step (rfl))
       refine Em rfl _ rfl _ rfl ?_;simp only[aG,aA,aB,aC];go_big_quiet_step (rfl);refine WL rfl _ rfl g (k*36+4) rfl cur _ _ (AC y.cube.1) (AC y.cube.2) (AV _) (AV _) (Ap K1.out) HC1.out ?_;simp only[aG,aA,aB,aC];refine U1 rfl _ rfl w.heap.size rfl H HH.out HHl ?_;simp only[aG,aA,aB,aC];go_big_quiet_want;go_big_quiet_op;refine⟨_,fun u=>Calls.later_of (hcall u.world),?_⟩;go_big_quiet_on;go_big_quiet_step (rfl);refine wpQuiet_nil ?_;rintro w' ⟨u,rfl⟩;go_wp2_with fail;go_roundw
       case rel=>exact⟨k+1,by omega,by go_num,.inr ⟨k,y,rfl,HY.out,Tn HF.out HXJ.out HY.out HMM.out HLO.out⟩,Ap HH.out _ ⟨u,rfl⟩,BL HB.out HB.out.size u.below⟩
       case measure=>simp[intOf];omega
      ·have HMM:Hid (E7 Er ye H y=false):=by show _=_;rw[HM.out, ←HYE.out,hh,hed];rfl
       have hcall:∀W,Calls aD 200 #[.agg (cv (AC y.cube.1) (AC y.cube.2)),.agg (hv H)] W fun r w'=>r=.returned (.bool false)∧Below W.heap.size W w':=by intro W;rw[←hh];exact HAS.out y HYO.out W
       clear hh HM;go_wp2_with fail;refine BE (by kernel_rfl) (by kernel_rfl) ?_;go_big_quiet_step (rfl);refine Em rfl _ rfl _ rfl ?_;simp only[aG,aA,aB,aC]
       iterate 9 (go_big_quiet_step (rfl))
       refine Em rfl _ rfl _ rfl ?_;simp only[aG,aA,aB,aC]
       iterate 3 (go_big_quiet_step (rfl))
       refine Em rfl _ rfl _ rfl ?_;simp only[aG,aA,aB,aC]
       iterate 7 (go_big_quiet_step (rfl))
       refine Em rfl _ rfl _ rfl ?_;simp only[aG,aA,aB,aC];go_big_quiet_step (rfl);refine WL rfl _ rfl g (k*36+4) rfl cur _ _ (AC y.cube.1) (AC y.cube.2) (AV _) (AV _) (Ap K1.out) HC1.out ?_;simp only[aG,aA,aB,aC];refine U1 rfl _ rfl w.heap.size rfl H HH.out HHl ?_;simp only[aG,aA,aB,aC];go_big_quiet_want;go_big_quiet_op;refine⟨_,fun u=>Calls.later_of (hcall u.world),?_⟩;go_big_quiet_on;go_big_quiet_step (rfl);refine wpQuiet_nil ?_;rintro w' ⟨u,rfl⟩;go_wp2_with fail;go_roundw
       case rel=>exact⟨k+1,by omega,by go_num,.inr ⟨j,x,rfl,HXJ.out,Mq HF.out HY.out HMM.out⟩,Ap HH.out _ ⟨u,rfl⟩,BL HB.out HB.out.size u.below⟩
       case measure=>simp[intOf];omega
     ·have hld:decide (yo<xo)=false:=decide_eq_false hlo;have HLO:Hid (¬y.order<x.order):=by show¬_<_;rw[←HYQ.out, ←HXO.out];exact hlo
      clear hlo HM;go_wp2_with fail;refine BE (by kernel_rfl) (by kernel_rfl) ?_;go_big_quiet_step (rfl);refine Em rfl _ rfl _ rfl ?_;simp only[aG,aA,aB,aC]
      iterate 9 (go_big_quiet_step (rfl))
      refine Em rfl _ rfl _ rfl ?_;simp only[aG,aA,aB,aC]
      iterate 3 (go_big_quiet_step (rfl))
      refine Em rfl _ rfl _ rfl ?_;simp only[aG,aA,aB,aC]
      iterate 13 (go_big_quiet_step (rfl))
      refine wpQuiet_nil ?_;rintro w' ⟨u,rfl⟩;go_wp2_with fail;go_roundw
      case rel=>exact⟨k+1,by omega,by go_num,.inr ⟨j,x,rfl,HXJ.out,To HF.out HXJ.out HY.out (by have:=HLO.out;omega)⟩,Ap HH.out _ ⟨u,rfl⟩,BL HB.out HB.out.size u.below⟩
      case measure=>simp[intOf];omega
   ·have hed:(ye==e)=false:=by simpa using he
    have HNM:Hid (E7 Er e H y=false):=by show _=_;rw[HM.out, ←HYE.out];simp[he]
    clear HM he;go_wp2_with fail;refine BE (by kernel_rfl) (by kernel_rfl) ?_;go_big_quiet_step (rfl);refine Em rfl _ rfl _ rfl ?_;simp only[aG,aA,aB,aC]
    iterate 27 (go_big_quiet_step (rfl))
    refine wpQuiet_nil ?_;rintro w' ⟨u,rfl⟩
    have HS2:Hid (TO (E7 Er e H) g C (k+1) u7):=by
     rcases HS.out with ⟨e1,hf⟩ | ⟨j,x,e1,hxj,hf⟩
     ·exact .inl ⟨e1,Mq hf HY.out HNM.out⟩
     ·exact .inr ⟨j,x,e1,hxj,Mq hf HY.out HNM.out⟩
    go_wp2_with fail;go_roundw
    case rel=>exact⟨k+1,by omega,by go_num,HS2.out,Ap HH.out _ ⟨u,rfl⟩,BL HB.out HB.out.size u.below⟩
    case measure=>simp[intOf];omega
  ·have hlt':¬(k:Int)<(n:Int):=by omega
   obtain rfl:k=n:=by omega
   go_wp2_with fail;go_ret;exact⟨⟨_,rfl,HE.out _ HS.out⟩,HB.out⟩
def IY(m:Ai→Bool)(vb:Value)(C:List Ai):Value:=match Bc m (·.order) C with
 | none=> .pointer none
 | some r=> .pointer (some ⟨vb.ownBlock.getD 0,r.1.length*36,none⟩)
theorem Afd(B:Nat)(C:List Ai)(v:Value)(w:World)(hsl:Au B w v C)(e:Int)(H:List Int)(hH:AK H)(hok:∀x∈C,GK x.cube):
  Calls aD 190 #[v,.int .i64 e,.agg (hv H)] w fun r w'=>r=.returned (IY (E7 Er e H) v C)∧Below w.heap.size w w':=by
 obtain⟨h1,⟨rfl,h2⟩ | ⟨g,cap,cur,rfl,hB,hcur,h3,h4,h5,h6⟩⟩:=hsl
 ·have hC:C=[]:=List.eq_nil_of_length_eq_zero h2;subst hC;exact Afc w e H
 ·refine(Ab5 g C.length cap C w cur rfl hcur h3 h4 h6 e H hH hok).mono ?_;rintro r w' ⟨⟨p,rfl,hp⟩,hb⟩;refine⟨?_,hb⟩;unfold IY;rcases hp with ⟨rfl,h⟩ | ⟨i,x,rfl,hi,hx,h⟩
  ·rw[h]
  ·rw[h];simp only[Value.ownBlock,Option.getD_some,List.length_take];rw[Nat.min_eq_left (by omega)]
theorem MX{m:Ai→Bool}{k k':Ai→Int}:∀ {C:List Ai},(∀y∈C,k y=k' y)→Bc m k C=Bc m k' C
 | [],_=>rfl
 | x::l,h=>by
  have ih:=MX (m:=m) (k:=k) (k':=k') (C:=l) fun y hy=>h y (aX _ hy)
  unfold Bc
  rw[ih]
  cases hl:Bc m k' l with
  | none=>rfl
  | some r=>
   obtain⟨A,y,D⟩:=r
   have hy:y∈l:=by rw[(Ez hl).1];simp
   simp only
   rw[h x (by simp),h y (aX _ hy)]
def JF(S:Aq)(m:Ai→Bool)(v1 v2 v3:Value):Value:=match J6 S m with
 | none=> .pointer none
 | some (b,A,_,_)=> .pointer (some ⟨(Cj v1 v2 v3 b).ownBlock.getD 0,A.length*36,none⟩)
theorem Abu{S:Aq}{m:Ai→Bool}{v1 v2 v3:Value}(hz:∀x∈S.c,x.order=0)(k:Nat)(hk:k<4)(hn:∀b,b<k→Bc m (·.order) (Bv S b)=none)(hp:IY m (Cj v1 v2 v3 k) (Bv S k)≠ .pointer none):JF S m v1 v2 v3=IY m (Cj v1 v2 v3 k) (Bv S k):=by
 have e1:Bc m (fun _=>0) S.c=Bc m (·.order) S.c:=(MX fun y hy=>hz y hy).symm;unfold JF J6;unfold IY at hp ⊢;rw[e1];rcases(show k=0∨k=1∨k=2∨k=3 by omega) with rfl | rfl | rfl | rfl
 ·exact absurd rfl hp
 ·have:Bv S 1=S.c:=rfl;rw[this] at hp ⊢
  cases h:Bc m (·.order) S.c with
  | none=>rw[h] at hp;exact absurd rfl hp
  | some r=>rfl
 ·have h1:Bc m (·.order) S.c=none:=hn 1 (by omega);have:Bv S 2=S.a:=rfl;rw[this] at hp ⊢;rw[h1]
  cases h:Bc m (·.order) S.a with
  | none=>rw[h] at hp;exact absurd rfl hp
  | some r=>rfl
 ·have h1:Bc m (·.order) S.c=none:=hn 1 (by omega);have h2:Bc m (·.order) S.a=none:=hn 2 (by omega);have:Bv S 3=S.p:=rfl;rw[this] at hp ⊢;rw[h1,h2]
  cases h:Bc m (·.order) S.p with
  | none=>rw[h] at hp;exact absurd rfl hp
  | some r=>rfl
theorem Abv{S:Aq}{m:Ai→Bool}{v1 v2 v3:Value}(hz:∀x∈S.c,x.order=0)(hn:∀b,b<4→Bc m (·.order) (Bv S b)=none):JF S m v1 v2 v3=.pointer none:=by
 have e1:Bc m (fun _=>0) S.c=Bc m (·.order) S.c:=(MX fun y hy=>hz y hy).symm;unfold JF J6;have h1:Bc m (·.order) S.c=none:=hn 1 (by omega);have h2:Bc m (·.order) S.a=none:=hn 2 (by omega);have h3:Bc m (·.order) S.p=none:=hn 3 (by omega);rw[e1,h1,h2,h3];rfl
theorem Aeh{m:Ai→Bool}{vb:Value}{C:List Ai}(h:IY m vb C=.pointer none):Bc m (·.order) C=none:=by
 unfold IY at h
 cases hl:Bc m (·.order) C with
 | none=>rfl
 | some r=>rw[hl] at h;simp at h
theorem Aeg{m:Ai→Bool}{vb:Value}{C:List Ai}(h:IY m vb C≠ .pointer none):∃a,IY m vb C=.pointer (some a):=by
 unfold IY at h ⊢
 cases hl:Bc m (·.order) C with
 | none=>rw[hl] at h;exact absurd rfl h
 | some r=>exact⟨_,rfl⟩
theorem Ajx(B:Nat)(w:World)(g:Nat)(R:Rm)(S:Aq)(v1 v2 v3:Value)(h:Cw B w g R S v1 v2 v3)(e:Int)(H:List Int)(hH:AK H)(hz:∀x∈S.c,x.order=0)(hok:∀b,∀x∈Bv S b,GK x.cube):
  Calls aD 161 #[.pointer (some ⟨g,0,none⟩),.int .i64 e,.agg (hv H)] w fun r w'=>r=.returned (JF S (E7 Er e H) v1 v2 v3)∧Below w.heap.size w w':=by
 have HHl:=hH.1;have HT:Hid (∀wr,Below w.heap.size w wr→Cw B wr g R S v1 v2 v3):=fun wr hb=>h.below hb;have HL:Hid (∀b W,Cw B W g R S v1 v2 v3→Calls aD 190 #[Cj v1 v2 v3 b,.int .i64 e,.agg (hv H)] W fun r w'=>r=.returned (IY (E7 Er e H) (Cj v1 v2 v3 b) (Bv S b))∧Below W.heap.size W w'):=fun b W hW=>Afd B _ _ W (hW.bank b) e H hH (hok b);have HS1:Hid (∀k:Nat,k<4→(∀b,b<k→Bc (E7 Er e H) (·.order) (Bv S b)=none)→IY (E7 Er e H) (Cj v1 v2 v3 k) (Bv S k)≠ .pointer none→JF S (E7 Er e H) v1 v2 v3=IY (E7 Er e H) (Cj v1 v2 v3 k) (Bv S k)):=fun k hk hn hp=>Abu hz k hk hn hp;have HS2:Hid ((∀b,b<4→Bc (E7 Er e H) (·.order) (Bv S b)=none)→JF S (E7 Er e H) v1 v2 v3=.pointer none):=fun hn=>Abv hz hn;clear h hH hz hok;go_enter Tryz.func161,Tryz.ntmps161;go_wp2_with fail;go_loopw [11] (fun i wr=> ∃k:Nat,k≤4∧i=.int .i64 (k:Int)∧Hid (∀b,b<k→Bc (E7 Er e H) (·.order) (Bv S b)=none)∧Hid (wr.heap[w.heap.size]?=some (.cells (hv H) 35 (0,0)))∧Hid (Below w.heap.size w wr)) (fun i _=>4-(intOf i).toNat)
 case atStart=>exact⟨0,bD _,rfl,fun b hb=>by omega,Ab _ _ _ rfl,(aL _ _).alloc (aJ _) _⟩
 case round=>
  obtain⟨k,hk,rfl,HP,HH,HB⟩:=hrel;by_cases hlt:k<4
  ·have hlt':(k:Int)<4:=by omega
   have T1:Hid (Cw B wr g R S v1 v2 v3):=HT.out wr HB.out;have d1:∀u:Am wr,u.world.cell? ⟨g,4+k,none⟩=some (Cj v1 v2 v3 k):=fun u=>(T1.out.below u.below).f.bankCell k hlt;have CL:Hid (∀u:Am wr,Calls aD 190 #[Cj v1 v2 v3 k,.int .i64 e,.agg (hv H)] u.world fun r w'=>r=.returned (IY (E7 Er e H) (Cj v1 v2 v3 k) (Bv S k))∧Below u.world.heap.size u.world w'):=fun u=>HL.out k _ (T1.out.below u.below);have ne1:=Am.ne wr;have Q1:=HS1.out k hlt HP.out;have Q2:IY (E7 Er e H) (Cj v1 v2 v3 k) (Bv S k)=.pointer none→Bc (E7 Er e H) (·.order) (Bv S k)=none:=Aeh;have Q3:IY (E7 Er e H) (Cj v1 v2 v3 k) (Bv S k)≠ .pointer none→∃a,IY (E7 Er e H) (Cj v1 v2 v3 k) (Bv S k)=.pointer (some a):=Aeg;obtain⟨pv,hpv⟩:=eX (IY (E7 Er e H) (Cj v1 v2 v3 k) (Bv S k));rw[←hpv] at CL Q1 Q2 Q3;obtain⟨vb,hvb⟩:=eX (Cj v1 v2 v3 k);rw[←hvb] at CL d1;clear hpv hvb;by_cases hnil:pv=.pointer none
   ·have HQ:Hid (Bc (E7 Er e H) (·.order) (Bv S k)=none):=Q2 hnil;subst hnil;clear Q1 Q2 Q3;go_wp2_with fail;refine rL ?_;go_big_quiet_step (rfl);go_big_quiet_step (rfl);refine Em rfl _ rfl _ rfl ?_;simp only[pU]
    iterate 4 (go_big_quiet_step (rfl))
    refine U1 rfl _ rfl w.heap.size rfl H HH.out HHl ?_;simp only[pU];go_big_quiet_want;go_big_quiet_op;refine⟨_,fun u=>Calls.later_of (CL.out u),?_⟩;go_big_quiet_on;go_big_quiet_step (rfl);refine wpQuiet_nil ?_;rintro w' ⟨u,rfl⟩;go_wp2_with fail;go_roundw
    case rel=>
     refine⟨k+1,by omega,by go_num,fun b hb=> ?_,Ap HH.out _ ⟨u,rfl⟩,BL HB.out HB.out.size u.below⟩;by_cases hbk:b=k
     ·subst hbk;exact HQ.out
     ·exact HP.out b (by omega)
    case measure=>simp[intOf];omega
   ·have HQ:Hid (JF S (E7 Er e H) v1 v2 v3=pv):=Q1 hnil;obtain⟨a,rfl⟩:=Q3 hnil;clear Q1 Q2 Q3 hnil;go_wp2_with fail;refine rL ?_;go_big_quiet_step (rfl);go_big_quiet_step (rfl);refine Em rfl _ rfl _ rfl ?_;simp only[pU]
    iterate 4 (go_big_quiet_step (rfl))
    refine U1 rfl _ rfl w.heap.size rfl H HH.out HHl ?_;simp only[pU];go_big_quiet_want;go_big_quiet_op;refine⟨_,fun u=>Calls.later_of (CL.out u),?_⟩;go_big_quiet_on;go_big_quiet_step (rfl);refine wpQuiet_nil ?_;rintro w' ⟨u,rfl⟩;go_wp2_with fail;go_ret;exact⟨by rw[HQ.out];rfl,BL HB.out HB.out.size u.below⟩
  ·have hlt':¬(k:Int)<4:=by omega
   have HK:Hid (k=4):=by show _=_;omega
   go_wp2_with fail;go_ret;exact⟨by rw[HS2.out (fun b hb=>HP.out b (by have:=HK.out;omega))];rfl,HB.out⟩
theorem Anl{S:Aq}{m:Ai→Bool}{b:Nat}{A D:List Ai}{x:Ai}(h:J6 S m=some (b,A,x,D)):(b=1∨b=2∨b=3)∧Bv S b=A++x::D:=by
 rcases JY S m with ⟨A',x',D',h1,e⟩ | ⟨_,A',x',D',h1,e⟩ | ⟨_,_,A',x',D',h1,e⟩ | ⟨_,_,_,e⟩
 ·rw[h] at e;simp only[aH,Prod.mk.injEq] at e;obtain⟨rfl,rfl,rfl,rfl⟩:=e;exact⟨.inl rfl,h1.1⟩
 ·rw[h] at e;simp only[aH,Prod.mk.injEq] at e;obtain⟨rfl,rfl,rfl,rfl⟩:=e;exact⟨.inr (.inl rfl),h1.1⟩
 ·rw[h] at e;simp only[aH,Prod.mk.injEq] at e;obtain⟨rfl,rfl,rfl,rfl⟩:=e;exact⟨.inr (.inr rfl),h1.1⟩
 ·rw[h] at e;cases e
theorem Au.slot{B:Nat}{w:World}{v:Value}{C A D:List Ai}{x:Ai}(h:Au B w v C)(hC:C=A++x::D):∃gb n cap,v=.slice (some ⟨gb,0,none⟩) n cap∧v.ownBlock=some gb∧∀W:World,W.heap[gb]?=w.heap[gb]?→(loadVar 102 ⟨gb,A.length*36,none⟩).run aD W=.ok (.agg (Ac x)) W∧NR W gb (A.length*36) x∧∀k,W.frozen? ⟨gb,k,none⟩=false:=by
 have hk:C[A.length]?=some x:=by rw[hC];simp
 obtain⟨h1,⟨e,h0⟩ | ⟨gb,cap,cur,e,hB,hcur,h3,h4,h5,h6⟩⟩:=h
 ·rw[hC] at h0;simp at h0
 ·refine⟨gb,_,cap,e,by rw[e];rfl,fun W hW=> ?_⟩;have hg:=hW.trans hcur;exact⟨JX hg (WD hcur h6 _ x hk),GU hg (WD hcur h6 _ x hk),fun k=>by simp[World.frozen?,hg]⟩
theorem Ajw{enc:Ai→List Value}{q:Nat}(hq:∀c,(enc c).length=q){A D:List Ai}{x y:Ai}{j:Nat}(hj:j<q){u:Value}(hy:enc y=(enc x).set j u):((A++x::D).flatMap enc).set (A.length*q+j) u=(A++y::D).flatMap enc:=by
 have gl:(A.flatMap enc).length=A.length*q:=by
  induction A with
  | nil=>simp
  | cons c A ih=>rw[aO,List.length_append,ih,hq,List.length_cons,Nat.add_mul,Nat.one_mul,Nat.add_comm]
 rw[aZ,aO,aZ,aO,aW _ _ (by omega),gl,aT,List.set_append_left _ _ (by rw[hq];exact hj),hy]
theorem Adq(x:Ai)(j:Nat)(u:Value)(y:Ai)(h:Ac y=(Ac x).setIfInBounds j u):(Ac y).toList=(Ac x).toList.set j u:=by rw[h,aI]
theorem Uv(P T:Array Value)(n j:Nat)(u:Value)(h:n=P.size+j):(P++T).setIfInBounds n u=P++T.setIfInBounds j u:=by
 subst h;apply Array.ext';rw[aI,bA,bA,aI,aW _ _ (by rw[aM];omega),aM,aT]
theorem Q7(x:Ai)(c:Int):Ac {x with count:=c}=(Ac x).setIfInBounds 35 (.int .i64 c):=by
 unfold Ac;rw[Uv _ _ 35 5 _ (by rw[bC,Bq _ _ (AV _) (AV _)];rfl)];rfl
theorem SB(x:Ai)(c:Int):Ac {x with used:=c}=(Ac x).setIfInBounds 34 (.int .i64 c):=by
 unfold Ac;rw[Uv _ _ 34 4 _ (by rw[bC,Bq _ _ (AV _) (AV _)];rfl)];rfl
theorem Au.field{B:Nat}{w:World}{gb n cap:Nat}{C A D:List Ai}{x y:Ai}{j:Nat}{u:Value}(h:Au B w (.slice (some ⟨gb,0,none⟩) n cap) C)(hC:C=A++x::D)(hj:j<36)(hy:Ac y=(Ac x).setIfInBounds j u):
  Au B (w.setCell ⟨gb,A.length*36+j,none⟩ u) (.slice (some ⟨gb,0,none⟩) n cap) (A++y::D)∧As (Cq gb) w (w.setCell ⟨gb,A.length*36+j,none⟩ u):=by
 have hl:n=C.length:=by
  obtain⟨o,cap',e,_⟩:=h.slice;simp only[aP] at e;exact e.2.1
 subst hl;obtain⟨h1,h2⟩:=World.ownsRow.stored h (A.length*36+j) u;refine⟨?_,As.of_grown h2 fun k e=>by simp only[aH] at e;exact e.symm⟩;have e1:(A++y::D).length=C.length:=by rw[hC];simp
 unfold Au;rw[e1]
 have e2:BC Ac (A++y::D)=(BC Ac C).set (A.length*36+j) u:=by
  rw[hC];exact(Ajw (enc:=fun c=>(Ac c).toList) (q:=36) (fun c=>by rw[aM,Bl]) hj (Adq x j u y hy)).symm
 rw[e2];exact h1
theorem Cw.row{B:Nat}{w w':World}{g:Nat}{R:Rm}{S:Aq}{v1 v2 v3:Value}(h:Cw B w g R S v1 v2 v3)(b:Nat)(hb:b=1∨b=2∨b=3)(l:List Ai)(hk:As (BT (Cj v1 v2 v3 b)) w w')(hu:Au B w' (Cj v1 v2 v3 b) l):Di B w w' g R (Lo S b l) v1 v2 v3:=by
 have hgx:¬BT (Cj v1 v2 v3 b) g:=(h.bank b).ty h.blk (by decide);have hbk:=hk.heap h.blk hgx
 have hKf:As (Eg g v1 v2 v3) w w':=by
  refine hk.mono fun k _ e=> ?_;rcases hb with rfl | rfl | rfl
  ·exact .inr (.inl e)
  ·exact .inr (.inr (.inl e))
  ·exact .inr (.inr (.inr e))
 rcases hb with rfl | rfl | rfl
 ·exact⟨v1,v2,v3,⟨hbk,hu,h.o2.kept hk fun k e e'=>h.a12.ne k e' e,h.o3.kept hk fun k e e'=>h.a13.ne k e' e,h.a12,h.a13,h.a23,h.hB⟩,hKf,fun k hk=> .inl hk⟩
 ·exact⟨v1,v2,v3,⟨hbk,h.o1.kept hk fun k e e'=>h.a12.ne k e e',hu,h.o3.kept hk fun k e e'=>h.a23.ne k e' e,h.a12,h.a13,h.a23,h.hB⟩,hKf,fun k hk=> .inl hk⟩
 ·exact⟨v1,v2,v3,⟨hbk,h.o1.kept hk fun k e e'=>h.a13.ne k e e',h.o2.kept hk fun k e e'=>h.a23.ne k e e',hu,h.a12,h.a13,h.a23,h.hB⟩,hKf,fun k hk=> .inl hk⟩
theorem Acl{w W:World}{X:Nat→Prop}(h:As X w W)(hX:∀k,X k→w.heap.size≤k):Below w.heap.size w W:=h.below hX (aJ _)
theorem Ab3(B:Nat)(w:World)(g:Nat)(R:Rm)(S:Aq)(v1 v2 v3:Value)(h:Cw B w g R S v1 v2 v3)(now e:Int)(H:List Int)(hH:AK H)(hz:∀x∈S.c,x.order=0)(hok:∀b,∀x∈Bv S b,GK x.cube∧x.bank=(b:Int)∧0≤x.count∧x.count≤Gu):
  Calls aD 129 #[.pointer (some ⟨g,0,none⟩),.int .i64 now,.int .i64 e,.agg (hv H)] w fun r w'=>r=.returned (.tuple #[.agg (Ac (DG S (E7 Er e H) now).2.1),.bool (DG S (E7 Er e H) now).2.2])∧Di B w w' g R (DG S (E7 Er e H) now).1 v1 v2 v3:=by
 have HHl:=hH.1
 have FI:Hid (∀W,Below w.heap.size w W→Calls aD 161 #[.pointer (some ⟨g,0,none⟩),.int .i64 e,.agg (hv H)] W fun r w'=>r=.returned (JF S (E7 Er e H) v1 v2 v3)∧Below W.heap.size W w'):=by
  intro W hb;exact Ajx B W g R S v1 v2 v3 (h.below hb) e H hH hz fun b x hx=>(hok b x hx).1
 have TI:Hid (∀W,Calls aD 107 #[.int .i64 now] W fun r w'=>r=.returned (.int .i64 (BR now))∧w'=W):=PP now;have B0:Hid (Below w.heap.size w ((w.alloc (.cells (hv H) 35)).alloc (.cells (Ac AJ) 102))):=((aL _ _).alloc (aJ _) _).alloc (by simp) _;have H0:Hid (((w.alloc (.cells (hv H) 35)).alloc (.cells (Ac AJ) 102)).heap[w.heap.size]?=some (.cells (hv H) 35 (0,0))):=Ah _ _ _ _ (Ab _ _ _ rfl);have Z0:Hid (((w.alloc (.cells (hv H) 35)).alloc (.cells (Ac AJ) 102)).heap[w.heap.size+1]?=some (.cells (Ac AJ) 102 (0,0))):=Ab _ _ _ (by simp)
 cases hf:J6 S (E7 Er e H) with
 | none=>
  have e1:JF S (E7 Er e H) v1 v2 v3=.pointer none:=by unfold JF;rw[hf]
  have e2:Hid (DG S (E7 Er e H) now=(S,AJ,false)):=by show _=_;unfold DG;rw[hf]
  have FT:Hid (∀w4,Below w.heap.size w w4→Di B w w4 g R S v1 v2 v3):=by
   intro w4 hb;exact⟨v1,v2,v3,h.below hb,As.of_below hb,fun k hk=> .inl hk⟩
  rw[e1] at FI;clear h hz hok hH hf e1;go_enter Tryz.func129,Tryz.ntmps129;go_wp2_with (first|((with_reducible refine Jx rfl ?_);refine Ev rfl rfl ?_;try rw[Bf])|((with_reducible refine Akz _ rfl ?_);refine UG rfl _ rfl w.heap.size rfl H H0.out HHl ?_)|(go_at_call 161;refine(FI.out _ B0.out).mono ?_;rintro r w1 ⟨rfl,hb1⟩;have B1:Hid (Below w.heap.size w w1):=BL B0.out B0.out.size hb1;have Z1:Hid (w1.heap[w.heap.size+1]?=some (.cells (Ac AJ) 102 (0,0))):=(hb1.block _ (by simp)).trans Z0.out;clear hb1;refine D9 ?_));unfold Gk;go_wp2_with (first|((with_reducible refine VY rfl ?_);refine Nm rfl rfl ?_)|((with_reducible refine Ff _ _ rfl ?_);refine Ck rfl _ _ rfl (w.heap.size+1) AJ AJ rfl rfl Z1.out _ rfl ?_));refine QI (p:=8) (q:=9) rfl rfl (w.heap.size+1) rfl AJ (setRow_heap _ _ _ _ _ _ Z1.out) _ rfl ?_;rw[e2.out];exact⟨rfl,FT.out _ (Aj B1.out (by omega) _)⟩
 | some r=>
  obtain⟨b,A,x,D⟩:=r;obtain⟨hb3,hC⟩:=Anl hf;obtain⟨gb,n,cap,ev,eo,hl⟩:=(h.bank b).slot hC;obtain⟨_,hxb,hc0,hc1⟩:=hok b x (by rw[hC];simp);have e1:JF S (E7 Er e H) v1 v2 v3=.pointer (some ⟨gb,A.length*36,none⟩):=by unfold JF;rw[hf];simp only[eo,Option.getD_some]
  have e2:Hid (DG S (E7 Er e H) now=(Lo S b (A++Hz now b x::D),Hz now b x,true)):=by show _=_;unfold DG;rw[hf]
  have hgb:gb<w.heap.size:=((h.bank b).lt gb eo).2
  have HCN:Hid ((Hz now b x).count=min (x.count+1) 1099511627776):=by
   show(if x.count<Gu then x.count+1 else x.count)=_;unfold Gu at hc1 ⊢;split <;> omega
  obtain⟨cn,hcn⟩:=eX (min (x.count+1) 1099511627776)
  have LD:Hid (∀W,Below w.heap.size w W→NR W gb (A.length*36) x∧(∀k,W.frozen? ⟨gb,k,none⟩=false)∧Au B W (.slice (some ⟨gb,0,none⟩) n cap) (A++x::D)):=by
   intro W hb;obtain⟨q1,q2,q3⟩:=hl W (hb.block gb hgb);refine⟨q2,q3,?_⟩;have:=(h.below hb).bank b;rw[hC,ev] at this;exact this
  have FT:Hid (∀w1 w4,Below w.heap.size w w1→w.heap.size+1<w1.heap.size→As (Cq gb) w1 w4→Au B w4 (.slice (some ⟨gb,0,none⟩) n cap) (A++Hz now b x::D)→Di B w (w4.setRow (w.heap.size+1) (Ac (Hz now b x))) g R (Lo S b (A++Hz now b x::D)) v1 v2 v3):=by
   intro w1 w4 hb hlt hk hs;have key:∀k,Cq gb k↔BT (Cj v1 v2 v3 b) k:=fun k=>by unfold Cq BT;rw[eo];simp only[aH];exact⟨fun e=>e.symm,fun e=>e.symm⟩
   have ht:=(h.below hb).row b hb3 (A++Hz now b x::D) (hk.mono fun k _ e=>(key k).1 e) (by rw[ev];exact hs);exact ht.loc h hb (IT _ _ _) fun k e=>by unfold Cq at e;omega
  rw[e1] at FI;clear h hz hok hH hf e1 hl hC ev eo;obtain⟨off,hoff⟩:=eX (A.length*36);have HOFF:Hid _:=hoff;rw[←hoff] at FI LD;clear hoff;have hx1:x.count≤1099511627776:=hc1
  have HU:Hid (∀W,Below w.heap.size w W→NR W gb off x∧(∀k,W.frozen? ⟨gb,k,none⟩=false)∧NR (W.setCell ⟨gb,off+35,none⟩ (.int .i64 (min (x.count+1) 1099511627776))) gb off {x with count:=min (x.count+1) 1099511627776}∧(∀k,(W.setCell ⟨gb,off+35,none⟩ (.int .i64 (min (x.count+1) 1099511627776))).frozen? ⟨gb,k,none⟩=false)∧(loadVar 102 ⟨gb,off,none⟩).run aD (W.setCell ⟨gb,off+35,none⟩ (.int .i64 (min (x.count+1) 1099511627776)))=.ok (.agg (Ac {x with count:=min (x.count+1) 1099511627776})) (W.setCell ⟨gb,off+35,none⟩ (.int .i64 (min (x.count+1) 1099511627776)))∧Au B (W.setCell ⟨gb,off+35,none⟩ (.int .i64 (min (x.count+1) 1099511627776))) (.slice (some ⟨gb,0,none⟩) n cap) (A++{x with count:=min (x.count+1) 1099511627776}::D)∧As (Cq gb) W (W.setCell ⟨gb,off+35,none⟩ (.int .i64 (min (x.count+1) 1099511627776)))∧(loadVar 102 ⟨gb,off,none⟩).run aD ((W.setCell ⟨gb,off+35,none⟩ (.int .i64 (min (x.count+1) 1099511627776))).setCell ⟨gb,off+34,none⟩ (.int .i64 (BR now)))=.ok (.agg (Ac {x with count:=min (x.count+1) 1099511627776,used:=BR now})) ((W.setCell ⟨gb,off+35,none⟩ (.int .i64 (min (x.count+1) 1099511627776))).setCell ⟨gb,off+34,none⟩ (.int .i64 (BR now)))∧Au B ((W.setCell ⟨gb,off+35,none⟩ (.int .i64 (min (x.count+1) 1099511627776))).setCell ⟨gb,off+34,none⟩ (.int .i64 (BR now))) (.slice (some ⟨gb,0,none⟩) n cap) (A++{x with count:=min (x.count+1) 1099511627776,used:=BR now}::D)∧As (Cq gb) W ((W.setCell ⟨gb,off+35,none⟩ (.int .i64 (min (x.count+1) 1099511627776))).setCell ⟨gb,off+34,none⟩ (.int .i64 (BR now)))):=by
   intro W hb;obtain⟨q1,q2,q3⟩:=LD.out W hb;have ho:=HOFF.out;rw[ho] at q1 ⊢;obtain⟨r1,r2⟩:=q3.field rfl (by decide) (Q7 x (min (x.count+1) 1099511627776));obtain⟨g2,n2,cap2,ev2,_,hl2⟩:=r1.slot rfl;simp only[aP,aH,Addr.mk.injEq,and_true] at ev2;obtain⟨rfl,_⟩:=ev2;obtain⟨s1,s2,s3⟩:=hl2 _ rfl;obtain⟨t1,t2⟩:=r1.field (y:={x with count:=min (x.count+1) 1099511627776,used:=BR now}) rfl (by decide) (SB {x with count:=min (x.count+1) 1099511627776} (BR now));obtain⟨g3,n3,cap3,ev3,_,hl3⟩:=t1.slot rfl;simp only[aP,aH,Addr.mk.injEq,and_true] at ev3;obtain⟨rfl,_⟩:=ev3;obtain⟨p1,p2,p3⟩:=hl3 _ rfl;exact⟨q1,q2,s2,s3,s1,r1,r2,p1,t1,r2.trans t2 fun k hk=> .inl hk⟩
  have USE:Hid (Hz now b x=if b=1 then {x with count:=min (x.count+1) 1099511627776,used:=BR now} else {x with count:=min (x.count+1) 1099511627776}):=by
   show _=_;have hcn':=HCN.out;have e3:(if x.count<Gu then x.count+1 else x.count)=min (x.count+1) 1099511627776:=hcn';unfold Hz;rw[e3];by_cases h1:b=1
   ·rw[if_pos h1,if_pos h1]
   ·rw[if_neg h1,if_neg h1]
  clear LD HCN hcn hc1;go_enter Tryz.func129,Tryz.ntmps129;go_wp2_with (first|((with_reducible refine Jx rfl ?_);refine Ev rfl rfl ?_;try rw[Bf])|((with_reducible refine Akz _ rfl ?_);refine UG rfl _ rfl w.heap.size rfl H H0.out HHl ?_)|(go_at_call 161;refine(FI.out _ B0.out).mono ?_;rintro r w1 ⟨rfl,hb1⟩;have B1:Hid (Below w.heap.size w w1):=BL B0.out B0.out.size hb1;have SZ1:Hid (w.heap.size+1<w1.heap.size):=(by have h1:=hb1.size;show _<_;simp at h1;omega);have Z1:Hid (w1.heap[w.heap.size+1]?=some (.cells (Ac AJ) 102 (0,0))):=(hb1.block _ (by simp)).trans Z0.out;clear hb1;refine D9 ?_));unfold Gk;obtain⟨q1,q2,s2,s3,s1,r1,r2,p1,t1,t2⟩:=HU.out w1 B1.out;have c35:=q1.c35;have f35:=q2 (off+35);have c0:=s2.c0;have c34:=s2.c34;have f34:=s3 (off+34);have S1:Hid _:=s1;have R1:Hid _:=r1;have R2:Hid _:=r2;have P1:Hid _:=p1;have T1:Hid _:=t1;have T2:Hid _:=t2;have NG:Hid (gb≠w.heap.size+1):=by show _≠_;omega
  clear q1 q2 s2 s3 s1 r1 r2 p1 t1 t2 HU;simp only at c0 c34;by_cases hb1:b=1
  ·have hxb1:x.bank=1:=by rw[hxb,hb1];rfl
   have Z2:Hid (((w1.setCell ⟨gb,off+35,none⟩ (.int .i64 (min (x.count+1) 1099511627776))).setCell ⟨gb,off+34,none⟩ (.int .i64 (BR now))).heap[w.heap.size+1]?=some (.cells (Ac AJ) 102 (0,0))):=T2.out.heap Z1.out (fun e=>NG.out (by unfold Cq at e;exact e.symm));have UE:Hid _:=USE.out.trans (if_pos hb1)
   have FX:Hid (Di B w (((w1.setCell ⟨gb,off+35,none⟩ (.int .i64 (min (x.count+1) 1099511627776))).setCell ⟨gb,off+34,none⟩ (.int .i64 (BR now))).setRow (w.heap.size+1) (Ac {x with count:=min (x.count+1) 1099511627776,used:=BR now})) g R (Lo S b (A++{x with count:=min (x.count+1) 1099511627776,used:=BR now}::D)) v1 v2 v3):=by
    have h9:=FT.out w1 _ B1.out SZ1.out T2.out (by rw[UE.out];exact T1.out);rw[UE.out] at h9;exact h9
   rw[hxb1] at c0;clear hb1 hxb USE FT hxb1;go_wp2_with (first|(go_at_call 107;refine(TI.out _).mono ?_;rintro r w2 ⟨rfl,rfl⟩)|((with_reducible refine Hy _ rfl ?_);refine Dy rfl _ rfl gb off rfl {x with count:=min (x.count+1) 1099511627776,used:=BR now} P1.out ?_)|((with_reducible refine Ff _ _ rfl ?_);refine Ck rfl _ _ rfl (w.heap.size+1) {x with count:=min (x.count+1) 1099511627776,used:=BR now} AJ rfl rfl Z2.out _ rfl ?_));refine QI (p:=8) (q:=9) rfl rfl (w.heap.size+1) rfl {x with count:=min (x.count+1) 1099511627776,used:=BR now} (setRow_heap _ _ _ _ _ _ Z2.out) _ rfl ?_;rw[e2.out,UE.out];exact⟨rfl,FX.out⟩
  ·have hxb1:x.bank≠1:=by rw[hxb];omega
   have Z2:Hid ((w1.setCell ⟨gb,off+35,none⟩ (.int .i64 (min (x.count+1) 1099511627776))).heap[w.heap.size+1]?=some (.cells (Ac AJ) 102 (0,0))):=R2.out.heap Z1.out (fun e=>NG.out (by unfold Cq at e;exact e.symm));have UE:Hid _:=USE.out.trans (if_neg hb1)
   have FX:Hid (Di B w ((w1.setCell ⟨gb,off+35,none⟩ (.int .i64 (min (x.count+1) 1099511627776))).setRow (w.heap.size+1) (Ac {x with count:=min (x.count+1) 1099511627776})) g R (Lo S b (A++{x with count:=min (x.count+1) 1099511627776}::D)) v1 v2 v3):=by
    have h9:=FT.out w1 _ B1.out SZ1.out R2.out (by rw[UE.out];exact R1.out);rw[UE.out] at h9;exact h9
   clear hb1 hxb USE FT;go_wp2_with (first|(go_at_call 107;refine(TI.out _).mono ?_;rintro r w2 ⟨rfl,rfl⟩)|((with_reducible refine Hy _ rfl ?_);refine Dy rfl _ rfl gb off rfl {x with count:=min (x.count+1) 1099511627776} S1.out ?_)|((with_reducible refine Ff _ _ rfl ?_);refine Ck rfl _ _ rfl (w.heap.size+1) {x with count:=min (x.count+1) 1099511627776} AJ rfl rfl Z2.out _ rfl ?_));refine QI (p:=8) (q:=9) rfl rfl (w.heap.size+1) rfl {x with count:=min (x.count+1) 1099511627776} (setRow_heap _ _ _ _ _ _ Z2.out) _ rfl ?_;rw[e2.out,UE.out];exact⟨rfl,FX.out⟩
theorem Di.step{B:Nat}{w w1 w2:World}{g:Nat}{R:Rm}{S2:Aq}{v1 v2 v3 u1 u2 u3:Value}(hk:As (Eg g v1 v2 v3) w w1)(hf:∀k,Eg g u1 u2 u3 k→Eg g v1 v2 v3 k∨w.heap.size≤k)(h2:Di B w1 w2 g R S2 u1 u2 u3):Di B w w2 g R S2 v1 v2 v3:=by
 obtain⟨t1,t2,t3,a1,a2,a3⟩:=h2;refine⟨t1,t2,t3,a1,hk.trans a2 hf,fun k hk'=> ?_⟩;rcases a3 k hk' with e | e
 ·exact hf k e
 ·exact .inr (bB hk.size e)
def I9(S:Aq)(a b:Int)(k:Nat):Aq:=⟨if 1<k then S.c.filter (Hf a b) else S.c,if 2<k then S.a.filter (Hf a b) else S.a,if 3<k then S.p.filter (Hf a b) else S.p⟩
def K9(S:Aq)(a b:Int)(k:Nat):Nat:=(if 1<k then (S.c.filter fun x=> !(Hf a b x)).length else 0)+(if 2<k then (S.a.filter fun x=> !(Hf a b x)).length else 0)+(if 3<k then (S.p.filter fun x=> !(Hf a b x)).length else 0)
theorem Ap3(q:Ai→Bool)(C:List Ai):(C.filter fun x=> !(!(q x)))=C.filter q:=by congr 1;funext x;simp
theorem Abb(S:Aq)(a b:Int)(k:Nat)(hk:k<4):RC (I9 S a b k) k ((Bv (I9 S a b k) k).filter fun x=> !(!(Hf a b x)))=I9 S a b (k+1)∧K9 S a b k+((Bv (I9 S a b k) k).filter fun x=> !(Hf a b x)).length=K9 S a b (k+1):=by
 rw[Ap3];rcases(show k=0∨k=1∨k=2∨k=3 by omega) with rfl | rfl | rfl | rfl
 ·exact⟨rfl,rfl⟩
 ·exact⟨rfl,by simp[K9,Bv,I9]⟩
 ·exact⟨rfl,by simp[K9,Bv,I9]⟩
 ·exact⟨rfl,by simp[K9,Bv,I9]⟩
theorem Vb{S:Aq}{a b:Int}{k c:Nat}(h:∀c,(Bv S c).length≤1000000):(Bv (I9 S a b k) c).length≤1000000:=by
 have h1:=h 1;have h2:=h 2;have h3:=h 3;unfold Bv at h1 h2 h3 ⊢;simp only[if_true,if_false,show¬(2:Nat)=1 by decide,show¬(3:Nat)=1 by decide,show¬(3:Nat)=2 by decide] at h1 h2 h3;unfold I9;simp only;have f:∀C:List Ai,(C.filter (Hf a b)).length≤C.length:=fun C=>aK _ _;have f1:=f S.c;have f2:=f S.a;have f3:=f S.p;split
 ·split <;> omega
 ·split
  ·split <;> omega
  ·split
   ·split <;> omega
   ·simp
theorem Cw.boxes{B:Nat}{w:World}{g:Nat}{R:Rm}{S:Aq}{v1 v2 v3:Value}(h:Cw B w g R S v1 v2 v3){q:Nat}{cs:Array Value}{t:TypeId}{fr:Nat×Nat}(hq:w.heap[q]?=some (.cells cs t fr))(h1:t≠102)(h2:t≠155):¬Eg g v1 v2 v3 q:=by
 rintro(rfl | e | e | e)
 ·rw[h.blk] at hq;simp only[aH,Obj.cells.injEq] at hq;exact h2 hq.2.1.symm
 ·exact h.o1.ty hq h1 e
 ·exact h.o2.ty hq h1 e
 ·exact h.o3.ty hq h1 e
theorem NK{g:Nat}{v1 v2 v3:Value}{b k:Nat}(h:BT (Cj v1 v2 v3 b) k):Eg g v1 v2 v3 k:=by
 unfold BT Cj at h;split at h
 ·exact .inr (.inl h)
 ·split at h
  ·exact .inr (.inr (.inl h))
  ·split at h
   ·exact .inr (.inr (.inr h))
   ·cases h
theorem Aj4(B:Nat)(w:World)(g:Nat)(R:Rm)(S:Aq)(v1 v2 v3:Value)(h:Cw B w g R S v1 v2 v3)(a b:Int)(hn:∀c,(Bv S c).length≤1000000):
  Calls aD 174 #[.pointer (some ⟨g,0,none⟩),.int .i64 a,.int .i64 b] w fun e w'=>e=.returned (.int .i64 (K9 S a b 4:Nat))∧Di B w w' g R (JE S a b) v1 v2 v3:=by
 have B0:Hid (Below w.heap.size w ((w.alloc (.cells #[.int .i64 a] 3)).alloc (.cells #[.int .i64 b] 3))):=((aL _ _).alloc (aJ _) _).alloc (by simp) _;have P0:Hid (((w.alloc (.cells #[.int .i64 a] 3)).alloc (.cells #[.int .i64 b] 3)).heap[w.heap.size]?=some (.cells #[.int .i64 a] 3 (0,0))):=Ah _ _ _ _ (Ab _ _ _ rfl);have P1:Hid (((w.alloc (.cells #[.int .i64 a] 3)).alloc (.cells #[.int .i64 b] 3)).heap[w.heap.size+1]?=some (.cells #[.int .i64 b] 3 (0,0))):=Ab _ _ _ (by simp)
 have DR:Hid (∀(k:Nat) (W:World) (u1 u2 u3:Value),k<4→Cw B W g R (I9 S a b k) u1 u2 u3→W.heap[w.heap.size]?=some (.cells #[.int .i64 a] 3 (0,0))→W.heap[w.heap.size+1]?=some (.cells #[.int .i64 b] 3 (0,0))→Calls aD 108 #[.pointer (some ⟨g,0,none⟩),.int .i64 (k:Int),.func (.func 197) #[] #[.pointer (some ⟨w.heap.size,0,none⟩),.pointer (some ⟨w.heap.size+1,0,none⟩)]] W fun e w'=> ∃u,e=.returned u∧(∃o n c,u=.slice o n c∧K9 S a b k+n=K9 S a b (k+1)∧n≤1000000)∧Di B W w' g R (I9 S a b (k+1)) u1 u2 u3∧w'.heap[w.heap.size]?=some (.cells #[.int .i64 a] 3 (0,0))∧w'.heap[w.heap.size+1]?=some (.cells #[.int .i64 b] 3 (0,0))):=by
  intro k W u1 u2 u3 hk hT hp0 hp1;obtain⟨e1,e2⟩:=Abb S a b k hk;have n0:=hT.boxes hp0 (by decide) (by decide);have n1:=hT.boxes hp1 (by decide) (by decide);refine(RX B W g R _ u1 u2 u3 hT k hk (Vb hn) 197 #[.pointer (some ⟨w.heap.size,0,none⟩),.pointer (some ⟨w.heap.size+1,0,none⟩)] (fun x=> !(Hf a b x)) (fun vs W=>by have hf:=Tryz.func197;simp[go_sem]) (fun y W' hW'=> ?_)).mono ?_
  ·exact Afk y a b W' _ _ _ _ (hW'.heap hp0 fun e=>n0 (NK e)) (hW'.heap hp1 fun e=>n1 (NK e))
  ·rintro e w' ⟨u,rfl,hu,ht⟩;obtain⟨o,cap,eu,_⟩:=hu.slice;rw[e1] at ht;obtain⟨t1,t2,t3,a1,a2,a3⟩:=ht;exact⟨u,rfl,⟨o,_,cap,eu,e2,bB (aK _ _) (Vb hn)⟩,⟨t1,t2,t3,a1,a2,a3⟩,a2.heap hp0 n0,a2.heap hp1 n1⟩
 have ST:Hid (∃u1 u2 u3,Cw B ((w.alloc (.cells #[.int .i64 a] 3)).alloc (.cells #[.int .i64 b] 3)) g R (I9 S a b 0) u1 u2 u3∧As (Eg g v1 v2 v3) w ((w.alloc (.cells #[.int .i64 a] 3)).alloc (.cells #[.int .i64 b] 3))∧∀k,Eg g u1 u2 u3 k→Eg g v1 v2 v3 k∨w.heap.size≤k):=⟨v1,v2,v3,h.below B0.out,As.of_below B0.out,fun k hk=> .inl hk⟩;have FE:Hid (I9 S a b 4=JE S a b):=rfl
 have GN:Hid (∀k,K9 S a b k≤3000000):=by
  intro k;have h1:=hn 1;have h2:=hn 2;have h3:=hn 3;have f:∀C:List Ai,(C.filter fun x=> !(Hf a b x)).length≤C.length:=fun C=>aK _ _;have f1:=f S.c;have f2:=f S.a;have f3:=f S.p;unfold Bv at h1 h2 h3;simp only[if_true,if_false,show¬(2:Nat)=1 by decide,show¬(3:Nat)=1 by decide,show¬(3:Nat)=2 by decide] at h1 h2 h3;unfold K9;split <;> split <;> split <;> omega
 clear h hn;go_enter Tryz.func174,Tryz.ntmps174;go_wp2_with fail;go_loopw [7,12] (fun s7 i wr=> ∃k:Nat,k≤4∧i=.int .i64 (k:Int)∧s7=.int .i64 (K9 S a b k:Nat)∧Hid (∃u1 u2 u3,Cw B wr g R (I9 S a b k) u1 u2 u3∧As (Eg g v1 v2 v3) w wr∧∀k,Eg g u1 u2 u3 k→Eg g v1 v2 v3 k∨w.heap.size≤k)∧Hid (wr.heap[w.heap.size]?=some (.cells #[.int .i64 a] 3 (0,0)))∧Hid (wr.heap[w.heap.size+1]?=some (.cells #[.int .i64 b] 3 (0,0)))) (fun _ i _=>4-(intOf i).toNat)
 case atStart=>exact⟨0,bD _,rfl,rfl,ST,P0,P1⟩
 case round=>
  obtain⟨k,hk,rfl,rfl,HS,HP0,HP1⟩:=hrel;by_cases hlt:k<4
  ·have hlt':(k:Int)<4:=by omega
   obtain⟨u1,u2,u3,hT,hK,hF⟩:=HS.out;have hdr:=DR.out k wr u1 u2 u3 hlt hT HP0.out HP1.out;have HK:Hid _:=hK;have HF:Hid _:=hF;have hgn:=GN.out k;clear hT hK hF;go_wp2_with (go_at_call 108;refine hdr.mono ?_;rintro e w1 ⟨u,rfl,⟨o,n,c,rfl,hgk,hnn⟩,ht,hp0,hp1⟩;have HT:Hid _:=ht;have Q0:Hid _:=hp0;have Q1:Hid _:=hp1;have HG:Hid _:=hgk;clear ht hp0 hp1 hgk;refine D9 ?_);unfold Gk;go_wp2_with fail;go_roundw
   case rel=>
    refine⟨k+1,by omega,by go_num,?_,?_,Q0,Q1⟩
    ·rw[←HG.out];go_num
    ·exact Di.step HK.out HF.out HT.out
   case measure=>simp[intOf];omega
  ·have hlt':¬(k:Int)<4:=by omega
   obtain rfl:k=4:=by omega
   have HS2:=HS.out;rw[FE.out] at HS2;have HS3:Hid _:=HS2;clear HS2;go_wp2_with fail;go_ret;exact⟨rfl,HS3.out⟩
end
end Go.Proofs.YtbhkoipcpcoooaaGreat
