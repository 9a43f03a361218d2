import Derived.Test.YtbhkoipcpcoooaaGreatJ3
import Derived.Lib.BitFns
import Derived.Great.BuildSlice
import Derived.Laws.AppendOwn
import Derived.Laws.OwnMore
import Derived.WalkMore
import Derived.Test.YtbhkoipcpcoooaaGreatJ1
namespace Go.Proofs.YtbhkoipcpcoooaaGreat
set_option maxRecDepth 20000
set_option maxHeartbeats 64000000
open Go
open Go.Proofs.Tryz renaming prog → aA
open _root_.Nat renaming le_refl → aB, le_trans → aO
open _root_.Bool renaming and_eq_true → aC, not_eq_true' → aM
open _root_.List renaming getElem?_eq_some_iff → aD, mem_append → aG, mem_of_getElem? → aJ, find?_eq_none → aK, mem_cons → aL, range → aN, all_eq_true → aQ, mem_range → aT, mem_cons_of_mem → aV, all_cons → aW, mem_cons_self → aX, find?_append → aZ, length_cons → bA, not_mem_nil → bB, filter_cons → bC, replicate → bE
open Go.RowKit.Below renaming refl → aH
open Go.Region renaming wanted → aI
open Go.Sem renaming run_bind → aP
section
open Go.RowKit
theorem Ty(i:Int)(w:World)(h0:0≤i)(h1:i<104):
  Calls aA 214 #[.int .i64 i] w fun e w'=>e=.returned (.bool true)∧w'=w:=by
 go_enter Tryz.func214,Tryz.ntmps214;go_wp2;go_ret;exact⟨FH (by simp),rfl⟩
def Gp(L:List Int)(i:Nat)(b:Bool):List Int:=mk fun k=>if k=i then b else bt L k
theorem Gn(L:List Int)(i:Nat)(b:Bool):AK (Gp L i b):=KU _
theorem Og(L:List Int)(i:Nat)(b:Bool)(k:Nat)(hk:k<104):bt (Gp L i b) k=if k=i then b else bt L k:=S8 _ k hk
theorem Adr(L:List Int)(hL:AK L)(i:Nat)(b:Bool)(h:bt L i=b):Gp L i b=L:=
 (Nu L hL _ fun k _=>by
  by_cases e:k=i
  ·rw[if_pos e,e,h]
  ·rw[if_neg e]).symm
theorem Jn(L:List Int)(hL:AK L)(i:Nat)(hi:i<104)(w:World):
  Calls aA 202 #[.agg (hv L),.int .i64 (i:Int)] w fun e w'=>e=.returned (.bool (bt L i))∧Below w.heap.size w w':=by
 have:=Ao2 L hL i w;rwa [MJ L i hi] at this
theorem WJ(L:List Int)(hL:AK L)(i:Nat)(hi:i<104)(w:World):
  Calls aA 162 #[.agg (hv L),.int .i64 (i:Int)] w fun e w'=>e=.returned (.bool (bt L i))∧Below w.heap.size w w':=by
 have:=Ml L hL i w;rwa [MJ L i hi] at this
theorem WA(L:List Int)(hL:AK L)(i:Nat)(hi:i<104)(b:Bool)(w:World):
  Calls aA 170 #[.agg (hv L),.int .i64 (i:Int),.bool b] w fun e w'=>e=.returned (.agg (hv (Gp L i b)))∧Below w.heap.size w w':=by
 have:=Aak L hL i b w (by omega) (by omega);rwa [Am3 L hL i b hi] at this
theorem Ajr(L:List Int)(hL:AK L)(i:Nat)(hi:i<104)(b:Bool)(h:bt L i≠b)(w:World):
  Calls aA 222 #[.agg (hv L),.int .i64 (i:Int)] w fun e w'=>e=.returned (.agg (hv (Gp L i b)))∧Below w.heap.size w w':=by
 have:=Aju L hL i w;rw[Ajv L hL i hi] at this
 rwa [show Gp L i b=mk fun k=>if k=i then !(bt L k) else bt L k from S7 _ _ fun k _=>by
  by_cases e:k=i
  ·rw[if_pos e,if_pos e,e];revert h;cases bt L i <;> cases b <;> simp
  ·rw[if_neg e,if_neg e]]
theorem TZ(L:List Int)(hL:AK L)(i:Nat)(hi:i<104)(b:Bool)(w:World):
  Calls aA 215 #[.agg (hv L),.int .i64 (i:Int),.bool b] w fun e w'=>e=.returned (.agg (hv (Gp L i b)))∧Below w.heap.size w w':=by
 have hl:=hL.1;by_cases h:bt L i=b
 ·rw[Adr L hL i b h]
  have CB:Hid (∀W,Calls aA 202 #[.agg (hv L),.int .i64 (i:Int)] W fun e w'=>e=.returned (.bool b)∧Below W.heap.size W w'):=by
   have:=Jn L hL i hi;rwa [h] at this
  clear h;go_enter Tryz.func215,Tryz.ntmps215;go_wp2_with (refine Ej rfl _ rfl w.heap.size rfl L (Ah _ _ _ _ (Ab _ _ _ rfl)) hl ?_);refine(CB.out _).mono ?_;rintro e w1 ⟨rfl,hb1⟩
  have g1:w1.heap[w.heap.size]?=some (.cells (hv L) 35 (0,0)):=by
   rw[hb1.block _ (by simp;omega)];exact Ah _ _ _ _ (Ab _ _ _ rfl)
  have g2:w1.heap[w.heap.size+1]?=some (.cells Kx 35 (0,0)):=by
   rw[hb1.block _ (by simp)];exact Ab _ _ _ (by simp)
  have hB1:Below w.heap.size w w1:=(((aH _ _).alloc (aB _) _).alloc (by simp) _).trans (hb1.mono (by simp;omega));clear hb1;have hn:(b !=b)=false:=by simp
  go_wp2_with (first
   | (refine Ej rfl _ rfl w.heap.size rfl L g1 hl ?_)
   | (refine Iv rfl _ _ rfl (w.heap.size+1) L rfl rfl _ g2 rfl hl _ rfl ?_))
  refine OP (p:=6) rfl rfl (w.heap.size+1) rfl L hl (setRow_heap _ _ _ _ _ _ g2) ⟨rfl,?_⟩;exact Aj hB1 (by omega) _
 ·have CB:Hid (∀W,Calls aA 202 #[.agg (hv L),.int .i64 (i:Int)] W fun e w'=>e=.returned (.bool (!b))∧Below W.heap.size W w'):=by
   have:=Jn L hL i hi;rwa [show bt L i= !b by revert h;cases bt L i <;> cases b <;> simp] at this
  have CF:Hid (∀W,Calls aA 222 #[.agg (hv L),.int .i64 (i:Int)] W fun e w'=>e=.returned (.agg (hv (Gp L i b)))∧Below W.heap.size W w'):=Ajr L hL i hi b h;have hsl:=(Gn L i b).1;have hn:((!b) !=b)=true:=by cases b <;> rfl
  clear h;go_enter Tryz.func215,Tryz.ntmps215;go_wp2_with (refine Ej rfl _ rfl w.heap.size rfl L (Ah _ _ _ _ (Ab _ _ _ rfl)) hl ?_);refine(CB.out _).mono ?_;rintro e w1 ⟨rfl,hb1⟩
  have g1:w1.heap[w.heap.size]?=some (.cells (hv L) 35 (0,0)):=by
   rw[hb1.block _ (by simp;omega)];exact Ah _ _ _ _ (Ab _ _ _ rfl)
  have g2:w1.heap[w.heap.size+1]?=some (.cells Kx 35 (0,0)):=by
   rw[hb1.block _ (by simp)];exact Ab _ _ _ (by simp)
  have hB1:Below w.heap.size w w1:=(((aH _ _).alloc (aB _) _).alloc (by simp) _).trans (hb1.mono (by simp;omega));have hz1:=hb1.size;simp only[World.size_alloc] at hz1;clear hb1;go_wp2_with (refine Ej rfl _ rfl w.heap.size rfl L g1 hl ?_);refine(CF.out _).mono ?_;rintro e w2 ⟨rfl,hb2⟩
  have g3:w2.heap[w.heap.size+1]?=some (.cells Kx 35 (0,0)):=by
   rw[hb2.block _ (by omega)];exact g2
  have hB2:Below w.heap.size w w2:=hB1.trans (hb2.mono hB1.size);clear hb2;go_wp2_with (refine Iv rfl _ _ rfl (w.heap.size+1) (Gp L i b) rfl rfl _ g3 rfl hsl _ rfl ?_);refine OP (p:=6) rfl rfl (w.heap.size+1) rfl _ hsl (setRow_heap _ _ _ _ _ _ g3) ⟨rfl,?_⟩;exact Aj hB2 (by omega) _
def L5(V M:List Int)(i:Nat)(b:Bool):List Int:=Gp (AZ V M) i b
def IE(M:List Int)(i:Nat):List Int:=Gp M i true
theorem Apc(V M:List Int)(hV:AK V)(hM:AK M)(i:Nat)(b:Bool)(hi:i<104)(w:World):
  Calls aA 206 #[.agg (cv V M),.int .i64 (i:Int),.bool b] w fun e w'=>e=.returned (.tuple #[.agg (cv (L5 V M i b) (IE M i)),.int .i64 0])∧Below w.heap.size w w':=by
 have hVl:=hV.1;have hMl:=hM.1;have hCl:=(D7 V M).1;have hFl:(IE M i).length=13:=(Gn M i true).1;have hGl:(L5 V M i b).length=13:=(Gn _ i b).1;have CC:Hid (∀W,Calls aA 182 #[.agg (cv V M)] W fun e w'=>e=.returned (.agg (cv (AZ V M) M))∧Below W.heap.size W w'):=Ir V M hV hM;have C1:Hid (∀W,Calls aA 215 #[.agg (hv M),.int .i64 (i:Int),.bool true] W fun e w'=>e=.returned (.agg (hv (IE M i)))∧Below W.heap.size W w'):=TZ M hM i hi true;have C2:Hid (∀W,Calls aA 215 #[.agg (hv (AZ V M)),.int .i64 (i:Int),.bool b] W fun e w'=>e=.returned (.agg (hv (L5 V M i b)))∧Below W.heap.size W w'):=TZ _ (D7 V M) i hi b;clear hV hM;go_enter Tryz.func206,Tryz.ntmps206;have g0:((w.alloc (.cells (cv V M) 37)).alloc (.cells AE 37)).heap[w.heap.size]?=some (.cells (cv V M) 37 (0,0)):=Ah _ _ _ _ (Ab _ _ _ rfl);have g1:((w.alloc (.cells (cv V M) 37)).alloc (.cells AE 37)).heap[w.heap.size+1]?=some (.cells AE 37 (0,0)):=Ab _ _ _ (by simp);have hb:Below w.heap.size w ((w.alloc (.cells (cv V M) 37)).alloc (.cells AE 37)):=((aH _ _).alloc (aB _) _).alloc (by simp) _;have hsz:w.heap.size+2≤((w.alloc (.cells (cv V M) 37)).alloc (.cells AE 37)).heap.size:=by simp
 go_wp2_with (first
  | (go_at_call 214;refine(Ty _ _ (by omega) (by omega)).mono ?_;rintro e w' ⟨rfl,rfl⟩)
  | (refine De rfl _ rfl w.heap.size rfl V M g0 hVl hMl ?_))
 refine(CC.out _).mono ?_;rintro e w1 ⟨rfl,hb1⟩;have k0:w1.heap[w.heap.size]?=some (.cells (cv V M) 37 (0,0)):=by rw[hb1.block _ (by simp;omega)];exact g0
 have k1:w1.heap[w.heap.size+1]?=some (.cells AE 37 (0,0)):=by rw[hb1.block _ (by simp)];exact g1
 have hz1:w.heap.size+2≤w1.heap.size:=aO hsz hb1.size;have hB1:=hb.trans (hb1.mono hb.size);clear g0 g1 hb hsz hb1 CC;have l0:(w1.setRow w.heap.size (cv (AZ V M) M)).heap[w.heap.size]?=some (.cells (cv (AZ V M) M) 37 (0,0)):=setRow_heap _ _ _ _ _ _ k0;have l1:(w1.setRow w.heap.size (cv (AZ V M) M)).heap[w.heap.size+1]?=some (.cells AE 37 (0,0)):=(setRow_other _ _ _ _ (by omega)).trans k1
 go_wp2_with (first
  | (refine BQ rfl _ _ rfl w.heap.size (AZ V M) M rfl rfl _ k0 (Bq _ _ hVl hMl) hCl hMl _ rfl ?_)
  | (refine Lk rfl _ rfl w.heap.size rfl (AZ V M) M l0 hCl hMl ?_))
 refine(C1.out _).mono ?_;rintro e w2 ⟨rfl,hb2⟩;have m0:w2.heap[w.heap.size]?=some (.cells (cv (AZ V M) M) 37 (0,0)):=by rw[hb2.block _ (by simp;omega)];exact l0
 have m1:w2.heap[w.heap.size+1]?=some (.cells AE 37 (0,0)):=by rw[hb2.block _ (by simp;omega)];exact l1
 have hz2:w.heap.size+2≤w2.heap.size:=aO (by simpa using hz1) hb2.size;have hB2:=(Aj hB1 (aB _) (cv (AZ V M) M)).trans (hb2.mono (by simpa using hB1.size));clear l0 l1 k0 k1 hB1 hb2 hz1 C1;have n0:(w2.setRow w.heap.size (cv (AZ V M) (IE M i))).heap[w.heap.size]?=some (.cells (cv (AZ V M) (IE M i)) 37 (0,0)):=setRow_heap _ _ _ _ _ _ m0;have n1:(w2.setRow w.heap.size (cv (AZ V M) (IE M i))).heap[w.heap.size+1]?=some (.cells AE 37 (0,0)):=(setRow_other _ _ _ _ (by omega)).trans m1
 go_wp2_with (first
  | (refine PJ rfl _ _ rfl w.heap.size rfl (AZ V M) M (IE M i) rfl hCl hMl hFl m0 _ rfl ?_)
  | (refine Rx rfl _ rfl w.heap.size rfl (AZ V M) (IE M i) n0 hCl ?_))
 refine(C2.out _).mono ?_;rintro e w3 ⟨rfl,hb3⟩;have p0:w3.heap[w.heap.size]?=some (.cells (cv (AZ V M) (IE M i)) 37 (0,0)):=by rw[hb3.block _ (by simp;omega)];exact n0
 have p1:w3.heap[w.heap.size+1]?=some (.cells AE 37 (0,0)):=by rw[hb3.block _ (by simp;omega)];exact n1
 have hB3:=(Aj hB2 (aB _) (cv (AZ V M) (IE M i))).trans (hb3.mono (by simpa using hB2.size));clear m0 m1 n0 n1 hB2 hb3 hz2 C2;have q0:(w3.setRow w.heap.size (cv (L5 V M i b) (IE M i))).heap[w.heap.size]?=some (.cells (cv (L5 V M i b) (IE M i)) 37 (0,0)):=setRow_heap _ _ _ _ _ _ p0;have q1:(w3.setRow w.heap.size (cv (L5 V M i b) (IE M i))).heap[w.heap.size+1]?=some (.cells AE 37 (0,0)):=(setRow_other _ _ _ _ (by omega)).trans p1
 go_wp2_with (first
  | (refine UF rfl _ _ rfl w.heap.size rfl (AZ V M) (IE M i) (L5 V M i b) rfl hCl hFl hGl p0 _ rfl ?_)
  | (refine De rfl _ rfl w.heap.size rfl (L5 V M i b) (IE M i) q0 hGl hFl ?_)
  | (refine BQ rfl _ _ rfl (w.heap.size+1) (L5 V M i b) (IE M i) rfl rfl _ q1 rfl hGl hFl _ rfl ?_))
 refine J0 (p:=6) (u:=7) rfl rfl (w.heap.size+1) rfl _ _ hGl hFl (setRow_heap _ _ _ _ _ _ q1) _ rfl ⟨rfl,?_⟩;exact Aj (Aj hB3 (aB _) _) (by omega) _
theorem Ke{P:Program}{md:Region.Mode}{ops:Array Oper}{Q:Exit→Act→World→Prop}{fuel:Nat}{listed:Array Bool}{a:Act}{w:World}(rs:List Nat)(hr:Region.ready md ops listed=rs)(hne:rs≠[])
  (h:∀i∈rs,wpOp P ops Q i (wpAny P md ops Q fuel (listed.setIfInBounds i true)) a w):wpAny P md ops Q (fuel+1) listed a w:=
 ⟨fun h0=>absurd (hr.symm.trans h0) hne,fun i hi=>h i (hr▸hi)⟩
theorem Ju{P:Program}{ops:Array Oper}{Q:Exit→Act→World→Prop}{i:Nat}{o:Oper}{K:Act→World→Prop}{a:Act}{w w':World}{v:Value}(hi:ops[i]?=some o)(hg:o.guard=none)(hr:(execOp a.eval o).run P w=.ok (.value v) w')(h:K (a.put o.dst v) w'):wpOp P ops Q i K a w:=by
 have hw:aI o (yielded ops a.tmps)=true:=by unfold aI;rw[hg]
 unfold Go.wpOp;simp only[hi,hw,if_true];left;unfold Oper.wp;rw[hr];exact h
theorem PH{P:Program}{ops:Array Oper}{Q:Exit→Act→World→Prop}{i:Nat}{o:Oper}{K:Act→World→Prop}{a:Act}{w w':World}(hi:ops[i]?=some o)(hg:o.guard=none)(hr:(execOp a.eval o).run P w=.ok .skip w')(h:K (a.put o.dst undef) w'):wpOp P ops Q i K a w:=by
 have hw:aI o (yielded ops a.tmps)=true:=by unfold aI;rw[hg]
 unfold Go.wpOp;simp only[hi,hw,if_true];left;unfold Oper.wp;rw[hr];exact h
theorem VQ(a:Act)(o:Oper)(w:World)(ty:TypeId)(x y:Operand)(ho:o.op=.store ty x y)(g:Nat)(cells:Array Value)(hx:a.eval x=.pointer (some ⟨g,0,none⟩))(hy:a.eval y=.agg cells)(t:TypeId)(old:Array Value)(hg:w.heap[g]?=some (.cells old t (0,0)))
  (hi:(aA.info? ty).map (·.size)=some cells.size) (hold:old.size=cells.size) (h1:cells.all (·.oneCell')=true):(execOp a.eval o).run aA w=.ok .skip (w.setRow g cells):=by
 unfold execOp;simp only[ho,hx,hy,Instr.storeAt,Instr.sureAddr,aP,Sem.run_pure,Result.andThen_ok,run_storeVar_row w g t ty old cells hg hi hold h1]
theorem SH(a:Act)(o:Oper)(w:World)(x y:Operand)(ho:o.op=.store 37 x y)(g:Nat)(V M:List Int)(hx:a.eval x=.pointer (some ⟨g,0,none⟩))(hy:a.eval y=.agg (cv V M))(old:Array Value)(hg:w.heap[g]?=some (.cells old 37 (0,0)))(hold:old.size=26)(hV:V.length=13)(hM:M.length=13):(execOp a.eval o).run aA w=.ok .skip (w.setRow g (cv V M)):=
 VQ a o w _ x y ho g _ hx hy _ old hg (Nq V M hV hM) (by rw[Bq V M hV hM,hold]) (Ii V M)
def Kb(H:List Int)(r:Bp):Bool:=has r.cube.1 r.cube.2 H
def KJ:Bp:=⟨0,(Z,Z),0⟩
def LB(l:List Bp)(H:List Int):Bp×Bool:=match l.find? (Kb H) with
 | some r=>(r,true)
 | none=>(KJ,false)
theorem Un{α:Type}{p:α→Bool}{l:List α}{k:Nat}{x:α}(h:(l.take k).find? p=none)(hx:l[k]?=some x)(hp:p x=false):(l.take (k+1)).find? p=none:=by
 rw[List.take_add_one,hx,aZ,h];simp[hp]
theorem Qt{α:Type}{p:α→Bool}{l:List α}{k:Nat}{x:α}(h:(l.take k).find? p=none)(hx:l[k]?=some x)(hp:p x=true):l.find? p=some x:=by
 obtain⟨hk,rfl⟩:=aD.1 hx
 conv=>lhs;rw[←List.take_append_drop k l]
 rw[aZ,h,List.drop_eq_getElem_cons hk,List.find?_cons,hp];rfl
theorem RE:Fz KJ:=⟨BO,BO⟩
theorem Al1{fn:Func}{R:Ending→World→Prop}{a:Act}{w:World}{p u:Tmp}(hr:fn.results=#[.cell p 189,.tmp u])(hd:a.defers=[])(g:Nat)(hp:a.tmps.getD p undef=.pointer (some ⟨g,0,none⟩))(r:Bp)(hk:Fz r)
  (hg:w.heap[g]?=some (.cells (Bd r) 189 (0,0))) (v:Value) (hv:a.tmps.getD u undef=v) (h:R (.returned (.tuple #[.agg (Bd r),v])) w):bodyPost aA fn R .ret a w:=by
 refine bodyPost_ret (v:=.tuple #[.agg (Bd r),v]) ?_ hd h;have hl:=G1.load w g 0 _ _ _ (Bd r) (FV hk) hg (Ar _ _);unfold Eh at hl;simp only at hl;have hp':a.tmps[p]?.getD undef=.pointer (some ⟨g,0,none⟩):=by simpa using hp
 have hv':a.tmps[u]?.getD undef=v:=by simpa using hv
 simp[results,hr,hp',hv',hl,asAddr]
def Fv(w:World)(v:Value)(l:List Bp):Prop:=Ee Eh Bd w v l
set_option maxRecDepth 100000 in
theorem W7(l:List Bp)(hl0:∀r∈l,Fz r)(vl:Value)(H:List Int)(hH:AK H)(w:World)(hl:Fv w vl l):
  Calls aA 183 #[vl,.agg (hv H)] w fun e w'=>e=.returned (.tuple #[.agg (Bd (LB l H).1),.bool (LB l H).2])∧Below w.heap.size w w':=by
 have hHl:=hH.1;have HA:Hid (∀(V M:List Int) W,AK V→AK M→Calls aA 200 #[.agg (cv V M),.agg (hv H)] W fun e w'=>e=.returned (.bool (has V M H))∧Below W.heap.size W w'):=fun V M W h1 h2=>ZP V M H h1 h2 hH W;obtain⟨o,cap,rfl,hc1,hc2⟩:=Ee.slice hl;obtain⟨n,hn0⟩:=eX l.length;have HN:Hid (n=l.length):=hn0;rw[←hn0] at hl hc1 ⊢;have HL:Hid (Fv w (.slice o n cap) l):=hl;have HOK:Hid (∀r∈l,Fz r):=hl0;unfold maxLen at hc2;have K0:Hid (((w.alloc (.cells (hv H) 35)).alloc (.cells Eh.zero 189)).heap[w.heap.size]?=some (.cells (hv H) 35 (0,0))∧((w.alloc (.cells (hv H) 35)).alloc (.cells Eh.zero 189)).heap[w.heap.size+1]?=some (.cells Eh.zero 189 (0,0))):=⟨Ah _ _ _ _ (Ab _ _ _ rfl),Ab _ _ _ (by simp)⟩;have B0:Hid (Below w.heap.size w ((w.alloc (.cells (hv H) 35)).alloc (.cells Eh.zero 189))):=((aH _ _).alloc (aB _) _).alloc (by simp) _;obtain⟨S,hS⟩:=eX (LB l H);have HS:Hid (S=LB l H):=hS;rw[←hS];clear hl hn0 hl0 hS;go_enter Tryz.func183,Tryz.ntmps183;go_wp2_with fail;go_loopw [10] (fun i wr=> ∃k:Nat,k≤n∧i=.int .i64 (k:Int)∧Hid ((l.take k).find? (Kb H)=none)∧wr.heap[w.heap.size]?=some (.cells (hv H) 35 (0,0))∧wr.heap[w.heap.size+1]?=some (.cells Eh.zero 189 (0,0))∧Below w.heap.size w wr) (fun i _=>n-(intOf i).toNat)
 case atStart=>exact⟨0,Nat.zero_le _,rfl,rfl,K0.out.1,K0.out.2,B0.out⟩
 case round=>
  clear K0 B0;obtain⟨k,hk,rfl,HF,h1,h2,hb⟩:=hrel;have R1:Hid (wr.heap[w.heap.size]?=some (.cells (hv H) 35 (0,0))):=h1;have R2:Hid (wr.heap[w.heap.size+1]?=some (.cells Eh.zero 189 (0,0))):=h2;have HB:Hid (Below w.heap.size w wr):=hb;clear h1 h2 hb;by_cases hlt:k<n
  ·have hlt':(k:Int)<(n:Int):=by omega
   obtain⟨g,off,cur,ty,fr,r,rfl,hg,hc,hxk⟩:=(Ee.below HL.out HB.out).at k hlt;have hr:Fz r:=HOK.out r (aJ hxk);have HR:Hid (Fz r):=hr;have hsz:=FV hr;have K1:Hid (wr.heap[g]?=some (.cells cur ty fr)):=hg;have H1:Hid (∀j,j<28→cur[off+k*28+j]?=(Bd r)[j]?):=hc;have KN:Hid ((wr.alloc (.cells (Bd r) 189)).heap[wr.heap.size]?=some (.cells (Bd r) 189 (0,0))):=Ab _ _ _ rfl;have RN1:Hid ((wr.alloc (.cells (Bd r) 189)).heap[w.heap.size]?=some (.cells (hv H) 35 (0,0))):=Ah _ _ _ _ R1.out;have RN2:Hid ((wr.alloc (.cells (Bd r) 189)).heap[w.heap.size+1]?=some (.cells Eh.zero 189 (0,0))):=Ah _ _ _ _ R2.out;have BN:Hid (Below w.heap.size w (wr.alloc (.cells (Bd r) 189))):=HB.out.alloc HB.out.size _;have HX:Hid (l[k]?=some r):=hxk;clear hg hc hxk hr
   go_wp2_with (first
    | (refine Eu (E:=Eh) G1 rfl _ rfl g (off+k*28) rfl cur ty fr (Bd r) hsz K1.out H1.out ?_)
    | (refine EK (E:=Eh) G1 rfl _ _ rfl wr.heap.size (Bd r) (Ji HR.out) rfl rfl _ (Ab _ _ _ rfl) rfl _ (Bo _ _ _ _ _ rfl) ?_)
    | (refine PK rfl _ rfl wr.heap.size 1 rfl _ _ _ r.cube.1 r.cube.2 HR.out.1.1 HR.out.2.1 KN.out (Ko HR.out).2.1 ?_)
    | (refine Ej rfl _ rfl w.heap.size rfl H RN1.out hHl ?_))
   refine(HA.out r.cube.1 r.cube.2 _ HR.out.1 HR.out.2).mono ?_;rintro e w1 ⟨rfl,hb1⟩;have B1:Hid (Below w.heap.size w w1):=BN.out.trans (hb1.mono BN.out.size);have KR:Hid (w1.heap[wr.heap.size]?=some (.cells (Bd r) 189 (0,0))):=(hb1.block _ (by simp)).trans KN.out;have R3:Hid (w1.heap[w.heap.size]?=some (.cells (hv H) 35 (0,0))):=(hb1.block _ (gS RN1.out)).trans RN1.out;have R4:Hid (w1.heap[w.heap.size+1]?=some (.cells Eh.zero 189 (0,0))):=(hb1.block _ (gS RN2.out)).trans RN2.out;clear hb1
   cases hhas:has r.cube.1 r.cube.2 H with
   | true=>
    have HE:Hid (S=(r,true)):=by
     show _=_;rw[HS.out];unfold LB;rw[Qt HF.out HX.out hhas]
    clear hhas
    go_wp2_with (first
     | (refine Eu (E:=Eh) G1 rfl _ rfl wr.heap.size 0 rfl _ _ _ (Bd r) hsz KR.out (Ar _ _) ?_)
     | (refine EK (E:=Eh) G1 rfl _ _ rfl (w.heap.size+1) (Bd r) (Ji HR.out) rfl rfl _ R4.out rfl _ rfl ?_))
    refine Al1 rfl rfl (w.heap.size+1) rfl r HR.out (setRow_heap _ _ _ _ _ _ R4.out) _ rfl ?_;rw[HE.out];exact⟨rfl,Aj B1.out (by omega) _⟩
   | false=>
    have HF2:Hid ((l.take (k+1)).find? (Kb H)=none):=Un HF.out HX.out hhas;clear hhas;go_wp2_with fail;go_roundw
    case rel=>exact⟨k+1,by omega,by go_num,HF2,R3.out,R4.out,B1.out⟩
    case measure=>simp[intOf];omega
  ·have hlt':¬(k:Int)<(n:Int):=by omega
   have HE:Hid (S=(KJ,false)):=by
    have e:=HN.out;have hF:=HF.out;rw[List.take_of_length_le (by omega)] at hF;show _=_;rw[HS.out];unfold LB;rw[hF]
   have HZ:Hid (Eh.zero=Bd KJ):=UB;go_wp2_with (refine EK (E:=Eh) G1 rfl _ _ rfl (w.heap.size+1) (Bd KJ) (Ji RE) rfl (by rw[←HZ.out];rfl) _ R2.out rfl _ rfl ?_);refine Al1 rfl rfl (w.heap.size+1) rfl KJ RE (setRow_heap _ _ _ _ _ _ R2.out) _ rfl ?_;rw[HE.out];exact⟨rfl,Aj HB.out (by omega) _⟩
def JO(M:List Int)(i:Nat):List Int:=Gp M i false
def RK(V M:List Int)(i:Nat):List Int:=AZ V (JO M i)
theorem Aiq(V M:List Int)(hV:AK V)(hM:AK M)(i:Nat)(hi:i<104)(w:World):
  Calls aA 203 #[.agg (cv V M),.int .i64 (i:Int)] w fun e w'=>e=.returned (.tuple #[.agg (cv (RK V M i) (JO M i)),.int .i64 0])∧Below w.heap.size w w':=by
 have hVl:=hV.1;have hMl:=hM.1;have hFl:(JO M i).length=13:=(Gn M i false).1;have hGl:(RK V M i).length=13:=(D7 _ _).1;have C1:Hid (∀W,Calls aA 215 #[.agg (hv M),.int .i64 (i:Int),.bool false] W fun e w'=>e=.returned (.agg (hv (JO M i)))∧Below W.heap.size W w'):=TZ M hM i hi false;have C2:Hid (∀W,Calls aA 182 #[.agg (cv V (JO M i))] W fun e w'=>e=.returned (.agg (cv (RK V M i) (JO M i)))∧Below W.heap.size W w'):=Ir V _ hV (Gn M i false);clear hV hM;go_enter Tryz.func203,Tryz.ntmps203;have g0:((w.alloc (.cells (cv V M) 37)).alloc (.cells AE 37)).heap[w.heap.size]?=some (.cells (cv V M) 37 (0,0)):=Ah _ _ _ _ (Ab _ _ _ rfl);have g1:((w.alloc (.cells (cv V M) 37)).alloc (.cells AE 37)).heap[w.heap.size+1]?=some (.cells AE 37 (0,0)):=Ab _ _ _ (by simp);have hb:Below w.heap.size w ((w.alloc (.cells (cv V M) 37)).alloc (.cells AE 37)):=((aH _ _).alloc (aB _) _).alloc (by simp) _
 go_wp2_with (first
  | (go_at_call 214;refine(Ty _ _ (by omega) (by omega)).mono ?_;rintro e w' ⟨rfl,rfl⟩)
  | (refine Lk rfl _ rfl w.heap.size rfl V M g0 hVl hMl ?_))
 refine(C1.out _).mono ?_;rintro e w1 ⟨rfl,hb1⟩;have k0:w1.heap[w.heap.size]?=some (.cells (cv V M) 37 (0,0)):=by rw[hb1.block _ (by simp;omega)];exact g0
 have k1:w1.heap[w.heap.size+1]?=some (.cells AE 37 (0,0)):=by rw[hb1.block _ (by simp)];exact g1
 have hz1:w.heap.size+2≤w1.heap.size:=aO (by simp) hb1.size;have hB1:=hb.trans (hb1.mono hb.size);clear g0 g1 hb hb1 C1;have l0:(w1.setRow w.heap.size (cv V (JO M i))).heap[w.heap.size]?=some (.cells (cv V (JO M i)) 37 (0,0)):=setRow_heap _ _ _ _ _ _ k0;have l1:(w1.setRow w.heap.size (cv V (JO M i))).heap[w.heap.size+1]?=some (.cells AE 37 (0,0)):=(setRow_other _ _ _ _ (by omega)).trans k1
 go_wp2_with (first
  | (refine PJ rfl _ _ rfl w.heap.size rfl V M (JO M i) rfl hVl hMl hFl k0 _ rfl ?_)
  | (refine De rfl _ rfl w.heap.size rfl V (JO M i) l0 hVl hFl ?_))
 refine(C2.out _).mono ?_;rintro e w2 ⟨rfl,hb2⟩;have m1:w2.heap[w.heap.size+1]?=some (.cells AE 37 (0,0)):=by rw[hb2.block _ (by simp;omega)];exact l1
 have hB2:=(Aj hB1 (aB _) (cv V (JO M i))).trans (hb2.mono (by simpa using hB1.size));clear l0 l1 k0 k1 hB1 hb2 hz1 C2;go_wp2_with (refine BQ rfl _ _ rfl (w.heap.size+1) (RK V M i) (JO M i) rfl rfl _ m1 rfl hGl hFl _ rfl ?_);refine J0 (p:=4) (u:=5) rfl rfl (w.heap.size+1) rfl _ _ hGl hFl (setRow_heap _ _ _ _ _ _ m1) _ rfl ⟨rfl,?_⟩;exact Aj hB2 (by omega) _
def Ary(x:Int):Int:=((aN 8).filter fun j=>yb x j).length
def free(M:List Int):Int:=((aN 104).filter fun i=> !(bt M i)).length
def Arj(V M:List Int)(i:Nat):UInt8:=if bt M i then (if bt V i then 49 else 48) else 42
def bv(L:List UInt8):Array Value:=(L.map fun b=>Value.int .u8 (b.toNat:Int)).toArray
theorem XF(off:Nat):∀(xs:List Value) (n:Nat) (cells:Array Value) (k:Nat),off+n+xs.length≤cells.size→
  ((xs.zipIdx n).foldl (fun cs (x:Value×Nat)=>cs.setIfInBounds (off+x.2) x.1) cells)[k]?=if off+n≤k∧k<off+n+xs.length then xs[k-(off+n)]? else cells[k]?
 | [],n,cells,k,_=>by
  simp only[List.zipIdx_nil,List.foldl_nil,List.length_nil,Nat.add_zero]
  rw[if_neg (by omega)]
 | x::xs,n,cells,k,h=>by
  simp only[bA] at h
  rw[List.zipIdx_cons,List.foldl_cons,XF off xs (n+1) _ k (by simp;omega)]
  simp only[bA]
  by_cases h1:off+(n+1)≤k∧k<off+(n+1)+xs.length
  ·rw[if_pos h1,if_pos (by omega),show k-(off+n)=(k-(off+(n+1)))+1 by omega,List.getElem?_cons_succ]
  ·rw[if_neg h1]
   by_cases h2:k=off+n
   ·subst h2
    rw[if_pos (by omega),Nat.sub_self,List.getElem?_cons_zero,Array.getElem?_setIfInBounds_self_of_lt (by omega)]
   ·rw[if_neg (by omega),Array.getElem?_setIfInBounds_ne (by omega)]
theorem Ajq(xs cells:Array Value)(h:xs.size=cells.size):xs.zipIdx.foldl (fun cs (x:Value×Nat)=>cs.setIfInBounds (0+x.2) x.1) cells=xs:=by
 have e:xs.zipIdx.foldl (fun cs (x:Value×Nat)=>cs.setIfInBounds (0+x.2) x.1) cells=(xs.toList.zipIdx 0).foldl (fun cs (x:Value×Nat)=>cs.setIfInBounds (0+x.2) x.1) cells:=by
  rw[←Array.foldl_toList];simp
 rw[e];apply Array.ext_getElem?;intro k;rw[XF 0 xs.toList 0 cells k (by simp;omega)];by_cases hk:k<xs.size
 ·rw[if_pos (by simp;omega)];simp
 ·rw[if_neg (by simp;omega),Array.getElem?_eq_none (by omega),Array.getElem?_eq_none (by omega)]
theorem Abj:∃i,aA.info? 37=some i∧i.zero=some (.agg AE)∧i.size=26∧i.bytes=26:=by
 cases h:aA.info? 37 with
 | none=>exact absurd (show(aA.info? 37).isSome=true by kernel_rfl) (by rw[h];simp)
 | some i=>
  have h1:(aA.info? 37).map (fun i=>(i.zero,i.size,i.bytes))=some (some (.agg AE),26,26):=by kernel_rfl
  rw[h] at h1;simp only[Option.map_some,Option.some.injEq,Prod.mk.injEq] at h1;exact⟨i,rfl,h1.1,h1.2.1,h1.2.2⟩
theorem Ad5{ops:Array Oper}{rest:List Oper}{o:Oper}{a:Act}{w:World}{Q:Exit→Act→World→Prop}(hg:o.guard=none)(x:Operand)(ho:o.op=.buildSlice 224 1 #[(0,x)])(V M:List Int)(hV:V.length=13)(hM:M.length=13)(hx:a.eval x=.agg (cv V M))
  (h:wpList aA ops Q rest (a.put o.dst (.slice (some ⟨w.heap.size,0,none⟩) 1 1)) (w.alloc (.cells (cv V M) 37))):wpList aA ops Q (o::rest) a w:=by
 obtain⟨ie,hie,hz,hs,_⟩:=Abj;refine wpList_buildSlice hg 224 37 1 _ ho (cv V M) ie (.agg AE) Tryz.underlying224 hie hz (by rw[hs];decide) (by rw[hs];decide) ?_ h;have hsz:=Bq V M hV hM;simp only[List.map_toArray,List.map_cons,List.map_nil,hx,Instr.fill,hs,Nat.zero_mul,Value.cells,hsz];rw[if_neg (by simp)];congr 1;exact Ajq _ _ (by rw[hsz];simp)
def FD(C:List (List Int×List Int)):List Value:=C.flatMap fun c=>(cv c.1 c.2).toList
theorem VW(C D:List (List Int×List Int)):FD (C++D)=FD C++FD D:=by simp[FD]
theorem Aca(V M:List Int):FD [(V,M)]=(cv V M).toList:=by simp[FD]
theorem Aid{w:World}{B B':Nat}{e:TypeId}{s:Nat}{v:Value}{n:Nat}{xs:List Value}(h:w.ownsRow B e s v n xs)(hB':B'≤B):w.ownsRow B' e s v n xs:=by
 obtain⟨h1,h2 | ⟨g',cap,cur,rfl,hB,h3⟩⟩:=h
 ·exact⟨h1,.inl h2⟩
 ·exact⟨h1,.inr ⟨g',cap,cur,rfl,by omega,h3⟩⟩
def Uz(p:Prop):Prop:=p
theorem SW{p:Prop}(h:Uz p):p:=h
theorem Af6(w:World)(g off:Nat)(cs:Array Value)(t:TypeId)(fr:Nat×Nat)(V M:List Int)(hV:V.length=13)(hM:M.length=13)(hg:w.heap[g]?=some (.cells cs t fr))(hc:∀j,j<26→cs[off+j]?=(cv V M)[j]?):
  (loadVar 37 ⟨g,off,none⟩).run aA w=.ok (.agg (cv V M)) w:=by
 have hsz:=Bq V M hV hM
 have hl:(loadCells ⟨g,off,none⟩ (cv V M).toList.length).run aA w=.ok (cv V M).toList.toArray w:=
  run_loadCells_list (P:=aA) w ⟨g,off,none⟩ (cv V M).toList (fun j v hv=>by
   have hadd:(⟨g,off,none⟩:Addr).add j=⟨g,off+j,none⟩:=by unfold Addr.add;split <;> simp_all
   have hj:j<26:=by
    have:=(aD.1 hv).1;simpa[hsz] using this
   rw[hadd,cell_of_row w g (off+j) cs t fr hg,hc j hj];simpa using hv)
 obtain⟨i,hq,_,hs,_⟩:=Abj
 have hagg:(isAgg 37).run aA w=.ok true w:=by
  unfold isAgg;rw[aP,run_underlying Tryz.underlying37 w];rfl
 rw[Array.length_toList,hsz,Array.toArray_toList] at hl;simp[loadVar,aP,hagg,sizeOf,typeInfo,hq,hs,hl]
theorem Sj{ops:Array Oper}{rest:List Oper}{o:Oper}{a:Act}{w:World}{Q:Exit→Act→World→Prop}(hw:aI o (yielded ops a.tmps)=true)(x:Operand)(ho:o.op=.load 37 x)
  (g off:Nat) (hx:a.eval x=.pointer (some ⟨g,off,none⟩)) (cs:Array Value) (t:TypeId) (fr:Nat×Nat) (V M:List Int) (hV:V.length=13) (hM:M.length=13) (hg:w.heap[g]?=some (.cells cs t fr)) (hc:∀j,j<26→cs[off+j]?=(cv V M)[j]?)
  (h:wpList aA ops Q rest (a.put o.dst (.agg (cv V M))) w):wpList aA ops Q (o::rest) a w:=by
 refine wpList_step fun K hK=> ?_;rw[if_pos hw];unfold Oper.wp execOp;simp only[ho,hx,Instr.loadAt,Instr.sureAddr,aP,Sem.run_pure,Result.andThen_ok,Af6 w g off cs t fr V M hV hM hg hc];exact hK _ _ h
def m0:List Int:=[0,0,0,0,0,0,0,0,0,0,0,0,0]
theorem Apl(L:List Int)(h1:L.length=13)(h2:∀x∈L,0≤x∧x<256):AK L:=by
 refine⟨h1,fun k=> ?_⟩;rcases Nat.lt_or_ge k 13 with h | h
 ·rw[List.getD,List.getElem?_eq_getElem (by omega)];exact h2 _ (List.getElem_mem _)
 ·rw[List.getD,List.getElem?_eq_none (by omega)];decide
theorem b0:AK m0:=Apl _ rfl (by decide)
def Qw(V M:List Int)(i:Nat):Int:=if bt M i then (if bt V i then 1 else 0) else 2
theorem App(V M:List Int)(i:Nat):(Qw V M i !=2)=bt M i:=by
 unfold Qw;cases bt M i <;> cases bt V i <;> rfl
theorem Apq(V M:List Int)(i:Nat):(Qw V M i==1)=(bt V i&&bt M i):=by
 unfold Qw;cases bt M i <;> cases bt V i <;> rfl
theorem Apr(V M:List Int)(hV:AK V)(hM:AK M)(i:Nat)(hi:i<104)(w:World):
  Calls aA 141 #[.agg (cv V M),.int .i64 (i:Int)] w fun e w'=>e=.returned (.int .i64 (Qw V M i))∧Below w.heap.size w w':=by
 have hVl:=hV.1;have hMl:=hM.1;have CM:Hid (∀W,Calls aA 162 #[.agg (hv M),.int .i64 (i:Int)] W fun e w'=>e=.returned (.bool (bt M i))∧Below W.heap.size W w'):=WJ M hM i hi;have CV:Hid (∀W,Calls aA 162 #[.agg (hv V),.int .i64 (i:Int)] W fun e w'=>e=.returned (.bool (bt V i))∧Below W.heap.size W w'):=WJ V hV i hi;clear hV hM;unfold Qw;obtain⟨bm,hbm⟩:∃b,b=bt M i:=⟨_,rfl⟩;obtain⟨bv,hbv⟩:∃b,b=bt V i:=⟨_,rfl⟩;rw[←hbm] at CM ⊢;rw[←hbv] at CV ⊢;clear hbm hbv;go_enter Tryz.func141,Tryz.ntmps141;go_wp2_with (refine Lk rfl _ rfl w.heap.size rfl V M (Ab _ _ _ rfl) hVl hMl ?_);refine(CM.out _).mono ?_;rintro e w1 ⟨rfl,hb1⟩;have g0:w1.heap[w.heap.size]?=some (.cells (cv V M) 37 (0,0)):=by rw[hb1.block _ (by simp)];exact Ab _ _ _ rfl
 have B1:Below w.heap.size w w1:=((aH _ _).alloc (aB _) _).trans (hb1.mono (by simp));clear hb1 CM
 cases bm
 ·go_wp2_with fail;go_ret;exact⟨rfl,B1⟩
 ·go_wp2_with (refine Rx rfl _ rfl w.heap.size rfl V M g0 hVl ?_);refine(CV.out _).mono ?_;rintro e w2 ⟨rfl,hb2⟩;have B2:=B1.trans (hb2.mono B1.size);clear hb2 CV
  cases bv
  ·go_wp2_with fail;go_ret;exact⟨rfl,B2⟩
  ·go_wp2_with fail;go_ret;exact⟨rfl,B2⟩
theorem Ahs(V M:List Int)(hV:AK V)(hM:AK M)(i:Nat)(hi:i<104)(v:Int)(w:World):
  Calls aA 140 #[.agg (cv V M),.int .i64 (i:Int),.int .i64 v] w fun e w'=>e=.returned (.agg (cv (Gp V i (v==1)) (Gp M i (v !=2))))∧Below w.heap.size w w':=by
 have hVl:=hV.1;have hMl:=hM.1;have hFl:(Gp M i (v !=2)).length=13:=(Gn M i _).1;have hGl:(Gp V i (v==1)).length=13:=(Gn V i _).1;have C1:Hid (∀W,Calls aA 170 #[.agg (hv M),.int .i64 (i:Int),.bool (v !=2)] W fun e w'=>e=.returned (.agg (hv (Gp M i (v !=2))))∧Below W.heap.size W w'):=WA M hM i hi _;have C2:Hid (∀W,Calls aA 170 #[.agg (hv V),.int .i64 (i:Int),.bool (v==1)] W fun e w'=>e=.returned (.agg (hv (Gp V i (v==1))))∧Below W.heap.size W w'):=WA V hV i hi _;clear hV hM;obtain⟨N,hN⟩:=eX (Gp M i (v !=2));obtain⟨U,hU⟩:=eX (Gp V i (v==1));rw[←hN] at C1 hFl ⊢;rw[←hU] at C2 hGl ⊢;clear hN hU;go_enter Tryz.func140,Tryz.ntmps140;have g0:((w.alloc (.cells (cv V M) 37)).alloc (.cells AE 37)).heap[w.heap.size]?=some (.cells (cv V M) 37 (0,0)):=Ah _ _ _ _ (Ab _ _ _ rfl);have g1:((w.alloc (.cells (cv V M) 37)).alloc (.cells AE 37)).heap[w.heap.size+1]?=some (.cells AE 37 (0,0)):=Ab _ _ _ (by simp);have hb:Below w.heap.size w ((w.alloc (.cells (cv V M) 37)).alloc (.cells AE 37)):=((aH _ _).alloc (aB _) _).alloc (by simp) _;go_wp2_with (refine Lk rfl _ rfl w.heap.size rfl V M g0 hVl hMl ?_);refine(C1.out _).mono ?_;rintro e w2 ⟨rfl,hb2⟩
 have m0:w2.heap[w.heap.size]?=some (.cells (cv V M) 37 (0,0)):=by rw[hb2.block _ (by simp;omega)];exact g0
 have m1:w2.heap[w.heap.size+1]?=some (.cells AE 37 (0,0)):=by rw[hb2.block _ (by simp)];exact g1
 have hz2:w.heap.size+2≤w2.heap.size:=aO (by simp) hb2.size;have hB2:=hb.trans (hb2.mono hb.size);clear g0 g1 hb hb2 C1;have n0:(w2.setRow w.heap.size (cv V N)).heap[w.heap.size]?=some (.cells (cv V N) 37 (0,0)):=setRow_heap _ _ _ _ _ _ m0;have n1:(w2.setRow w.heap.size (cv V N)).heap[w.heap.size+1]?=some (.cells AE 37 (0,0)):=(setRow_other _ _ _ _ (by omega)).trans m1
 go_wp2_with (first
  | (refine PJ rfl _ _ rfl w.heap.size rfl V M N rfl hVl hMl hFl m0 _ rfl ?_)
  | (refine Rx rfl _ rfl w.heap.size rfl V N n0 hVl ?_))
 refine(C2.out _).mono ?_;rintro e w3 ⟨rfl,hb3⟩;have p0:w3.heap[w.heap.size]?=some (.cells (cv V N) 37 (0,0)):=by rw[hb3.block _ (by simp;omega)];exact n0
 have p1:w3.heap[w.heap.size+1]?=some (.cells AE 37 (0,0)):=by rw[hb3.block _ (by simp;omega)];exact n1
 have hB3:=(Aj hB2 (aB _) (cv V N)).trans (hb3.mono (by simpa using hB2.size));clear m0 m1 n0 n1 hB2 hb3 hz2 C2;have q0:(w3.setRow w.heap.size (cv U N)).heap[w.heap.size]?=some (.cells (cv U N) 37 (0,0)):=setRow_heap _ _ _ _ _ _ p0;have q1:(w3.setRow w.heap.size (cv U N)).heap[w.heap.size+1]?=some (.cells AE 37 (0,0)):=(setRow_other _ _ _ _ (by omega)).trans p1
 go_wp2_with (first
  | (refine UF rfl _ _ rfl w.heap.size rfl V N U rfl hVl hFl hGl p0 _ rfl ?_)
  | (refine De rfl _ rfl w.heap.size rfl U N q0 hGl hFl ?_)
  | (refine BQ rfl _ _ rfl (w.heap.size+1) U N rfl rfl _ q1 rfl hGl hFl _ rfl ?_))
 refine WG (p:=6) rfl rfl (w.heap.size+1) rfl _ _ hGl hFl (setRow_heap _ _ _ _ _ _ q1) ⟨rfl,?_⟩;exact Aj (Aj hB3 (aB _) _) (by omega) _
def Gz(k:Nat)(f:Nat→Bool):List Int:=mk fun j=>decide (j<k)&&f j
theorem OB(k:Nat)(f:Nat→Bool):AK (Gz k f):=KU _
theorem UM(f:Nat→Bool):Gz 0 f=Z:=S7 _ _ fun i _=>by simp
theorem Wl(f:Nat→Bool):Gz 104 f=mk f:=S7 _ _ fun i hi=>by simp[hi]
theorem UN(k:Nat)(f:Nat→Bool):Gp (Gz k f) k (f k)=Gz (k+1) f:=
 S7 _ _ fun i hi=>by
  by_cases e:i=k
  ·subst e;simp
  ·rw[if_neg e]
   unfold Gz
   rw[S8 _ i hi]
   congr 1
   rw[decide_eq_decide]
   omega
def Sn(V M V' M':List Int):Bool:=(aN 104).all fun i=> !(bt M' i) || (bt M i&&(bt V i==bt V' i))
theorem Sm(V M V' M':List Int):Sn V M V' M'=true↔ ∀i,i<104→bt M' i=true→bt M i=true∧bt V i=bt V' i:=by
 unfold Sn;simp only[aQ,aT,Bool.or_eq_true,aM,aC,beq_iff_eq];constructor
 ·intro h i hi hm;rcases h i hi with h' | h'
  ·rw[h'] at hm;cases hm
  ·exact h'
 ·intro h i hi
  cases hm:bt M' i
  ·exact .inl rfl
  ·exact .inr (h i hi hm)
def Kp(c:List Int×List Int)(r:List Int×List Int):Bool:=DW c.1 c.2 r.1 r.2
def MV(H:List Int)(r:List Int×List Int):Option Nat:=(aN 104).find? fun i=>bt r.2 i&&(bt r.1 i !=bt H i)
def KF(c:List Int×List Int)(i:Nat)(b:Bool):List Int×List Int:=(Gp c.1 i b,Gp c.2 i true)
def Fp(c:List Int×List Int)(i:Nat):List Int×List Int:=(Gp c.1 i false,Gp c.2 i false)
def IZ(H:List Int)(c:List Int×List Int)(r:List Int×List Int):List Int×List Int:=
 if Kp c r then (match MV H r with | some i=>KF c i (bt H i) | none=>c) else c
def Dh(H:List Int)(c:List Int×List Int)(A:List (List Int×List Int)):List Int×List Int:=A.foldl (IZ H) c
def DH(A:List (List Int×List Int))(c:List Int×List Int):Bool:=A.all fun r=> !(Kp c r)
def GT(A:List (List Int×List Int))(M:List Int)(c:List Int×List Int)(i:Nat):List Int×List Int:=
 if !(bt M i)&&bt c.2 i&&DH A (Fp c i) then Fp c i else c
def Ef(A:List (List Int×List Int))(M:List Int)(n:Nat)(c:List Int×List Int):List Int×List Int:=(aN n).foldl (GT A M) c
def Hl(A:List (List Int×List Int))(c0:List Int×List Int)(H:List Int):List Int×List Int:=
 Ef A c0.2 104 (Dh H (AZ c0.1 c0.2,c0.2) A)
theorem YX(V M V' M' H:List Int)(h:Sn V M V' M'=true)(h2:has V M H=true):has V' M' H=true:=by
 rw[MB] at h2 ⊢;rw[Sm] at h;intro i hi hm;obtain⟨h3,h4⟩:=h i hi hm;rw[←h4];exact h2 i hi h3
def GZ(c d:List Int×List Int):Prop:=∀i,i<104→bt d.2 i=true→bt c.2 i=true∧bt c.1 i=bt d.1 i
theorem Abl{c d:List Int×List Int}:GZ c d↔Sn c.1 c.2 d.1 d.2=true:=(Sm _ _ _ _).symm
theorem Pe(c:List Int×List Int):GZ c c:=fun _ _ h=>⟨h,rfl⟩
theorem LT{a b c:List Int×List Int}(h:GZ a b)(g:GZ b c):GZ a c:=fun i hi h1=>by
 obtain⟨h2,h3⟩:=g i hi h1
 obtain⟨h4,h5⟩:=h i hi h2
 exact⟨h4,h5.trans h3⟩
theorem QX{c d:List Int×List Int}{H:List Int}(h:GZ c d)(g:has c.1 c.2 H=true):has d.1 d.2 H=true:=
 YX _ _ _ _ H (Abl.1 h) g
theorem Aqp{c d:List Int×List Int}{r:List Int×List Int}(h:GZ c d)(g:Kp c r=true):Kp d r=true:=by
 unfold Kp at g ⊢;rw[Kr] at g ⊢;intro i hi h1 h2;obtain⟨h3,h4⟩:=h i hi h1;rw[←h4];exact g i hi h3 h2
theorem OY{c d:List Int×List Int}{r:List Int×List Int}(h:GZ c d)(g:Kp d r=false):Kp c r=false:=by
 cases e:Kp c r with
 | false=>rfl
 | true=>rw[Aqp h e] at g;cases g
theorem Akc{A:List (List Int×List Int)}{c d:List Int×List Int}(h:GZ c d)(g:DH A d=true):DH A c=true:=by
 unfold DH at g ⊢;rw[aQ] at g ⊢;intro r hr;have:=g r hr;rw[aM] at this ⊢;exact OY h this
theorem Zd{A:List (List Int×List Int)}{c d:List Int×List Int}(h:GZ c d)(g:DH A c=false):DH A d=false:=by
 cases e:DH A d with
 | false=>rfl
 | true=>rw[Akc h e] at g;cases g
theorem SF(c:List Int×List Int)(i:Nat)(b:Bool)(k:Nat)(hk:k<104):bt (KF c i b).1 k=if k=i then b else bt c.1 k:=Og _ i b k hk
theorem SG(c:List Int×List Int)(i:Nat)(b:Bool)(k:Nat)(hk:k<104):bt (KF c i b).2 k=if k=i then true else bt c.2 k:=Og _ i true k hk
theorem MD(c:List Int×List Int)(i:Nat)(k:Nat)(hk:k<104):bt (Fp c i).1 k=if k=i then false else bt c.1 k:=Og _ i false k hk
theorem ME(c:List Int×List Int)(i:Nat)(k:Nat)(hk:k<104):bt (Fp c i).2 k=if k=i then false else bt c.2 k:=Og _ i false k hk
theorem Aop{c:List Int×List Int}{i:Nat}{b:Bool}(h:bt c.2 i=true→bt c.1 i=b):GZ (KF c i b) c:=fun k hk h1=>by
 rw[SF c i b k hk,SG c i b k hk]
 by_cases e:k=i
 ·subst e;rw[if_pos rfl,if_pos rfl];exact⟨rfl,(h h1).symm⟩
 ·rw[if_neg e,if_neg e];exact⟨h1,rfl⟩
theorem Ani(c:List Int×List Int)(i:Nat):GZ c (Fp c i):=fun k hk h1=>by
 rw[ME c i k hk] at h1
 rw[MD c i k hk]
 by_cases e:k=i
 ·rw[if_pos e] at h1;cases h1
 ·rw[if_neg e] at h1 ⊢;exact⟨h1,rfl⟩
theorem Ag0{c d:List Int×List Int}(i:Nat)(h:GZ c d):GZ (Fp c i) (Fp d i):=fun k hk h1=>by
 rw[ME d i k hk] at h1
 rw[MD c i k hk,MD d i k hk,ME c i k hk]
 by_cases e:k=i
 ·rw[if_pos e] at h1;cases h1
 ·rw[if_neg e] at h1;rw[if_neg e,if_neg e,if_neg e];exact h k hk h1
theorem Rl{c d:List Int×List Int}{i:Nat}(h:GZ c d)(hf:bt d.2 i=false):GZ (Fp c i) d:=fun k hk h1=>by
 have e:k≠i:=fun e=>by rw[e,hf] at h1;cases h1
 rw[MD c i k hk,ME c i k hk,if_neg e,if_neg e]
 exact h k hk h1
theorem Am1{c:List Int×List Int}{H:List Int}(i:Nat)(h:has c.1 c.2 H=true):has (KF c i (bt H i)).1 (KF c i (bt H i)).2 H=true:=by
 rw[MB] at h ⊢;intro k hk h1;rw[SG c i _ k hk] at h1;rw[SF c i _ k hk];by_cases e:k=i
 ·rw[if_pos e,e]
 ·rw[if_neg e] at h1 ⊢;exact h k hk h1
theorem WQ{H:List Int}{r:List Int×List Int}(h:has r.1 r.2 H=false):∃i,MV H r=some i:=by
 cases e:MV H r with
 | some i=>exact⟨i,rfl⟩
 | none=>
  unfold MV at e;rw[aK] at e
  have:has r.1 r.2 H=true:=(MB _ _ _).2 fun i hi h1=>by
   have:=e i (aT.2 hi);rw[h1] at this;simpa using this
  rw[this] at h;cases h
theorem Aek{H:List Int}{r:List Int×List Int}{i:Nat}(h:MV H r=some i):i<104∧bt r.2 i=true∧bt r.1 i≠bt H i:=by
 have h1:=List.find?_some h;have h2:=List.mem_of_find?_eq_some h;rw[aC,bne_iff_ne] at h1;exact⟨aT.1 h2,h1.1,h1.2⟩
def DD(c:List Int×List Int):Prop:=AK c.1∧AK c.2∧∀i,i<104→bt c.1 i=true→bt c.2 i=true
theorem SJ{c:List Int×List Int}(h:DD c):AZ c.1 c.2=c.1:=
 X0 _ _ (D7 _ _) h.1 fun i hi=>by
  rw[Jp _ _ i hi]
  have:=h.2.2 i hi
  revert this
  cases bt c.1 i <;> cases bt c.2 i <;> simp
theorem PW(V M:List Int)(hM:AK M):DD (AZ V M,M):=⟨D7 _ _,hM,fun i hi h=>by
 dsimp only at h ⊢
 rw[Jp _ _ i hi,aC] at h;exact h.2⟩
theorem SI{c:List Int×List Int}(h:DD c)(i:Nat)(b:Bool):DD (KF c i b):=⟨Gn _ _ _,Gn _ _ _,fun k hk h1=>by
 rw[SF c i b k hk] at h1
 rw[SG c i b k hk]
 by_cases e:k=i
 ·rw[if_pos e]
 ·rw[if_neg e] at h1 ⊢;exact h.2.2 k hk h1⟩
theorem Q8{c:List Int×List Int}(h:DD c)(i:Nat):DD (Fp c i):=⟨Gn _ _ _,Gn _ _ _,fun k hk h1=>by
 rw[MD c i k hk] at h1
 rw[ME c i k hk]
 by_cases e:k=i
 ·rw[if_pos e] at h1;cases h1
 ·rw[if_neg e] at h1 ⊢;exact h.2.2 k hk h1⟩
theorem XX(V M:List Int):GZ (AZ V M,M) (V,M):=fun i hi h=>by
 dsimp only at h ⊢
 rw[Jp _ _ i hi,h,Bool.and_true]
 exact⟨rfl,rfl⟩
theorem Ur(V M:List Int):GZ (V,M) (AZ V M,M):=fun i hi h=>by
 dsimp only at h ⊢
 rw[Jp _ _ i hi,h,Bool.and_true]
 exact⟨rfl,rfl⟩
theorem Aew{H:List Int}{c:List Int×List Int}{r:List Int×List Int}(hc:has c.1 c.2 H=true)(hr:has r.1 r.2 H=false)(hR:DD c):
  has (IZ H c r).1 (IZ H c r).2 H=true∧GZ (IZ H c r) c∧Kp (IZ H c r) r=false∧DD (IZ H c r):=by
 unfold IZ
 cases em:Kp c r with
 | false=>rw[if_neg (by decide)];exact⟨hc,Pe c,em,hR⟩
 | true=>
  rw[if_pos rfl];obtain⟨i,hi⟩:=WQ hr;rw[hi];obtain⟨h1,h2,h3⟩:=Aek hi;refine⟨Am1 i hc,Aop fun h=>((MB _ _ _).1 hc i h1 h),?_,SI hR _ _⟩
  cases e:Kp (KF c i (bt H i)) r with
  | false=>rfl
  | true=>
   have:=(Kr _ _ _ _).1 e i h1 (by rw[SG c i _ i h1,if_pos rfl]) h2;rw[SF c i _ i h1,if_pos rfl] at this;exact absurd this.symm h3
theorem Ol{H:List Int}:∀(A:List (List Int×List Int)) (c:List Int×List Int),has c.1 c.2 H=true→(∀r∈A,has r.1 r.2 H=false)→DD c→
  has (Dh H c A).1 (Dh H c A).2 H=true∧GZ (Dh H c A) c∧(∀r∈A,Kp (Dh H c A) r=false)∧DD (Dh H c A)
 | [],c,hc,_,hR=>⟨hc,Pe c,(fun r hr=>absurd hr (bB)),hR⟩
 | r::A,c,hc,hA,hR=>by
  obtain⟨h1,h2,h3,h4⟩:=Aew hc (hA r aX) hR
  obtain⟨g1,g2,g3,g4⟩:=Ol A (IZ H c r) h1 (fun x hx=>hA x (aV _ hx)) h4
  have e:Dh H c (r::A)=Dh H (IZ H c r) A:=rfl
  rw[e]
  refine⟨g1,LT g2 h2,fun x hx=> ?_,g4⟩
  rcases aL.1 hx with rfl | hx
  ·exact OY g2 h3
  ·exact g3 x hx
theorem Aok(A:List (List Int×List Int))(M:List Int)(c:List Int×List Int)(i:Nat):GZ c (GT A M c i):=by
 unfold GT;split
 ·exact Ani c i
 ·exact Pe c
theorem UI{A:List (List Int×List Int)}{M:List Int}{c:List Int×List Int}(i:Nat)(h:DD c):DD (GT A M c i):=by
 unfold GT;split
 ·exact Q8 h i
 ·exact h
theorem Ad7{A:List (List Int×List Int)}{M:List Int}{c:List Int×List Int}(i:Nat)(h:DH A c=true):DH A (GT A M c i)=true:=by
 unfold GT;split
 ·rename_i g;rw[aC] at g;exact g.2
 ·exact h
theorem Sp{A:List (List Int×List Int)}{d:List Int×List Int}{c:List Int×List Int}(i:Nat)(h:GZ c d):GZ (GT A d.2 c i) d:=by
 unfold GT;split
 ·rename_i g;rw[aC,aC,aM] at g;exact Rl h g.1.1
 ·exact h
theorem Ah9{A:List (List Int×List Int)}{M:List Int}{c:List Int×List Int}{i:Nat}(hi:i<104)(hM:bt M i=false)(h:bt (GT A M c i).2 i=true):DH A (Fp (GT A M c i) i)=false:=by
 unfold GT at h ⊢;split at h
 ·rw[ME c i i hi,if_pos rfl] at h;cases h
 ·rename_i g;rw[if_neg g];rw[hM,h] at g;simpa using g
theorem LJ(A:List (List Int×List Int))(M:List Int)(n:Nat)(c:List Int×List Int):Ef A M (n+1) c=GT A M (Ef A M n c) n:=by
 unfold Ef;rw[List.range_succ,List.foldl_append];rfl
theorem Zl{A:List (List Int×List Int)}{d c:List Int×List Int}(hd:GZ c d)(hc:DH A c=true)(hR:DD c):∀n,n≤104→
  GZ c (Ef A d.2 n c)∧GZ (Ef A d.2 n c) d∧DH A (Ef A d.2 n c)=true∧DD (Ef A d.2 n c)∧
  ∀k,k<n→bt d.2 k=false→bt (Ef A d.2 n c).2 k=true→DH A (Fp (Ef A d.2 n c) k)=false
 | 0,_=>⟨Pe c,hd,hc,hR,fun k hk=>absurd hk (Nat.not_lt_zero k)⟩
 | n+1,hn=>by
  obtain⟨h1,h2,h3,h4,h5⟩:=Zl hd hc hR n (by omega)
  rw[LJ]
  have hw:=Aok A d.2 (Ef A d.2 n c) n
  refine⟨LT h1 hw,Sp n h2,Ad7 n h3,UI n h4,fun k hk hM hb=> ?_⟩
  by_cases e:k=n
  ·subst e;exact Ah9 (by omega) hM hb
  ·exact Zd (Ag0 k hw) (h5 k (by omega) hM (hw k (by omega) hb).1)
theorem Ym{A:List (List Int×List Int)}{c0:List Int×List Int}{H:List Int}(hM:AK c0.2)(h0:has c0.1 c0.2 H=true)(hA:∀r∈A,has r.1 r.2 H=false):
  has (Hl A c0 H).1 (Hl A c0 H).2 H=true∧GZ (Hl A c0 H) c0∧DH A (Hl A c0 H)=true∧DD (Hl A c0 H)∧
  ∀i,i<104→bt c0.2 i=false→bt (Hl A c0 H).2 i=true→DH A (Fp (Hl A c0 H) i)=false:=by
 obtain⟨h1,h2,h3,h4⟩:=Ol A (AZ c0.1 c0.2,c0.2) (QX (Ur c0.1 c0.2) h0) hA (PW _ _ hM)
 have hc:DH A (Dh H (AZ c0.1 c0.2,c0.2) A)=true:=by
  unfold DH;rw[aQ];intro r hr;rw[h3 r hr];rfl
 obtain⟨g1,g2,g3,g4,g5⟩:=Zl (d:=c0) (LT h2 (XX c0.1 c0.2)) hc h4 104 (aB _);exact⟨QX g1 h1,g2,g3,g4,g5⟩
theorem Qc(V M V' M':List Int):DW V M V' M'=DW V' M' V M:=by
 rw[Bool.eq_iff_iff,Kr,Kr];exact⟨fun h i hi h1 h2=>(h i hi h2 h1).symm,fun h i hi h1 h2=>(h i hi h2 h1).symm⟩
def IV(A:List (List Int×List Int))(c0:List Int×List Int):List (List Int×List Int):=A.filter fun r=>DW r.1 r.2 c0.1 c0.2
theorem UJ{c c0:List Int×List Int}(h:GZ c c0):∀A:List (List Int×List Int),DH (IV A c0) c=DH A c
 | []=>rfl
 | r::A=>by
  have ih:=UJ h A
  unfold IV DH at ih ⊢
  rw[bC]
  cases e:DW r.1 r.2 c0.1 c0.2 with
  | true=>rw[if_pos rfl,aW,aW,ih]
  | false=>
   rw[if_neg (by decide),aW,ih]
   have:Kp c r=false:=OY h (by unfold Kp;rw[Qc];exact e)
   rw[this];rfl
theorem Ry{H:List Int}{c0:List Int×List Int}:∀(A:List (List Int×List Int)) (c:List Int×List Int),GZ c c0→has c.1 c.2 H=true→(∀r∈A,has r.1 r.2 H=false)→DD c→Dh H c (IV A c0)=Dh H c A
 | [],_,_,_,_,_=>rfl
 | r::A,c,h,hc,hA,hR=>by
  have hA':∀x∈A,has x.1 x.2 H=false:=fun x hx=>hA x (aV _ hx)
  have e2:Dh H c (r::A)=Dh H (IZ H c r) A:=rfl
  rw[e2]
  unfold IV
  rw[bC]
  cases e:DW r.1 r.2 c0.1 c0.2 with
  | true=>
   rw[if_pos rfl]
   obtain⟨h1,h2,h3,h4⟩:=Aew hc (hA r aX) hR
   exact Ry A (IZ H c r) (LT h2 h) h1 hA' h4
  | false=>
   rw[if_neg (by decide)]
   have:Kp c r=false:=OY h (by unfold Kp;rw[Qc];exact e)
   have e3:IZ H c r=c:=by unfold IZ;rw[this];rfl
   rw[e3]
   exact Ry A c h hc hA' hR
theorem Wi{A:List (List Int×List Int)}{c0 c:List Int×List Int}(h:GZ c c0):∀n,Ef (IV A c0) c0.2 n c=Ef A c0.2 n c∧GZ (Ef A c0.2 n c) c0
 | 0=>⟨rfl,h⟩
 | n+1=>by
  obtain⟨h1,h2⟩:=Wi h n
  rw[LJ,LJ,h1]
  refine⟨?_,Sp n h2⟩
  unfold GT
  cases e:bt c0.2 n with
  | true=>rfl
  | false=>
   rw[UJ (Rl h2 e)]
theorem Agz{A:List (List Int×List Int)}{c0:List Int×List Int}{H:List Int}(hM:AK c0.2)(h0:has c0.1 c0.2 H=true)(hA:∀r∈A,has r.1 r.2 H=false):
  Ef (IV A c0) c0.2 104 (Dh H (AZ c0.1 c0.2,c0.2) (IV A c0))=Hl A c0 H:=by
 have h1:=QX (Ur c0.1 c0.2) h0;have h2:=PW c0.1 c0.2 hM;rw[Ry A _ (XX c0.1 c0.2) h1 hA h2];obtain⟨_,g2,_,_⟩:=Ol A (AZ c0.1 c0.2,c0.2) h1 hA h2;exact(Wi (LT g2 (XX c0.1 c0.2)) 104).1
theorem XH{c:List Int×List Int}(h:DD c)(i:Nat)(b:Bool):L5 c.1 c.2 i b=(KF c i b).1∧IE c.2 i=(KF c i b).2:=by
 unfold L5 IE KF;rw[SJ h];exact⟨rfl,rfl⟩
theorem U6{c:List Int×List Int}(h:DD c)(i:Nat):RK c.1 c.2 i=(Fp c i).1∧JO c.2 i=(Fp c i).2:=by
 refine⟨?_,rfl⟩;unfold RK JO;refine X0 _ _ (D7 _ _) (Gn _ _ _) fun k hk=> ?_;have:=h.2.2 k hk;rw[Jp _ _ k hk,Og _ _ _ k hk,MD c i k hk];by_cases e:k=i
 ·rw[if_pos e,if_pos e,Bool.and_false]
 ·rw[if_neg e,if_neg e];revert this
  cases bt c.1 k <;> cases bt c.2 k <;> simp
def E5(l:List Bp):List (List Int×List Int):=l.map (·.cube)
structure Gd(l:List Bp)(H:List Int)(k:Nat)(r:Bp):Prop where
 at_:l[k]?=some r
 has_:has r.cube.1 r.cube.2 H=true
 ahead:∀x∈E5 (l.take k),has x.1 x.2 H=false
theorem XI(l:List Bp)(H:List Int):(∃k r,Gd l H k r)∨∀x∈l,Kb H x=false:=by
 induction l with
 | nil=>exact .inr fun x hx=>absurd hx (bB)
 | cons a l ih=>
  cases e:Kb H a with
  | true=>exact .inl ⟨0,a,rfl,e,fun x hx=>absurd hx (by simp[E5])⟩
  | false=>
   rcases ih with ⟨k,r,h1,h2,h3⟩ | ih
   ·refine .inl ⟨k+1,r,h1,h2,fun x hx=> ?_⟩;unfold E5 at hx h3;rw[List.take_succ_cons,List.map_cons] at hx;rcases aL.1 hx with rfl | hx
    ·exact e
    ·exact h3 x hx
   ·refine .inr fun x hx=> ?_;rcases aL.1 hx with rfl | hx
    ·exact e
    ·exact ih x hx
theorem Gd.lt{l:List Bp}{H:List Int}{k:Nat}{r:Bp}(h:Gd l H k r):k<l.length:=(aD.1 h.at_).1
theorem Gd.mem{l:List Bp}{H:List Int}{k:Nat}{r:Bp}(h:Gd l H k r):r∈l:=aJ h.at_
theorem Gd.before{l:List Bp}{H:List Int}{k:Nat}{r:Bp}(h:Gd l H k r){j:Nat}{x:Bp}(hj:j<k)(hx:l[j]?=some x):has x.cube.1 x.cube.2 H=false:=by
 refine h.ahead x.cube (List.mem_map.2 ⟨x,?_,rfl⟩);refine aJ (i:=j) ?_;rw[List.getElem?_take_of_lt hj];exact hx
theorem Gd.look{l:List Bp}{H:List Int}{k:Nat}{r:Bp}(h:Gd l H k r):LB l H=(r,true):=by
 unfold LB;rw[Qt (k:=k) (x:=r) ?_ h.at_ h.has_];rw[aK];intro x hx;have:=h.ahead x.cube (List.mem_map.2 ⟨x,hx,rfl⟩);unfold Kb;rw[this];decide
theorem YM{l:List Bp}{H:List Int}(h:∀x∈l,Kb H x=false):LB l H=(KJ,false):=by
 unfold LB;rw[aK.2 fun x hx=>by rw[h x hx];decide]
end
def Gu:Int:=1099511627776
def BR(n:Int):Int:=if n<0 then 0 else if Gu<n then Gu else n
theorem Rz(n:Int):0≤BR n∧BR n≤Gu:=by unfold BR Gu;split;omega;split <;> omega
theorem Ad9{n:Int}(h:n<0):BR n=0:=by unfold BR;rw[if_pos h]
theorem Adb{n:Int}(h:¬n<0)(h':Gu<n):BR n=Gu:=by unfold BR;rw[if_neg h,if_pos h']
theorem Ada{n:Int}(h:¬n<0)(h':¬Gu<n):BR n=n:=by unfold BR;rw[if_neg h,if_neg h']
abbrev Hn:=List Int×List Int
def AJ:Ai:=⟨0,0,0,0,(bE 13 0,bE 13 0),0,0,0,0,0,0⟩
structure Aq where
 c:List Ai
 a:List Ai
 p:List Ai
structure Rm where
 cache:Nat
 auth:Nat
 part:Nat
 idle:Int
 hard:Int
def G4(s x:Ai):Bool:=x.epoch==s.epoch&&x.cube==s.cube
def Co(now epoch:Int)(cu:Hn)(action:Int):Ai:=⟨1,epoch,0,0,cu,action,0,0,BR now,BR now,0⟩
def Cr(room:Nat)(C:List Ai)(s:Ai):List Ai×Ai×Bool×Int:=
 if room=0 then (C,AJ,false,13)
 else match Bc (G4 s) (fun _=>0) C with
  | some (A,_,B)=>(A++s::B,AJ,false,0)
  | none=>if C.length=room then
    match Bc (fun _=>true) (·.used) C with
    | some (A,x,B)=>(A++B++[s],x,true,0)
    | none=>(C++[s],AJ,true,0)
   else (C++[s],AJ,false,0)
theorem Qf(C:List Ai)(s:Ai):Cr 0 C s=(C,AJ,false,13):=by unfold Cr;rw[if_pos rfl]
theorem Rf{room:Nat}{C A B:List Ai}{s x:Ai}(hr:room≠0)(h:Bc (G4 s) (fun _=>0) C=some (A,x,B)):Cr room C s=(A++s::B,AJ,false,0):=by
 unfold Cr;rw[if_neg hr,h]
theorem YO{room:Nat}{C A B:List Ai}{s x:Ai}(hr:room≠0)(h:Bc (G4 s) (fun _=>0) C=none)(hf:C.length=room)(h':Bc (fun _=>true) (·.used) C=some (A,x,B)):Cr room C s=(A++B++[s],x,true,0):=by
 unfold Cr;rw[if_neg hr,h];simp only[if_pos hf,h']
theorem YN{room:Nat}{C:List Ai}{s:Ai}(hr:room≠0)(h:Bc (G4 s) (fun _=>0) C=none)(hf:C.length≠room):Cr room C s=(C++[s],AJ,false,0):=by
 unfold Cr;rw[if_neg hr,h];simp only[if_neg hf]
theorem RL{C:List Ai}(h:C≠[])(k:Ai→Int):∃A x B,Bc (fun _=>true) k C=some (A,x,B):=by
 cases hl:Bc (fun _=>true) k C with
 | none=>
  cases C with
  | nil=>exact absurd rfl h
  | cons x C=>have:=DX.1 hl x (by simp);cases this
 | some r=>exact⟨_,_,_,rfl⟩
theorem KW(room:Nat)(C:List Ai)(s:Ai):
  (room=0∧Cr room C s=(C,AJ,false,13))∨
  (room≠0∧∃A x B,GR (G4 s) (fun _=>0) C A x B∧Cr room C s=(A++s::B,AJ,false,0))∨
  (room≠0∧(∀y∈C,G4 s y=false)∧C.length=room∧∃A x B,GR (fun _=>true) (·.used) C A x B∧Cr room C s=(A++B++[s],x,true,0))∨
  (room≠0∧(∀y∈C,G4 s y=false)∧C.length≠room∧Cr room C s=(C++[s],AJ,false,0)):=by
 by_cases hr:room=0
 ·subst hr;exact .inl ⟨rfl,Qf _ _⟩
 ·right
  cases h:Bc (G4 s) (fun _=>0) C with
  | some r=>
   obtain⟨A,x,B⟩:=r;exact .inl ⟨hr,A,x,B,Ez h,Rf hr h⟩
  | none=>
   right;by_cases hf:C.length=room
   ·left;obtain⟨A,x,B,h'⟩:=RL (C:=C) (fun e=>hr (by rw[←hf,e];rfl)) (·.used);exact⟨hr,DX.1 h,hf,A,x,B,Ez h',YO hr h hf h'⟩
   ·right;exact⟨hr,DX.1 h,hf,YN hr h hf⟩
theorem Ab7(room:Nat)(C:List Ai)(s:Ai)(h:C.length≤room):(Cr room C s).1.length≤room:=by
 rcases KW room C s with ⟨_,e⟩ | ⟨_,A,x,B,⟨h1,_⟩,e⟩ | ⟨_,_,hf,A,x,B,⟨h1,_⟩,e⟩ | ⟨_,_,hf,e⟩
 ·rw[e];exact h
 ·rw[e];rw[h1] at h;simpa using h
 ·rw[e];rw[h1] at hf;simp at hf ⊢;omega
 ·rw[e];simp;omega
theorem Tc{P:Ai→Prop}(room:Nat)(C:List Ai)(s:Ai)(h:∀x∈C,P x)(hs:P s):∀x∈(Cr room C s).1,P x:=by
 rcases KW room C s with ⟨_,e⟩ | ⟨_,A,x,B,⟨h1,_⟩,e⟩ | ⟨_,_,hf,A,x,B,⟨h1,_⟩,e⟩ | ⟨_,_,hf,e⟩
 ·rw[e];exact h
 ·rw[e];subst h1;intro y hy;rcases aG.1 hy with h2 | h2
  ·exact h y (by simp[h2])
  ·rcases aL.1 h2 with rfl | h2
   ·exact hs
   ·exact h y (by simp[h2])
 ·rw[e];subst h1;intro y hy;rcases aG.1 hy with h2 | h2
  ·rcases aG.1 h2 with h3 | h3
   ·exact h y (by simp[h3])
   ·exact h y (by simp[h3])
  ·obtain rfl:y=s:=by simpa using h2
   exact hs
 ·rw[e];intro y hy;rcases aG.1 hy with h2 | h2
  ·exact h y h2
  ·obtain rfl:y=s:=by simpa using h2
   exact hs
def Rs(s y:Ai):Bool:=y.epoch==s.epoch&&y.place==s.place
def Gi(s:Ai)(cu:Hn):Ai:={s with cube:=cu,born:=0,used:=0,count:=0}
def I7(room:Nat)(D:List Ai)(s:Ai)(cu:Hn):List Ai×Int:=
 if D.any (Rs s)=true then (D,9) else if D.length=room then (D,13) else (D++[Gi s cu],0)
theorem Pb(room:Nat)(D:List Ai)(s:Ai)(cu:Hn):
  (D.any (Rs s)=true∧I7 room D s cu=(D,9))∨(D.any (Rs s)=false∧D.length=room∧I7 room D s cu=(D,13))∨(D.any (Rs s)=false∧D.length≠room∧I7 room D s cu=(D++[Gi s cu],0)):=by
 unfold I7
 cases h:D.any (Rs s) with
 | true=>left;exact⟨rfl,by rw[if_pos rfl]⟩
 | false=>
  right;rw[if_neg (by simp)];by_cases hf:D.length=room
  ·left;exact⟨rfl,hf,by rw[if_pos hf]⟩
  ·right;exact⟨rfl,hf,by rw[if_neg hf]⟩
theorem Xd(room:Nat)(D:List Ai)(s:Ai)(cu:Hn)(h:D.length≤room):(I7 room D s cu).1.length≤room:=by
 rcases Pb room D s cu with ⟨_,e⟩ | ⟨_,_,e⟩ | ⟨_,hf,e⟩ <;> rw[e]
 ·exact h
 ·exact h
 ·simp;omega
theorem RM{P:Ai→Prop}(room:Nat)(D:List Ai)(s:Ai)(cu:Hn)(h:∀x∈D,P x)(hs:P (Gi s cu)):∀x∈(I7 room D s cu).1,P x:=by
 rcases Pb room D s cu with ⟨_,e⟩ | ⟨_,_,e⟩ | ⟨_,hf,e⟩ <;> rw[e]
 ·exact h
 ·exact h
 ·intro y hy;rcases aG.1 hy with h2 | h2
  ·exact h y h2
  ·obtain rfl:y=Gi s cu:=by simpa using h2
   exact hs
def J6(S:Aq)(mt:Ai→Bool):Option (Nat×List Ai×Ai×List Ai):=
 match Bc mt (fun _=>0) S.c with
 | some r=>some (1,r)
 | none=>match Bc mt (·.order) S.a with
  | some r=>some (2,r)
  | none=>(Bc mt (·.order) S.p).map fun r=>(3,r)
def Arx(S:Aq)(mt:Ai→Bool):Ai×Bool:=match J6 S mt with | some (_,_,x,_)=>(x,true) | none=>(AJ,false)
def Hz(now:Int)(b:Nat)(x:Ai):Ai:={x with count:=if x.count<Gu then x.count+1 else x.count,used:=if b=1 then BR now else x.used}
def Lo(S:Aq)(b:Nat)(l:List Ai):Aq:=if b=1 then {S with c:=l} else if b=2 then {S with a:=l} else {S with p:=l}
def DG(S:Aq)(mt:Ai→Bool)(now:Int):Aq×Ai×Bool:=match J6 S mt with
 | some (b,A,x,B)=>(Lo S b (A++Hz now b x::B),Hz now b x,true)
 | none=>(S,AJ,false)
theorem JY(S:Aq)(mt:Ai→Bool):
  (∃A x B,GR mt (fun _=>0) S.c A x B∧J6 S mt=some (1,A,x,B))∨
  ((∀y∈S.c,mt y=false)∧∃A x B,GR mt (·.order) S.a A x B∧J6 S mt=some (2,A,x,B))∨
  ((∀y∈S.c,mt y=false)∧(∀y∈S.a,mt y=false)∧∃A x B,GR mt (·.order) S.p A x B∧J6 S mt=some (3,A,x,B))∨
  ((∀y∈S.c,mt y=false)∧(∀y∈S.a,mt y=false)∧(∀y∈S.p,mt y=false)∧J6 S mt=none):=by
 unfold J6
 cases h1:Bc mt (fun _=>0) S.c with
 | some r=>
  obtain⟨A,x,B⟩:=r;exact .inl ⟨A,x,B,Ez h1,rfl⟩
 | none=>
  right
  cases h2:Bc mt (·.order) S.a with
  | some r=>
   obtain⟨A,x,B⟩:=r;exact .inl ⟨DX.1 h1,A,x,B,Ez h2,rfl⟩
  | none=>
   right
   cases h3:Bc mt (·.order) S.p with
   | some r=>
    obtain⟨A,x,B⟩:=r;exact .inl ⟨DX.1 h1,DX.1 h2,A,x,B,Ez h3,rfl⟩
   | none=>exact .inr ⟨DX.1 h1,DX.1 h2,DX.1 h3,rfl⟩
theorem UW{L:List Ai}{i:Nat}(s:Ai)(h:i<L.length):L.set i s=L.take i++s::L.drop (i+1):=by
 rw[List.set_eq_take_append_cons_drop,if_pos h]
def Hf(a b:Int)(x:Ai):Bool:=(x.epoch==a) || (x.epoch==b)
def JE(S:Aq)(a b:Int):Aq:=⟨S.c.filter (Hf a b),S.a.filter (Hf a b),S.p.filter (Hf a b)⟩
def MU(idle hard now:Int)(x:Ai):Bool:=(decide (idle≠0)&&decide (idle≤BR now-x.used)) || (decide (hard≠0)&&decide (hard≤BR now-x.born))
def QE(idle hard now:Int)(S:Aq):Aq×List Ai:=({S with c:=S.c.filter fun x=> !(MU idle hard now x)},S.c.filter (MU idle hard now))
end Go.Proofs.YtbhkoipcpcoooaaGreat
