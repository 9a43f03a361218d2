import Derived.Test.YtbhkoipcpcoooabGreatJ3
import Derived.Lib.BitFns
import Derived.Great.BuildSlice
import Derived.Laws.AppendOwn
import Derived.Laws.OwnMore
import Derived.WalkMore
import Derived.Test.YtbhkoipcpcoooabGreatJ1
namespace Go.Proofs.YtbhkoipcpcoooabGreat
set_option maxRecDepth 20000
set_option maxHeartbeats 64000000
open Go
open Go.Proofs.Tryz renaming prog → aA
open _root_.Nat renaming le_refl → aB, le_trans → aO
open _root_.Bool renaming and_eq_true → aC, not_eq_true' → aM
open _root_.List renaming getElem?_eq_some_iff → aD, mem_append → aG, mem_of_getElem? → aJ, find?_eq_none → aK, mem_cons → aL, range → aN, all_eq_true → aQ, mem_range → aT, mem_cons_of_mem → aV, all_cons → aW, mem_cons_self → aX, find?_append → aZ, length_cons → bA, not_mem_nil → bB, filter_cons → bC, replicate → bE
open Go.RowKit.Below renaming refl → aH
open Go.Region renaming wanted → aI
open Go.Sem renaming run_bind → aP
section
open Go.RowKit
theorem Pc(i:Int)(w:World)(h0:0≤i)(h1:i<104):
  Calls aA 146 #[.int .i64 i] w fun e w'=>e=.returned (.bool true)∧w'=w:=by
 go_enter Tryz.func146,Tryz.ntmps146;go_wp2;go_ret;exact⟨Ef (by simp),rfl⟩
def EG(L:List Int)(i:Nat)(b:Bool):List Int:=mk fun k=>if k=i then b else bt L k
theorem EF(L:List Int)(i:Nat)(b:Bool):Ax (EG L i b):=Ik _
theorem KF(L:List Int)(i:Nat)(b:Bool)(k:Nat)(hk:k<104):bt (EG L i b) k=if k=i then b else bt L k:=OJ _ k hk
theorem Wu(L:List Int)(hL:Ax L)(i:Nat)(b:Bool)(h:bt L i=b):EG L i b=L:=
 (Ke L hL _ fun k _=>by
  by_cases e:k=i
  ·rw[if_pos e,e,h]
  ·rw[if_neg e]).symm
theorem GG(L:List Int)(hL:Ax L)(i:Nat)(hi:i<104)(w:World):
  Calls aA 132 #[.agg (hv L),.int .i64 (i:Int)] w fun e w'=>e=.returned (.bool (bt L i))∧Below w.heap.size w w':=by
 have:=Adp L hL i w;rwa [Jy L i hi] at this
theorem RP(L:List Int)(hL:Ax L)(i:Nat)(hi:i<104)(w:World):
  Calls aA 143 #[.agg (hv L),.int .i64 (i:Int)] w fun e w'=>e=.returned (.bool (bt L i))∧Below w.heap.size w w':=by
 have:=Jj L hL i w;rwa [Jy L i hi] at this
theorem RI(L:List Int)(hL:Ax L)(i:Nat)(hi:i<104)(b:Bool)(w:World):
  Calls aA 142 #[.agg (hv L),.int .i64 (i:Int),.bool b] w fun e w'=>e=.returned (.agg (hv (EG L i b)))∧Below w.heap.size w w':=by
 have:=UM L hL i b w (by omega) (by omega);rwa [Abt L hL i b hi] at this
theorem ZE(L:List Int)(hL:Ax L)(i:Nat)(hi:i<104)(b:Bool)(h:bt L i≠b)(w:World):
  Calls aA 154 #[.agg (hv L),.int .i64 (i:Int)] w fun e w'=>e=.returned (.agg (hv (EG L i b)))∧Below w.heap.size w w':=by
 have:=ZH L hL i w;rw[ZI L hL i hi] at this
 rwa [show EG L i b=mk fun k=>if k=i then !(bt L k) else bt L k from OI _ _ fun k _=>by
  by_cases e:k=i
  ·rw[if_pos e,if_pos e,e];revert h;cases bt L i <;> cases b <;> simp
  ·rw[if_neg e,if_neg e]]
theorem Pu(L:List Int)(hL:Ax L)(i:Nat)(hi:i<104)(b:Bool)(w:World):
  Calls aA 147 #[.agg (hv L),.int .i64 (i:Int),.bool b] w fun e w'=>e=.returned (.agg (hv (EG L i b)))∧Below w.heap.size w w':=by
 have hl:=hL.1;by_cases h:bt L i=b
 ·rw[Wu L hL i b h]
  have CB:Hid (∀W,Calls aA 132 #[.agg (hv L),.int .i64 (i:Int)] W fun e w'=>e=.returned (.bool b)∧Below W.heap.size W w'):=by
   have:=GG L hL i hi;rwa [h] at this
  clear h;go_enter Tryz.func147,Tryz.ntmps147;go_wp2_with (refine Dk rfl _ rfl w.heap.size rfl L (Af _ _ _ _ (Ac _ _ _ rfl)) hl ?_);refine(CB.out _).mono ?_;rintro e w1 ⟨rfl,hb1⟩
  have g1:w1.heap[w.heap.size]?=some (.cells (hv L) 23 (0,0)):=by
   rw[hb1.block _ (by simp;omega)];exact Af _ _ _ _ (Ac _ _ _ rfl)
  have g2:w1.heap[w.heap.size+1]?=some (.cells H7 23 (0,0)):=by
   rw[hb1.block _ (by simp)];exact Ac _ _ _ (by simp)
  have hB1:Below w.heap.size w w1:=(((aH _ _).alloc (aB _) _).alloc (by simp) _).trans (hb1.mono (by simp;omega));clear hb1;have hn:(b !=b)=false:=by simp
  go_wp2_with (first
   | (refine Dk rfl _ rfl w.heap.size rfl L g1 hl ?_)
   | (refine FV rfl _ _ rfl (w.heap.size+1) L rfl rfl _ g2 rfl hl _ rfl ?_))
  refine Ld (p:=6) rfl rfl (w.heap.size+1) rfl L hl (setRow_heap _ _ _ _ _ _ g2) ⟨rfl,?_⟩;exact Ak hB1 (by omega) _
 ·have CB:Hid (∀W,Calls aA 132 #[.agg (hv L),.int .i64 (i:Int)] W fun e w'=>e=.returned (.bool (!b))∧Below W.heap.size W w'):=by
   have:=GG L hL i hi;rwa [show bt L i= !b by revert h;cases bt L i <;> cases b <;> simp] at this
  have CF:Hid (∀W,Calls aA 154 #[.agg (hv L),.int .i64 (i:Int)] W fun e w'=>e=.returned (.agg (hv (EG L i b)))∧Below W.heap.size W w'):=ZE L hL i hi b h;have hsl:=(EF L i b).1;have hn:((!b) !=b)=true:=by cases b <;> rfl
  clear h;go_enter Tryz.func147,Tryz.ntmps147;go_wp2_with (refine Dk rfl _ rfl w.heap.size rfl L (Af _ _ _ _ (Ac _ _ _ rfl)) hl ?_);refine(CB.out _).mono ?_;rintro e w1 ⟨rfl,hb1⟩
  have g1:w1.heap[w.heap.size]?=some (.cells (hv L) 23 (0,0)):=by
   rw[hb1.block _ (by simp;omega)];exact Af _ _ _ _ (Ac _ _ _ rfl)
  have g2:w1.heap[w.heap.size+1]?=some (.cells H7 23 (0,0)):=by
   rw[hb1.block _ (by simp)];exact Ac _ _ _ (by simp)
  have hB1:Below w.heap.size w w1:=(((aH _ _).alloc (aB _) _).alloc (by simp) _).trans (hb1.mono (by simp;omega));have hz1:=hb1.size;simp only[World.size_alloc] at hz1;clear hb1
  go_wp2_with (first
   | (refine Dk rfl _ rfl w.heap.size rfl L g1 hl ?_))
  refine(CF.out _).mono ?_;rintro e w2 ⟨rfl,hb2⟩
  have g3:w2.heap[w.heap.size+1]?=some (.cells H7 23 (0,0)):=by
   rw[hb2.block _ (by omega)];exact g2
  have hB2:Below w.heap.size w w2:=hB1.trans (hb2.mono hB1.size);clear hb2
  go_wp2_with (first
   | (refine FV rfl _ _ rfl (w.heap.size+1) (EG L i b) rfl rfl _ g3 rfl hsl _ rfl ?_))
  refine Ld (p:=6) rfl rfl (w.heap.size+1) rfl _ hsl (setRow_heap _ _ _ _ _ _ g3) ⟨rfl,?_⟩;exact Ak hB2 (by omega) _
def Jb(V M:List Int)(i:Nat)(b:Bool):List Int:=EG (AH V M) i b
def F8(M:List Int)(i:Nat):List Int:=EG M i true
theorem Aev(V M:List Int)(hV:Ax V)(hM:Ax M)(i:Nat)(b:Bool)(hi:i<104)(w:World):
  Calls aA 136 #[.agg (cv V M),.int .i64 (i:Int),.bool b] w fun e w'=>e=.returned (.tuple #[.agg (cv (Jb V M i b) (F8 M i)),.int .i64 0])∧Below w.heap.size w w':=by
 have hVl:=hV.1;have hMl:=hM.1;have hCl:=(Dj V M).1;have hFl:(F8 M i).length=13:=(EF M i true).1;have hGl:(Jb V M i b).length=13:=(EF _ i b).1;have CC:Hid (∀W,Calls aA 112 #[.agg (cv V M)] W fun e w'=>e=.returned (.agg (cv (AH V M) M))∧Below W.heap.size W w'):=FP V M hV hM;have C1:Hid (∀W,Calls aA 147 #[.agg (hv M),.int .i64 (i:Int),.bool true] W fun e w'=>e=.returned (.agg (hv (F8 M i)))∧Below W.heap.size W w'):=Pu M hM i hi true;have C2:Hid (∀W,Calls aA 147 #[.agg (hv (AH V M)),.int .i64 (i:Int),.bool b] W fun e w'=>e=.returned (.agg (hv (Jb V M i b)))∧Below W.heap.size W w'):=Pu _ (Dj V M) i hi b;clear hV hM;go_enter Tryz.func136,Tryz.ntmps136;have g0:((w.alloc (.cells (cv V M) 25)).alloc (.cells Az 25)).heap[w.heap.size]?=some (.cells (cv V M) 25 (0,0)):=Af _ _ _ _ (Ac _ _ _ rfl);have g1:((w.alloc (.cells (cv V M) 25)).alloc (.cells Az 25)).heap[w.heap.size+1]?=some (.cells Az 25 (0,0)):=Ac _ _ _ (by simp);have hb:Below w.heap.size w ((w.alloc (.cells (cv V M) 25)).alloc (.cells Az 25)):=((aH _ _).alloc (aB _) _).alloc (by simp) _;have hsz:w.heap.size+2≤((w.alloc (.cells (cv V M) 25)).alloc (.cells Az 25)).heap.size:=by simp
 go_wp2_with (first
  | (go_at_call 146;refine(Pc _ _ (by omega) (by omega)).mono ?_;rintro e w' ⟨rfl,rfl⟩)
  | (refine Cl rfl _ rfl w.heap.size rfl V M g0 hVl hMl ?_))
 refine(CC.out _).mono ?_;rintro e w1 ⟨rfl,hb1⟩;have k0:w1.heap[w.heap.size]?=some (.cells (cv V M) 25 (0,0)):=by rw[hb1.block _ (by simp;omega)];exact g0
 have k1:w1.heap[w.heap.size+1]?=some (.cells Az 25 (0,0)):=by rw[hb1.block _ (by simp)];exact g1
 have hz1:w.heap.size+2≤w1.heap.size:=aO hsz hb1.size;have hB1:=hb.trans (hb1.mono hb.size);clear g0 g1 hb hsz hb1 CC;have l0:(w1.setRow w.heap.size (cv (AH V M) M)).heap[w.heap.size]?=some (.cells (cv (AH V M) M) 25 (0,0)):=setRow_heap _ _ _ _ _ _ k0;have l1:(w1.setRow w.heap.size (cv (AH V M) M)).heap[w.heap.size+1]?=some (.cells Az 25 (0,0)):=(setRow_other _ _ _ _ (by omega)).trans k1
 go_wp2_with (first
  | (refine Bq rfl _ _ rfl w.heap.size (AH V M) M rfl rfl _ k0 (AO _ _ hVl hMl) hCl hMl _ rfl ?_)
  | (refine IA rfl _ rfl w.heap.size rfl (AH V M) M l0 hCl hMl ?_))
 refine(C1.out _).mono ?_;rintro e w2 ⟨rfl,hb2⟩;have m0:w2.heap[w.heap.size]?=some (.cells (cv (AH V M) M) 25 (0,0)):=by rw[hb2.block _ (by simp;omega)];exact l0
 have m1:w2.heap[w.heap.size+1]?=some (.cells Az 25 (0,0)):=by rw[hb2.block _ (by simp;omega)];exact l1
 have hz2:w.heap.size+2≤w2.heap.size:=aO (by simpa using hz1) hb2.size;have hB2:=(Ak hB1 (aB _) (cv (AH V M) M)).trans (hb2.mono (by simpa using hB1.size));clear l0 l1 k0 k1 hB1 hb2 hz1 C1;have n0:(w2.setRow w.heap.size (cv (AH V M) (F8 M i))).heap[w.heap.size]?=some (.cells (cv (AH V M) (F8 M i)) 25 (0,0)):=setRow_heap _ _ _ _ _ _ m0;have n1:(w2.setRow w.heap.size (cv (AH V M) (F8 M i))).heap[w.heap.size+1]?=some (.cells Az 25 (0,0)):=(setRow_other _ _ _ _ (by omega)).trans m1
 go_wp2_with (first
  | (refine LP rfl _ _ rfl w.heap.size rfl (AH V M) M (F8 M i) rfl hCl hMl hFl m0 _ rfl ?_)
  | (refine Nk rfl _ rfl w.heap.size rfl (AH V M) (F8 M i) n0 hCl ?_))
 refine(C2.out _).mono ?_;rintro e w3 ⟨rfl,hb3⟩;have p0:w3.heap[w.heap.size]?=some (.cells (cv (AH V M) (F8 M i)) 25 (0,0)):=by rw[hb3.block _ (by simp;omega)];exact n0
 have p1:w3.heap[w.heap.size+1]?=some (.cells Az 25 (0,0)):=by rw[hb3.block _ (by simp;omega)];exact n1
 have hB3:=(Ak hB2 (aB _) (cv (AH V M) (F8 M i))).trans (hb3.mono (by simpa using hB2.size));clear m0 m1 n0 n1 hB2 hb3 hz2 C2;have q0:(w3.setRow w.heap.size (cv (Jb V M i b) (F8 M i))).heap[w.heap.size]?=some (.cells (cv (Jb V M i b) (F8 M i)) 25 (0,0)):=setRow_heap _ _ _ _ _ _ p0;have q1:(w3.setRow w.heap.size (cv (Jb V M i b) (F8 M i))).heap[w.heap.size+1]?=some (.cells Az 25 (0,0)):=(setRow_other _ _ _ _ (by omega)).trans p1
 go_wp2_with (first
  | (refine P5 rfl _ _ rfl w.heap.size rfl (AH V M) (F8 M i) (Jb V M i b) rfl hCl hFl hGl p0 _ rfl ?_)
  | (refine Cl rfl _ rfl w.heap.size rfl (Jb V M i b) (F8 M i) q0 hGl hFl ?_)
  | (refine Bq rfl _ _ rfl (w.heap.size+1) (Jb V M i b) (F8 M i) rfl rfl _ q1 rfl hGl hFl _ rfl ?_))
 refine Kc (p:=6) (u:=7) rfl rfl (w.heap.size+1) rfl _ _ hGl hFl (setRow_heap _ _ _ _ _ _ q1) _ rfl ⟨rfl,?_⟩;exact Ak (Ak hB3 (aB _) _) (by omega) _
theorem Hq{P:Program}{md:Region.Mode}{ops:Array Oper}{Q:Exit→Act→World→Prop}{fuel:Nat}{listed:Array Bool}{a:Act}{w:World}(rs:List Nat)(hr:Region.ready md ops listed=rs)(hne:rs≠[])
  (h:∀i∈rs,wpOp P ops Q i (wpAny P md ops Q fuel (listed.setIfInBounds i true)) a w):wpAny P md ops Q (fuel+1) listed a w:=
 ⟨fun h0=>absurd (hr.symm.trans h0) hne,fun i hi=>h i (hr▸hi)⟩
theorem GQ{P:Program}{ops:Array Oper}{Q:Exit→Act→World→Prop}{i:Nat}{o:Oper}{K:Act→World→Prop}{a:Act}{w w':World}{v:Value}(hi:ops[i]?=some o)(hg:o.guard=none)(hr:(execOp a.eval o).run P w=.ok (.value v) w')(h:K (a.put o.dst v) w'):wpOp P ops Q i K a w:=by
 have hw:aI o (yielded ops a.tmps)=true:=by unfold aI;rw[hg]
 unfold Go.wpOp;simp only[hi,hw,if_true];left;unfold Oper.wp;rw[hr];exact h
theorem LM{P:Program}{ops:Array Oper}{Q:Exit→Act→World→Prop}{i:Nat}{o:Oper}{K:Act→World→Prop}{a:Act}{w w':World}(hi:ops[i]?=some o)(hg:o.guard=none)(hr:(execOp a.eval o).run P w=.ok .skip w')(h:K (a.put o.dst undef) w'):wpOp P ops Q i K a w:=by
 have hw:aI o (yielded ops a.tmps)=true:=by unfold aI;rw[hg]
 unfold Go.wpOp;simp only[hi,hw,if_true];left;unfold Oper.wp;rw[hr];exact h
theorem Rb(a:Act)(o:Oper)(w:World)(ty:TypeId)(x y:Operand)(ho:o.op=.store ty x y)(g:Nat)(cells:Array Value)(hx:a.eval x=.pointer (some ⟨g,0,none⟩))(hy:a.eval y=.agg cells)(t:TypeId)(old:Array Value)(hg:w.heap[g]?=some (.cells old t (0,0)))
  (hi:(aA.info? ty).map (·.size)=some cells.size) (hold:old.size=cells.size) (h1:cells.all (·.oneCell')=true):(execOp a.eval o).run aA w=.ok .skip (w.setRow g cells):=by
 unfold execOp;simp only[ho,hx,hy,Instr.storeAt,Instr.sureAddr,aP,Sem.run_pure,Result.andThen_ok,run_storeVar_row w g t ty old cells hg hi hold h1]
theorem Ol(a:Act)(o:Oper)(w:World)(x y:Operand)(ho:o.op=.store 25 x y)(g:Nat)(V M:List Int)(hx:a.eval x=.pointer (some ⟨g,0,none⟩))(hy:a.eval y=.agg (cv V M))(old:Array Value)(hg:w.heap[g]?=some (.cells old 25 (0,0)))(hold:old.size=26)(hV:V.length=13)(hM:M.length=13):(execOp a.eval o).run aA w=.ok .skip (w.setRow g (cv V M)):=
 Rb a o w _ x y ho g _ hx hy _ old hg (Ka V M hV hM) (by rw[AO V M hV hM,hold]) (FL V M)
def Hl(H:List Int)(r:AN):Bool:=has r.cube.1 r.cube.2 H
def Ii:AN:=⟨0,(Z,Z),0⟩
def IK(l:List AN)(H:List Int):AN×Bool:=match l.find? (Hl H) with
 | some r=>(r,true)
 | none=>(Ii,false)
theorem PJ{α:Type}{p:α→Bool}{l:List α}{k:Nat}{x:α}(h:(l.take k).find? p=none)(hx:l[k]?=some x)(hp:p x=false):(l.take (k+1)).find? p=none:=by
 rw[List.take_add_one,hx,aZ,h];simp[hp]
theorem Mr{α:Type}{p:α→Bool}{l:List α}{k:Nat}{x:α}(h:(l.take k).find? p=none)(hx:l[k]?=some x)(hp:p x=true):l.find? p=some x:=by
 obtain⟨hk,rfl⟩:=aD.1 hx
 conv=>lhs;rw[←List.take_append_drop k l]
 rw[aZ,h,List.drop_eq_getElem_cons hk,List.find?_cons,hp];rfl
theorem Np:D0 Ii:=⟨AX,AX⟩
theorem Aat{fn:Func}{R:Ending→World→Prop}{a:Act}{w:World}{p u:Tmp}(hr:fn.results=#[.cell p 174,.tmp u])(hd:a.defers=[])(g:Nat)(hp:a.tmps.getD p undef=.pointer (some ⟨g,0,none⟩))(r:AN)(hk:D0 r)
  (hg:w.heap[g]?=some (.cells (AE r) 174 (0,0))) (v:Value) (hv:a.tmps.getD u undef=v) (h:R (.returned (.tuple #[.agg (AE r),v])) w):bodyPost aA fn R .ret a w:=by
 refine bodyPost_ret (v:=.tuple #[.agg (AE r),v]) ?_ hd h;have hl:=Fg.load w g 0 _ _ _ (AE r) (Ek hk) hg (AA _ _);unfold Dh at hl;simp only at hl;have hp':a.tmps[p]?.getD undef=.pointer (some ⟨g,0,none⟩):=by simpa using hp
 have hv':a.tmps[u]?.getD undef=v:=by simpa using hv
 simp[results,hr,hp',hv',hl,asAddr]
def DF(w:World)(v:Value)(l:List AN):Prop:=EC Dh AE w v l
set_option maxRecDepth 100000 in
theorem Sb(l:List AN)(hl0:∀r∈l,D0 r)(vl:Value)(H:List Int)(hH:Ax H)(w:World)(hl:DF w vl l):
  Calls aA 113 #[vl,.agg (hv H)] w fun e w'=>e=.returned (.tuple #[.agg (AE (IK l H).1),.bool (IK l H).2])∧Below w.heap.size w w':=by
 have hHl:=hH.1;have HA:Hid (∀(V M:List Int) W,Ax V→Ax M→Calls aA 122 #[.agg (cv V M),.agg (hv H)] W fun e w'=>e=.returned (.bool (has V M H))∧Below W.heap.size W w'):=fun V M W h1 h2=>Uj V M H h1 h2 hH W;obtain⟨o,cap,rfl,hc1,hc2⟩:=EC.slice hl;obtain⟨n,hn0⟩:=eX l.length;have HN:Hid (n=l.length):=hn0;rw[←hn0] at hl hc1 ⊢;have HL:Hid (DF w (.slice o n cap) l):=hl;have HOK:Hid (∀r∈l,D0 r):=hl0;unfold maxLen at hc2;have K0:Hid (((w.alloc (.cells (hv H) 23)).alloc (.cells Dh.zero 174)).heap[w.heap.size]?=some (.cells (hv H) 23 (0,0))∧((w.alloc (.cells (hv H) 23)).alloc (.cells Dh.zero 174)).heap[w.heap.size+1]?=some (.cells Dh.zero 174 (0,0))):=⟨Af _ _ _ _ (Ac _ _ _ rfl),Ac _ _ _ (by simp)⟩;have B0:Hid (Below w.heap.size w ((w.alloc (.cells (hv H) 23)).alloc (.cells Dh.zero 174))):=((aH _ _).alloc (aB _) _).alloc (by simp) _;obtain⟨S,hS⟩:=eX (IK l H);have HS:Hid (S=IK l H):=hS;rw[←hS];clear hl hn0 hl0 hS;go_enter Tryz.func113,Tryz.ntmps113;go_wp2_with fail;go_loopw [10] (fun i wr=> ∃k:Nat,k≤n∧i=.int .i64 (k:Int)∧Hid ((l.take k).find? (Hl H)=none)∧wr.heap[w.heap.size]?=some (.cells (hv H) 23 (0,0))∧wr.heap[w.heap.size+1]?=some (.cells Dh.zero 174 (0,0))∧Below w.heap.size w wr) (fun i _=>n-(intOf i).toNat)
 case atStart=>exact⟨0,Nat.zero_le _,rfl,rfl,K0.out.1,K0.out.2,B0.out⟩
 case round=>
  clear K0 B0;obtain⟨k,hk,rfl,HF,h1,h2,hb⟩:=hrel;have R1:Hid (wr.heap[w.heap.size]?=some (.cells (hv H) 23 (0,0))):=h1;have R2:Hid (wr.heap[w.heap.size+1]?=some (.cells Dh.zero 174 (0,0))):=h2;have HB:Hid (Below w.heap.size w wr):=hb;clear h1 h2 hb;by_cases hlt:k<n
  ·have hlt':(k:Int)<(n:Int):=by omega
   obtain⟨g,off,cur,ty,fr,r,rfl,hg,hc,hxk⟩:=(EC.below HL.out HB.out).at k hlt;have hr:D0 r:=HOK.out r (aJ hxk);have HR:Hid (D0 r):=hr;have hsz:=Ek hr;have K1:Hid (wr.heap[g]?=some (.cells cur ty fr)):=hg;have H1:Hid (∀j,j<28→cur[off+k*28+j]?=(AE r)[j]?):=hc;have KN:Hid ((wr.alloc (.cells (AE r) 174)).heap[wr.heap.size]?=some (.cells (AE r) 174 (0,0))):=Ac _ _ _ rfl;have RN1:Hid ((wr.alloc (.cells (AE r) 174)).heap[w.heap.size]?=some (.cells (hv H) 23 (0,0))):=Af _ _ _ _ R1.out;have RN2:Hid ((wr.alloc (.cells (AE r) 174)).heap[w.heap.size+1]?=some (.cells Dh.zero 174 (0,0))):=Af _ _ _ _ R2.out;have BN:Hid (Below w.heap.size w (wr.alloc (.cells (AE r) 174))):=HB.out.alloc HB.out.size _;have HX:Hid (l[k]?=some r):=hxk;clear hg hc hxk hr
   go_wp2_with (first
    | (refine Fu (E:=Dh) Fg rfl _ rfl g (off+k*28) rfl cur ty fr (AE r) hsz K1.out H1.out ?_)
    | (refine FM (E:=Dh) Fg rfl _ _ rfl wr.heap.size (AE r) (GC HR.out) rfl rfl _ (Ac _ _ _ rfl) rfl _ (BD _ _ _ _ _ rfl) ?_)
    | (refine LR rfl _ rfl wr.heap.size 1 rfl _ _ _ r.cube.1 r.cube.2 HR.out.1.1 HR.out.2.1 KN.out (Hv HR.out).2.1 ?_)
    | (refine Dk rfl _ rfl w.heap.size rfl H RN1.out hHl ?_))
   refine(HA.out r.cube.1 r.cube.2 _ HR.out.1 HR.out.2).mono ?_;rintro e w1 ⟨rfl,hb1⟩;have B1:Hid (Below w.heap.size w w1):=BN.out.trans (hb1.mono BN.out.size);have KR:Hid (w1.heap[wr.heap.size]?=some (.cells (AE r) 174 (0,0))):=(hb1.block _ (by simp)).trans KN.out;have R3:Hid (w1.heap[w.heap.size]?=some (.cells (hv H) 23 (0,0))):=(hb1.block _ (gS RN1.out)).trans RN1.out;have R4:Hid (w1.heap[w.heap.size+1]?=some (.cells Dh.zero 174 (0,0))):=(hb1.block _ (gS RN2.out)).trans RN2.out;clear hb1
   cases hhas:has r.cube.1 r.cube.2 H with
   | true=>
    have HE:Hid (S=(r,true)):=by
     show _=_;rw[HS.out];unfold IK;rw[Mr HF.out HX.out hhas]
    clear hhas
    go_wp2_with (first
     | (refine Fu (E:=Dh) Fg rfl _ rfl wr.heap.size 0 rfl _ _ _ (AE r) hsz KR.out (AA _ _) ?_)
     | (refine FM (E:=Dh) Fg rfl _ _ rfl (w.heap.size+1) (AE r) (GC HR.out) rfl rfl _ R4.out rfl _ rfl ?_))
    refine Aat rfl rfl (w.heap.size+1) rfl r HR.out (setRow_heap _ _ _ _ _ _ R4.out) _ rfl ?_;rw[HE.out];exact⟨rfl,Ak B1.out (by omega) _⟩
   | false=>
    have HF2:Hid ((l.take (k+1)).find? (Hl H)=none):=PJ HF.out HX.out hhas;clear hhas;go_wp2_with fail;go_roundw
    case rel=>exact⟨k+1,by omega,by go_num,HF2,R3.out,R4.out,B1.out⟩
    case measure=>simp[intOf];omega
  ·have hlt':¬(k:Int)<(n:Int):=by omega
   have HE:Hid (S=(Ii,false)):=by
    have e:=HN.out;have hF:=HF.out;rw[List.take_of_length_le (by omega)] at hF;show _=_;rw[HS.out];unfold IK;rw[hF]
   have HZ:Hid (Dh.zero=AE Ii):=PY
   go_wp2_with (first
    | (refine FM (E:=Dh) Fg rfl _ _ rfl (w.heap.size+1) (AE Ii) (GC Np) rfl (by rw[←HZ.out];rfl) _ R2.out rfl _ rfl ?_))
   refine Aat rfl rfl (w.heap.size+1) rfl Ii Np (setRow_heap _ _ _ _ _ _ R2.out) _ rfl ?_;rw[HE.out];exact⟨rfl,Ak HB.out (by omega) _⟩
def GZ(M:List Int)(i:Nat):List Int:=EG M i false
def Nw(V M:List Int)(i:Nat):List Int:=AH V (GZ M i)
theorem Zf(V M:List Int)(hV:Ax V)(hM:Ax M)(i:Nat)(hi:i<104)(w:World):
  Calls aA 133 #[.agg (cv V M),.int .i64 (i:Int)] w fun e w'=>e=.returned (.tuple #[.agg (cv (Nw V M i) (GZ M i)),.int .i64 0])∧Below w.heap.size w w':=by
 have hVl:=hV.1;have hMl:=hM.1;have hFl:(GZ M i).length=13:=(EF M i false).1;have hGl:(Nw V M i).length=13:=(Dj _ _).1;have C1:Hid (∀W,Calls aA 147 #[.agg (hv M),.int .i64 (i:Int),.bool false] W fun e w'=>e=.returned (.agg (hv (GZ M i)))∧Below W.heap.size W w'):=Pu M hM i hi false;have C2:Hid (∀W,Calls aA 112 #[.agg (cv V (GZ M i))] W fun e w'=>e=.returned (.agg (cv (Nw V M i) (GZ M i)))∧Below W.heap.size W w'):=FP V _ hV (EF M i false);clear hV hM;go_enter Tryz.func133,Tryz.ntmps133;have g0:((w.alloc (.cells (cv V M) 25)).alloc (.cells Az 25)).heap[w.heap.size]?=some (.cells (cv V M) 25 (0,0)):=Af _ _ _ _ (Ac _ _ _ rfl);have g1:((w.alloc (.cells (cv V M) 25)).alloc (.cells Az 25)).heap[w.heap.size+1]?=some (.cells Az 25 (0,0)):=Ac _ _ _ (by simp);have hb:Below w.heap.size w ((w.alloc (.cells (cv V M) 25)).alloc (.cells Az 25)):=((aH _ _).alloc (aB _) _).alloc (by simp) _
 go_wp2_with (first
  | (go_at_call 146;refine(Pc _ _ (by omega) (by omega)).mono ?_;rintro e w' ⟨rfl,rfl⟩)
  | (refine IA rfl _ rfl w.heap.size rfl V M g0 hVl hMl ?_))
 refine(C1.out _).mono ?_;rintro e w1 ⟨rfl,hb1⟩;have k0:w1.heap[w.heap.size]?=some (.cells (cv V M) 25 (0,0)):=by rw[hb1.block _ (by simp;omega)];exact g0
 have k1:w1.heap[w.heap.size+1]?=some (.cells Az 25 (0,0)):=by rw[hb1.block _ (by simp)];exact g1
 have hz1:w.heap.size+2≤w1.heap.size:=aO (by simp) hb1.size;have hB1:=hb.trans (hb1.mono hb.size);clear g0 g1 hb hb1 C1;have l0:(w1.setRow w.heap.size (cv V (GZ M i))).heap[w.heap.size]?=some (.cells (cv V (GZ M i)) 25 (0,0)):=setRow_heap _ _ _ _ _ _ k0;have l1:(w1.setRow w.heap.size (cv V (GZ M i))).heap[w.heap.size+1]?=some (.cells Az 25 (0,0)):=(setRow_other _ _ _ _ (by omega)).trans k1
 go_wp2_with (first
  | (refine LP rfl _ _ rfl w.heap.size rfl V M (GZ M i) rfl hVl hMl hFl k0 _ rfl ?_)
  | (refine Cl rfl _ rfl w.heap.size rfl V (GZ M i) l0 hVl hFl ?_))
 refine(C2.out _).mono ?_;rintro e w2 ⟨rfl,hb2⟩;have m1:w2.heap[w.heap.size+1]?=some (.cells Az 25 (0,0)):=by rw[hb2.block _ (by simp;omega)];exact l1
 have hB2:=(Ak hB1 (aB _) (cv V (GZ M i))).trans (hb2.mono (by simpa using hB1.size));clear l0 l1 k0 k1 hB1 hb2 hz1 C2
 go_wp2_with (first
  | (refine Bq rfl _ _ rfl (w.heap.size+1) (Nw V M i) (GZ M i) rfl rfl _ m1 rfl hGl hFl _ rfl ?_))
 refine Kc (p:=4) (u:=5) rfl rfl (w.heap.size+1) rfl _ _ hGl hFl (setRow_heap _ _ _ _ _ _ m1) _ rfl ⟨rfl,?_⟩;exact Ak hB2 (by omega) _
def Ah7(x:Int):Int:=((aN 8).filter fun j=>yb x j).length
def free(M:List Int):Int:=((aN 104).filter fun i=> !(bt M i)).length
def Agt(V M:List Int)(i:Nat):UInt8:=if bt M i then (if bt V i then 49 else 48) else 42
def bv(L:List UInt8):Array Value:=(L.map fun b=>Value.int .u8 (b.toNat:Int)).toArray
theorem Su(off:Nat):∀(xs:List Value) (n:Nat) (cells:Array Value) (k:Nat),off+n+xs.length≤cells.size→
  ((xs.zipIdx n).foldl (fun cs (x:Value×Nat)=>cs.setIfInBounds (off+x.2) x.1) cells)[k]?=if off+n≤k∧k<off+n+xs.length then xs[k-(off+n)]? else cells[k]?
 | [],n,cells,k,_=>by
  simp only[List.zipIdx_nil,List.foldl_nil,List.length_nil,Nat.add_zero]
  rw[if_neg (by omega)]
 | x::xs,n,cells,k,h=>by
  simp only[bA] at h
  rw[List.zipIdx_cons,List.foldl_cons,Su off xs (n+1) _ k (by simp;omega)]
  simp only[bA]
  by_cases h1:off+(n+1)≤k∧k<off+(n+1)+xs.length
  ·rw[if_pos h1,if_pos (by omega),show k-(off+n)=(k-(off+(n+1)))+1 by omega,List.getElem?_cons_succ]
  ·rw[if_neg h1]
   by_cases h2:k=off+n
   ·subst h2
    rw[if_pos (by omega),Nat.sub_self,List.getElem?_cons_zero,Array.getElem?_setIfInBounds_self_of_lt (by omega)]
   ·rw[if_neg (by omega),Array.getElem?_setIfInBounds_ne (by omega)]
theorem ZD(xs cells:Array Value)(h:xs.size=cells.size):xs.zipIdx.foldl (fun cs (x:Value×Nat)=>cs.setIfInBounds (0+x.2) x.1) cells=xs:=by
 have e:xs.zipIdx.foldl (fun cs (x:Value×Nat)=>cs.setIfInBounds (0+x.2) x.1) cells=(xs.toList.zipIdx 0).foldl (fun cs (x:Value×Nat)=>cs.setIfInBounds (0+x.2) x.1) cells:=by
  rw[←Array.foldl_toList];simp
 rw[e];apply Array.ext_getElem?;intro k;rw[Su 0 xs.toList 0 cells k (by simp;omega)];by_cases hk:k<xs.size
 ·rw[if_pos (by simp;omega)];simp
 ·rw[if_neg (by simp;omega),Array.getElem?_eq_none (by omega),Array.getElem?_eq_none (by omega)]
theorem Vj:∃i,aA.info? 25=some i∧i.zero=some (.agg Az)∧i.size=26∧i.bytes=26:=by
 cases h:aA.info? 25 with
 | none=>exact absurd (show(aA.info? 25).isSome=true by kernel_rfl) (by rw[h];simp)
 | some i=>
  have h1:(aA.info? 25).map (fun i=>(i.zero,i.size,i.bytes))=some (some (.agg Az),26,26):=by kernel_rfl
  rw[h] at h1;simp only[Option.map_some,Option.some.injEq,Prod.mk.injEq] at h1;exact⟨i,rfl,h1.1,h1.2.1,h1.2.2⟩
theorem Wf{ops:Array Oper}{rest:List Oper}{o:Oper}{a:Act}{w:World}{Q:Exit→Act→World→Prop}(hg:o.guard=none)(x:Operand)(ho:o.op=.buildSlice 177 1 #[(0,x)])(V M:List Int)(hV:V.length=13)(hM:M.length=13)(hx:a.eval x=.agg (cv V M))
  (h:wpList aA ops Q rest (a.put o.dst (.slice (some ⟨w.heap.size,0,none⟩) 1 1)) (w.alloc (.cells (cv V M) 25))):wpList aA ops Q (o::rest) a w:=by
 obtain⟨ie,hie,hz,hs,_⟩:=Vj;refine wpList_buildSlice hg 177 25 1 _ ho (cv V M) ie (.agg Az) Tryz.underlying177 hie hz (by rw[hs];decide) (by rw[hs];decide) ?_ h;have hsz:=AO V M hV hM;simp only[List.map_toArray,List.map_cons,List.map_nil,hx,Instr.fill,hs,Nat.zero_mul,Value.cells,hsz];rw[if_neg (by simp)];congr 1;exact ZD _ _ (by rw[hsz];simp)
def Ed(C:List (List Int×List Int)):List Value:=C.flatMap fun c=>(cv c.1 c.2).toList
theorem Rd(C D:List (List Int×List Int)):Ed (C++D)=Ed C++Ed D:=by simp[Ed]
theorem VC(V M:List Int):Ed [(V,M)]=(cv V M).toList:=by simp[Ed]
theorem YT{w:World}{B B':Nat}{e:TypeId}{s:Nat}{v:Value}{n:Nat}{xs:List Value}(h:w.ownsRow B e s v n xs)(hB':B'≤B):w.ownsRow B' e s v n xs:=by
 obtain⟨h1,h2 | ⟨g',cap,cur,rfl,hB,h3⟩⟩:=h
 ·exact⟨h1,.inl h2⟩
 ·exact⟨h1,.inr ⟨g',cap,cur,rfl,by omega,h3⟩⟩
def PV(p:Prop):Prop:=p
theorem OB{p:Prop}(h:PV p):p:=h
theorem Xl(w:World)(g off:Nat)(cs:Array Value)(t:TypeId)(fr:Nat×Nat)(V M:List Int)(hV:V.length=13)(hM:M.length=13)(hg:w.heap[g]?=some (.cells cs t fr))(hc:∀j,j<26→cs[off+j]?=(cv V M)[j]?):
  (loadVar 25 ⟨g,off,none⟩).run aA w=.ok (.agg (cv V M)) w:=by
 have hsz:=AO V M hV hM
 have hl:(loadCells ⟨g,off,none⟩ (cv V M).toList.length).run aA w=.ok (cv V M).toList.toArray w:=
  run_loadCells_list (P:=aA) w ⟨g,off,none⟩ (cv V M).toList (fun j v hv=>by
   have hadd:(⟨g,off,none⟩:Addr).add j=⟨g,off+j,none⟩:=by unfold Addr.add;split <;> simp_all
   have hj:j<26:=by
    have:=(aD.1 hv).1;simpa[hsz] using this
   rw[hadd,cell_of_row w g (off+j) cs t fr hg,hc j hj];simpa using hv)
 obtain⟨i,hq,_,hs,_⟩:=Vj
 have hagg:(isAgg 25).run aA w=.ok true w:=by
  unfold isAgg;rw[aP,run_underlying Tryz.underlying25 w];rfl
 rw[Array.length_toList,hsz,Array.toArray_toList] at hl;simp[loadVar,aP,hagg,sizeOf,typeInfo,hq,hs,hl]
theorem NX{ops:Array Oper}{rest:List Oper}{o:Oper}{a:Act}{w:World}{Q:Exit→Act→World→Prop}(hw:aI o (yielded ops a.tmps)=true)(x:Operand)(ho:o.op=.load 25 x)
  (g off:Nat) (hx:a.eval x=.pointer (some ⟨g,off,none⟩)) (cs:Array Value) (t:TypeId) (fr:Nat×Nat) (V M:List Int) (hV:V.length=13) (hM:M.length=13) (hg:w.heap[g]?=some (.cells cs t fr)) (hc:∀j,j<26→cs[off+j]?=(cv V M)[j]?)
  (h:wpList aA ops Q rest (a.put o.dst (.agg (cv V M))) w):wpList aA ops Q (o::rest) a w:=by
 refine wpList_step fun K hK=> ?_;rw[if_pos hw];unfold Oper.wp execOp;simp only[ho,hx,Instr.loadAt,Instr.sureAddr,aP,Sem.run_pure,Result.andThen_ok,Xl w g off cs t fr V M hV hM hg hc];exact hK _ _ h
def m0:List Int:=[0,0,0,0,0,0,0,0,0,0,0,0,0]
theorem Af2(L:List Int)(h1:L.length=13)(h2:∀x∈L,0≤x∧x<256):Ax L:=by
 refine⟨h1,fun k=> ?_⟩;rcases Nat.lt_or_ge k 13 with h | h
 ·rw[List.getD,List.getElem?_eq_getElem (by omega)];exact h2 _ (List.getElem_mem _)
 ·rw[List.getD,List.getElem?_eq_none (by omega)];decide
theorem b0:Ax m0:=Af2 _ rfl (by decide)
def Mu(V M:List Int)(i:Nat):Int:=if bt M i then (if bt V i then 1 else 0) else 2
theorem Af6(V M:List Int)(i:Nat):(Mu V M i !=2)=bt M i:=by
 unfold Mu;cases bt M i <;> cases bt V i <;> rfl
theorem Af7(V M:List Int)(i:Nat):(Mu V M i==1)=(bt V i&&bt M i):=by
 unfold Mu;cases bt M i <;> cases bt V i <;> rfl
theorem Af8(V M:List Int)(hV:Ax V)(hM:Ax M)(i:Nat)(hi:i<104)(w:World):
  Calls aA 121 #[.agg (cv V M),.int .i64 (i:Int)] w fun e w'=>e=.returned (.int .i64 (Mu V M i))∧Below w.heap.size w w':=by
 have hVl:=hV.1;have hMl:=hM.1;have CM:Hid (∀W,Calls aA 143 #[.agg (hv M),.int .i64 (i:Int)] W fun e w'=>e=.returned (.bool (bt M i))∧Below W.heap.size W w'):=RP M hM i hi;have CV:Hid (∀W,Calls aA 143 #[.agg (hv V),.int .i64 (i:Int)] W fun e w'=>e=.returned (.bool (bt V i))∧Below W.heap.size W w'):=RP V hV i hi;clear hV hM;unfold Mu;obtain⟨bm,hbm⟩:∃b,b=bt M i:=⟨_,rfl⟩;obtain⟨bv,hbv⟩:∃b,b=bt V i:=⟨_,rfl⟩;rw[←hbm] at CM ⊢;rw[←hbv] at CV ⊢;clear hbm hbv;go_enter Tryz.func121,Tryz.ntmps121
 go_wp2_with (first
  | (refine IA rfl _ rfl w.heap.size rfl V M (Ac _ _ _ rfl) hVl hMl ?_))
 refine(CM.out _).mono ?_;rintro e w1 ⟨rfl,hb1⟩;have g0:w1.heap[w.heap.size]?=some (.cells (cv V M) 25 (0,0)):=by rw[hb1.block _ (by simp)];exact Ac _ _ _ rfl
 have B1:Below w.heap.size w w1:=((aH _ _).alloc (aB _) _).trans (hb1.mono (by simp));clear hb1 CM
 cases bm
 ·go_wp2_with fail;go_ret;exact⟨rfl,B1⟩
 ·go_wp2_with (first
   | (refine Nk rfl _ rfl w.heap.size rfl V M g0 hVl ?_))
  refine(CV.out _).mono ?_;rintro e w2 ⟨rfl,hb2⟩;have B2:=B1.trans (hb2.mono B1.size);clear hb2 CV
  cases bv
  ·go_wp2_with fail;go_ret;exact⟨rfl,B2⟩
  ·go_wp2_with fail;go_ret;exact⟨rfl,B2⟩
theorem Yz(V M:List Int)(hV:Ax V)(hM:Ax M)(i:Nat)(hi:i<104)(v:Int)(w:World):
  Calls aA 120 #[.agg (cv V M),.int .i64 (i:Int),.int .i64 v] w fun e w'=>e=.returned (.agg (cv (EG V i (v==1)) (EG M i (v !=2))))∧Below w.heap.size w w':=by
 have hVl:=hV.1;have hMl:=hM.1;have hFl:(EG M i (v !=2)).length=13:=(EF M i _).1;have hGl:(EG V i (v==1)).length=13:=(EF V i _).1;have C1:Hid (∀W,Calls aA 142 #[.agg (hv M),.int .i64 (i:Int),.bool (v !=2)] W fun e w'=>e=.returned (.agg (hv (EG M i (v !=2))))∧Below W.heap.size W w'):=RI M hM i hi _;have C2:Hid (∀W,Calls aA 142 #[.agg (hv V),.int .i64 (i:Int),.bool (v==1)] W fun e w'=>e=.returned (.agg (hv (EG V i (v==1))))∧Below W.heap.size W w'):=RI V hV i hi _;clear hV hM;obtain⟨N,hN⟩:=eX (EG M i (v !=2));obtain⟨U,hU⟩:=eX (EG V i (v==1));rw[←hN] at C1 hFl ⊢;rw[←hU] at C2 hGl ⊢;clear hN hU;go_enter Tryz.func120,Tryz.ntmps120;have g0:((w.alloc (.cells (cv V M) 25)).alloc (.cells Az 25)).heap[w.heap.size]?=some (.cells (cv V M) 25 (0,0)):=Af _ _ _ _ (Ac _ _ _ rfl);have g1:((w.alloc (.cells (cv V M) 25)).alloc (.cells Az 25)).heap[w.heap.size+1]?=some (.cells Az 25 (0,0)):=Ac _ _ _ (by simp);have hb:Below w.heap.size w ((w.alloc (.cells (cv V M) 25)).alloc (.cells Az 25)):=((aH _ _).alloc (aB _) _).alloc (by simp) _
 go_wp2_with (first
  | (refine IA rfl _ rfl w.heap.size rfl V M g0 hVl hMl ?_))
 refine(C1.out _).mono ?_;rintro e w2 ⟨rfl,hb2⟩;have m0:w2.heap[w.heap.size]?=some (.cells (cv V M) 25 (0,0)):=by rw[hb2.block _ (by simp;omega)];exact g0
 have m1:w2.heap[w.heap.size+1]?=some (.cells Az 25 (0,0)):=by rw[hb2.block _ (by simp)];exact g1
 have hz2:w.heap.size+2≤w2.heap.size:=aO (by simp) hb2.size;have hB2:=hb.trans (hb2.mono hb.size);clear g0 g1 hb hb2 C1;have n0:(w2.setRow w.heap.size (cv V N)).heap[w.heap.size]?=some (.cells (cv V N) 25 (0,0)):=setRow_heap _ _ _ _ _ _ m0;have n1:(w2.setRow w.heap.size (cv V N)).heap[w.heap.size+1]?=some (.cells Az 25 (0,0)):=(setRow_other _ _ _ _ (by omega)).trans m1
 go_wp2_with (first
  | (refine LP rfl _ _ rfl w.heap.size rfl V M N rfl hVl hMl hFl m0 _ rfl ?_)
  | (refine Nk rfl _ rfl w.heap.size rfl V N n0 hVl ?_))
 refine(C2.out _).mono ?_;rintro e w3 ⟨rfl,hb3⟩;have p0:w3.heap[w.heap.size]?=some (.cells (cv V N) 25 (0,0)):=by rw[hb3.block _ (by simp;omega)];exact n0
 have p1:w3.heap[w.heap.size+1]?=some (.cells Az 25 (0,0)):=by rw[hb3.block _ (by simp;omega)];exact n1
 have hB3:=(Ak hB2 (aB _) (cv V N)).trans (hb3.mono (by simpa using hB2.size));clear m0 m1 n0 n1 hB2 hb3 hz2 C2;have q0:(w3.setRow w.heap.size (cv U N)).heap[w.heap.size]?=some (.cells (cv U N) 25 (0,0)):=setRow_heap _ _ _ _ _ _ p0;have q1:(w3.setRow w.heap.size (cv U N)).heap[w.heap.size+1]?=some (.cells Az 25 (0,0)):=(setRow_other _ _ _ _ (by omega)).trans p1
 go_wp2_with (first
  | (refine P5 rfl _ _ rfl w.heap.size rfl V N U rfl hVl hFl hGl p0 _ rfl ?_)
  | (refine Cl rfl _ rfl w.heap.size rfl U N q0 hGl hFl ?_)
  | (refine Bq rfl _ _ rfl (w.heap.size+1) U N rfl rfl _ q1 rfl hGl hFl _ rfl ?_))
 refine RO (p:=6) rfl rfl (w.heap.size+1) rfl _ _ hGl hFl (setRow_heap _ _ _ _ _ _ q1) ⟨rfl,?_⟩;exact Ak (Ak hB3 (aB _) _) (by omega) _
def EQ(k:Nat)(f:Nat→Bool):List Int:=mk fun j=>decide (j<k)&&f j
theorem KZ(k:Nat)(f:Nat→Bool):Ax (EQ k f):=Ik _
theorem Qa(f:Nat→Bool):EQ 0 f=Z:=OI _ _ fun i _=>by simp
theorem Ry(f:Nat→Bool):EQ 104 f=mk f:=OI _ _ fun i hi=>by simp[hi]
theorem Qb(k:Nat)(f:Nat→Bool):EG (EQ k f) k (f k)=EQ (k+1) f:=
 OI _ _ fun i hi=>by
  by_cases e:i=k
  ·subst e;simp
  ·rw[if_neg e]
   unfold EQ
   rw[OJ _ i hi]
   congr 1
   rw[decide_eq_decide]
   omega
def NZ(V M V' M':List Int):Bool:=(aN 104).all fun i=> !(bt M' i) || (bt M i&&(bt V i==bt V' i))
theorem NY(V M V' M':List Int):NZ V M V' M'=true↔ ∀i,i<104→bt M' i=true→bt M i=true∧bt V i=bt V' i:=by
 unfold NZ;simp only[aQ,aT,Bool.or_eq_true,aM,aC,beq_iff_eq];constructor
 ·intro h i hi hm;rcases h i hi with h' | h'
  ·rw[h'] at hm;cases hm
  ·exact h'
 ·intro h i hi
  cases hm:bt M' i
  ·exact .inl rfl
  ·exact .inr (h i hi hm)
def Hx(c:List Int×List Int)(r:List Int×List Int):Bool:=Cz c.1 c.2 r.1 r.2
def JI(H:List Int)(r:List Int×List Int):Option Nat:=(aN 104).find? fun i=>bt r.2 i&&(bt r.1 i !=bt H i)
def Ie(c:List Int×List Int)(i:Nat)(b:Bool):List Int×List Int:=(EG c.1 i b,EG c.2 i true)
def D7(c:List Int×List Int)(i:Nat):List Int×List Int:=(EG c.1 i false,EG c.2 i false)
def Gn(H:List Int)(c:List Int×List Int)(r:List Int×List Int):List Int×List Int:=
 if Hx c r then (match JI H r with | some i=>Ie c i (bt H i) | none=>c) else c
def Cf(H:List Int)(c:List Int×List Int)(A:List (List Int×List Int)):List Int×List Int:=A.foldl (Gn H) c
def Cu(A:List (List Int×List Int))(c:List Int×List Int):Bool:=A.all fun r=> !(Hx c r)
def Fb(A:List (List Int×List Int))(M:List Int)(c:List Int×List Int)(i:Nat):List Int×List Int:=
 if !(bt M i)&&bt c.2 i&&Cu A (D7 c i) then D7 c i else c
def De(A:List (List Int×List Int))(M:List Int)(n:Nat)(c:List Int×List Int):List Int×List Int:=(aN n).foldl (Fb A M) c
def Fs(A:List (List Int×List Int))(c0:List Int×List Int)(H:List Int):List Int×List Int:=
 De A c0.2 104 (Cf H (AH c0.1 c0.2,c0.2) A)
theorem Tz(V M V' M' H:List Int)(h:NZ V M V' M'=true)(h2:has V M H=true):has V' M' H=true:=by
 rw[Ju] at h2 ⊢;rw[NY] at h;intro i hi hm;obtain⟨h3,h4⟩:=h i hi hm;rw[←h4];exact h2 i hi h3
def Fe(c d:List Int×List Int):Prop:=∀i,i<104→bt d.2 i=true→bt c.2 i=true∧bt c.1 i=bt d.1 i
theorem Vl{c d:List Int×List Int}:Fe c d↔NZ c.1 c.2 d.1 d.2=true:=(NY _ _ _ _).symm
theorem Lo(c:List Int×List Int):Fe c c:=fun _ _ h=>⟨h,rfl⟩
theorem IR{a b c:List Int×List Int}(h:Fe a b)(g:Fe b c):Fe a c:=fun i hi h1=>by
 obtain⟨h2,h3⟩:=g i hi h1
 obtain⟨h4,h5⟩:=h i hi h2
 exact⟨h4,h5.trans h3⟩
theorem MT{c d:List Int×List Int}{H:List Int}(h:Fe c d)(g:has c.1 c.2 H=true):has d.1 d.2 H=true:=
 Tz _ _ _ _ H (Vl.1 h) g
theorem Afz{c d:List Int×List Int}{r:List Int×List Int}(h:Fe c d)(g:Hx c r=true):Hx d r=true:=by
 unfold Hx at g ⊢;rw[H4] at g ⊢;intro i hi h1 h2;obtain⟨h3,h4⟩:=h i hi h1;rw[←h4];exact g i hi h3 h2
theorem Lj{c d:List Int×List Int}{r:List Int×List Int}(h:Fe c d)(g:Hx d r=false):Hx c r=false:=by
 cases e:Hx c r with
 | false=>rfl
 | true=>rw[Afz h e] at g;cases g
theorem Aa3{A:List (List Int×List Int)}{c d:List Int×List Int}(h:Fe c d)(g:Cu A d=true):Cu A c=true:=by
 unfold Cu at g ⊢;rw[aQ] at g ⊢;intro r hr;have:=g r hr;rw[aM] at this ⊢;exact Lj h this
theorem TF{A:List (List Int×List Int)}{c d:List Int×List Int}(h:Fe c d)(g:Cu A c=false):Cu A d=false:=by
 cases e:Cu A d with
 | false=>rfl
 | true=>rw[Aa3 h e] at g;cases g
theorem Oi(c:List Int×List Int)(i:Nat)(b:Bool)(k:Nat)(hk:k<104):bt (Ie c i b).1 k=if k=i then b else bt c.1 k:=KF _ i b k hk
theorem Oj(c:List Int×List Int)(i:Nat)(b:Bool)(k:Nat)(hk:k<104):bt (Ie c i b).2 k=if k=i then true else bt c.2 k:=KF _ i true k hk
theorem Jv(c:List Int×List Int)(i:Nat)(k:Nat)(hk:k<104):bt (D7 c i).1 k=if k=i then false else bt c.1 k:=KF _ i false k hk
theorem Jw(c:List Int×List Int)(i:Nat)(k:Nat)(hk:k<104):bt (D7 c i).2 k=if k=i then false else bt c.2 k:=KF _ i false k hk
theorem Aea{c:List Int×List Int}{i:Nat}{b:Bool}(h:bt c.2 i=true→bt c.1 i=b):Fe (Ie c i b) c:=fun k hk h1=>by
 rw[Oi c i b k hk,Oj c i b k hk]
 by_cases e:k=i
 ·subst e;rw[if_pos rfl,if_pos rfl];exact⟨rfl,(h h1).symm⟩
 ·rw[if_neg e,if_neg e];exact⟨h1,rfl⟩
theorem Ad9(c:List Int×List Int)(i:Nat):Fe c (D7 c i):=fun k hk h1=>by
 rw[Jw c i k hk] at h1
 rw[Jv c i k hk]
 by_cases e:k=i
 ·rw[if_pos e] at h1;cases h1
 ·rw[if_neg e] at h1 ⊢;exact⟨h1,rfl⟩
theorem XG{c d:List Int×List Int}(i:Nat)(h:Fe c d):Fe (D7 c i) (D7 d i):=fun k hk h1=>by
 rw[Jw d i k hk] at h1
 rw[Jv c i k hk,Jv d i k hk,Jw c i k hk]
 by_cases e:k=i
 ·rw[if_pos e] at h1;cases h1
 ·rw[if_neg e] at h1;rw[if_neg e,if_neg e,if_neg e];exact h k hk h1
theorem Nc{c d:List Int×List Int}{i:Nat}(h:Fe c d)(hf:bt d.2 i=false):Fe (D7 c i) d:=fun k hk h1=>by
 have e:k≠i:=fun e=>by rw[e,hf] at h1;cases h1
 rw[Jv c i k hk,Jw c i k hk,if_neg e,if_neg e]
 exact h k hk h1
theorem Abr{c:List Int×List Int}{H:List Int}(i:Nat)(h:has c.1 c.2 H=true):has (Ie c i (bt H i)).1 (Ie c i (bt H i)).2 H=true:=by
 rw[Ju] at h ⊢;intro k hk h1;rw[Oj c i _ k hk] at h1;rw[Oi c i _ k hk];by_cases e:k=i
 ·rw[if_pos e,e]
 ·rw[if_neg e] at h1 ⊢;exact h k hk h1
theorem RX{H:List Int}{r:List Int×List Int}(h:has r.1 r.2 H=false):∃i,JI H r=some i:=by
 cases e:JI H r with
 | some i=>exact⟨i,rfl⟩
 | none=>
  unfold JI at e;rw[aK] at e
  have:has r.1 r.2 H=true:=(Ju _ _ _).2 fun i hi h1=>by
   have:=e i (aT.2 hi);rw[h1] at this;simpa using this
  rw[this] at h;cases h
theorem WS{H:List Int}{r:List Int×List Int}{i:Nat}(h:JI H r=some i):i<104∧bt r.2 i=true∧bt r.1 i≠bt H i:=by
 have h1:=List.find?_some h;have h2:=List.mem_of_find?_eq_some h;rw[aC,bne_iff_ne] at h1;exact⟨aT.1 h2,h1.1,h1.2⟩
def Cs(c:List Int×List Int):Prop:=Ax c.1∧Ax c.2∧∀i,i<104→bt c.1 i=true→bt c.2 i=true
theorem On{c:List Int×List Int}(h:Cs c):AH c.1 c.2=c.1:=
 SN _ _ (Dj _ _) h.1 fun i hi=>by
  rw[GJ _ _ i hi]
  have:=h.2.2 i hi
  revert this
  cases bt c.1 i <;> cases bt c.2 i <;> simp
theorem Ma(V M:List Int)(hM:Ax M):Cs (AH V M,M):=⟨Dj _ _,hM,fun i hi h=>by
 dsimp only at h ⊢
 rw[GJ _ _ i hi,aC] at h;exact h.2⟩
theorem Om{c:List Int×List Int}(h:Cs c)(i:Nat)(b:Bool):Cs (Ie c i b):=⟨EF _ _ _,EF _ _ _,fun k hk h1=>by
 rw[Oi c i b k hk] at h1
 rw[Oj c i b k hk]
 by_cases e:k=i
 ·rw[if_pos e]
 ·rw[if_neg e] at h1 ⊢;exact h.2.2 k hk h1⟩
theorem M5{c:List Int×List Int}(h:Cs c)(i:Nat):Cs (D7 c i):=⟨EF _ _ _,EF _ _ _,fun k hk h1=>by
 rw[Jv c i k hk] at h1
 rw[Jw c i k hk]
 by_cases e:k=i
 ·rw[if_pos e] at h1;cases h1
 ·rw[if_neg e] at h1 ⊢;exact h.2.2 k hk h1⟩
theorem SJ(V M:List Int):Fe (AH V M,M) (V,M):=fun i hi h=>by
 dsimp only at h ⊢
 rw[GJ _ _ i hi,h,Bool.and_true]
 exact⟨rfl,rfl⟩
theorem PO(V M:List Int):Fe (V,M) (AH V M,M):=fun i hi h=>by
 dsimp only at h ⊢
 rw[GJ _ _ i hi,h,Bool.and_true]
 exact⟨rfl,rfl⟩
theorem Xc{H:List Int}{c:List Int×List Int}{r:List Int×List Int}(hc:has c.1 c.2 H=true)(hr:has r.1 r.2 H=false)(hR:Cs c):
  has (Gn H c r).1 (Gn H c r).2 H=true∧Fe (Gn H c r) c∧Hx (Gn H c r) r=false∧Cs (Gn H c r):=by
 unfold Gn
 cases em:Hx c r with
 | false=>rw[if_neg (by decide)];exact⟨hc,Lo c,em,hR⟩
 | true=>
  rw[if_pos rfl];obtain⟨i,hi⟩:=RX hr;rw[hi];obtain⟨h1,h2,h3⟩:=WS hi;refine⟨Abr i hc,Aea fun h=>((Ju _ _ _).1 hc i h1 h),?_,Om hR _ _⟩
  cases e:Hx (Ie c i (bt H i)) r with
  | false=>rfl
  | true=>
   have:=(H4 _ _ _ _).1 e i h1 (by rw[Oj c i _ i h1,if_pos rfl]) h2;rw[Oi c i _ i h1,if_pos rfl] at this;exact absurd this.symm h3
theorem KJ{H:List Int}:∀(A:List (List Int×List Int)) (c:List Int×List Int),has c.1 c.2 H=true→(∀r∈A,has r.1 r.2 H=false)→Cs c→
  has (Cf H c A).1 (Cf H c A).2 H=true∧Fe (Cf H c A) c∧(∀r∈A,Hx (Cf H c A) r=false)∧Cs (Cf H c A)
 | [],c,hc,_,hR=>⟨hc,Lo c,(fun r hr=>absurd hr (bB)),hR⟩
 | r::A,c,hc,hA,hR=>by
  obtain⟨h1,h2,h3,h4⟩:=Xc hc (hA r aX) hR
  obtain⟨g1,g2,g3,g4⟩:=KJ A (Gn H c r) h1 (fun x hx=>hA x (aV _ hx)) h4
  have e:Cf H c (r::A)=Cf H (Gn H c r) A:=rfl
  rw[e]
  refine⟨g1,IR g2 h2,fun x hx=> ?_,g4⟩
  rcases aL.1 hx with rfl | hx
  ·exact Lj g2 h3
  ·exact g3 x hx
theorem Ae4(A:List (List Int×List Int))(M:List Int)(c:List Int×List Int)(i:Nat):Fe c (Fb A M c i):=by
 unfold Fb;split
 ·exact Ad9 c i
 ·exact Lo c
theorem P8{A:List (List Int×List Int)}{M:List Int}{c:List Int×List Int}(i:Nat)(h:Cs c):Cs (Fb A M c i):=by
 unfold Fb;split
 ·exact M5 h i
 ·exact h
theorem Wh{A:List (List Int×List Int)}{M:List Int}{c:List Int×List Int}(i:Nat)(h:Cu A c=true):Cu A (Fb A M c i)=true:=by
 unfold Fb;split
 ·rename_i g;rw[aC] at g;exact g.2
 ·exact h
theorem N5{A:List (List Int×List Int)}{d:List Int×List Int}{c:List Int×List Int}(i:Nat)(h:Fe c d):Fe (Fb A d.2 c i) d:=by
 unfold Fb;split
 ·rename_i g;rw[aC,aC,aM] at g;exact Nc h g.1.1
 ·exact h
theorem Yj{A:List (List Int×List Int)}{M:List Int}{c:List Int×List Int}{i:Nat}(hi:i<104)(hM:bt M i=false)(h:bt (Fb A M c i).2 i=true):Cu A (D7 (Fb A M c i) i)=false:=by
 unfold Fb at h ⊢;split at h
 ·rw[Jw c i i hi,if_pos rfl] at h;cases h
 ·rename_i g;rw[if_neg g];rw[hM,h] at g;simpa using g
theorem IP(A:List (List Int×List Int))(M:List Int)(n:Nat)(c:List Int×List Int):De A M (n+1) c=Fb A M (De A M n c) n:=by
 unfold De;rw[List.range_succ,List.foldl_append];rfl
theorem TR{A:List (List Int×List Int)}{d c:List Int×List Int}(hd:Fe c d)(hc:Cu A c=true)(hR:Cs c):∀n,n≤104→
  Fe c (De A d.2 n c)∧Fe (De A d.2 n c) d∧Cu A (De A d.2 n c)=true∧Cs (De A d.2 n c)∧
  ∀k,k<n→bt d.2 k=false→bt (De A d.2 n c).2 k=true→Cu A (D7 (De A d.2 n c) k)=false
 | 0,_=>⟨Lo c,hd,hc,hR,fun k hk=>absurd hk (Nat.not_lt_zero k)⟩
 | n+1,hn=>by
  obtain⟨h1,h2,h3,h4,h5⟩:=TR hd hc hR n (by omega)
  rw[IP]
  have hw:=Ae4 A d.2 (De A d.2 n c) n
  refine⟨IR h1 hw,N5 n h2,Wh n h3,P8 n h4,fun k hk hM hb=> ?_⟩
  by_cases e:k=n
  ·subst e;exact Yj (by omega) hM hb
  ·exact TF (XG k hw) (h5 k (by omega) hM (hw k (by omega) hb).1)
theorem S4{A:List (List Int×List Int)}{c0:List Int×List Int}{H:List Int}(hM:Ax c0.2)(h0:has c0.1 c0.2 H=true)(hA:∀r∈A,has r.1 r.2 H=false):
  has (Fs A c0 H).1 (Fs A c0 H).2 H=true∧Fe (Fs A c0 H) c0∧Cu A (Fs A c0 H)=true∧Cs (Fs A c0 H)∧
  ∀i,i<104→bt c0.2 i=false→bt (Fs A c0 H).2 i=true→Cu A (D7 (Fs A c0 H) i)=false:=by
 obtain⟨h1,h2,h3,h4⟩:=KJ A (AH c0.1 c0.2,c0.2) (MT (PO c0.1 c0.2) h0) hA (Ma _ _ hM)
 have hc:Cu A (Cf H (AH c0.1 c0.2,c0.2) A)=true:=by
  unfold Cu;rw[aQ];intro r hr;rw[h3 r hr];rfl
 obtain⟨g1,g2,g3,g4,g5⟩:=TR (d:=c0) (IR h2 (SJ c0.1 c0.2)) hc h4 104 (aB _);exact⟨MT g1 h1,g2,g3,g4,g5⟩
theorem Mh(V M V' M':List Int):Cz V M V' M'=Cz V' M' V M:=by
 rw[Bool.eq_iff_iff,H4,H4];exact⟨fun h i hi h1 h2=>(h i hi h2 h1).symm,fun h i hi h1 h2=>(h i hi h2 h1).symm⟩
def Gk(A:List (List Int×List Int))(c0:List Int×List Int):List (List Int×List Int):=A.filter fun r=>Cz r.1 r.2 c0.1 c0.2
theorem P9{c c0:List Int×List Int}(h:Fe c c0):∀A:List (List Int×List Int),Cu (Gk A c0) c=Cu A c
 | []=>rfl
 | r::A=>by
  have ih:=P9 h A
  unfold Gk Cu at ih ⊢
  rw[bC]
  cases e:Cz r.1 r.2 c0.1 c0.2 with
  | true=>rw[if_pos rfl,aW,aW,ih]
  | false=>
   rw[if_neg (by decide),aW,ih]
   have:Hx c r=false:=Lj h (by unfold Hx;rw[Mh];exact e)
   rw[this];rfl
theorem Nl{H:List Int}{c0:List Int×List Int}:∀(A:List (List Int×List Int)) (c:List Int×List Int),Fe c c0→has c.1 c.2 H=true→(∀r∈A,has r.1 r.2 H=false)→Cs c→Cf H c (Gk A c0)=Cf H c A
 | [],_,_,_,_,_=>rfl
 | r::A,c,h,hc,hA,hR=>by
  have hA':∀x∈A,has x.1 x.2 H=false:=fun x hx=>hA x (aV _ hx)
  have e2:Cf H c (r::A)=Cf H (Gn H c r) A:=rfl
  rw[e2]
  unfold Gk
  rw[bC]
  cases e:Cz r.1 r.2 c0.1 c0.2 with
  | true=>
   rw[if_pos rfl]
   obtain⟨h1,h2,h3,h4⟩:=Xc hc (hA r aX) hR
   exact Nl A (Gn H c r) (IR h2 h) h1 hA' h4
  | false=>
   rw[if_neg (by decide)]
   have:Hx c r=false:=Lj h (by unfold Hx;rw[Mh];exact e)
   have e3:Gn H c r=c:=by unfold Gn;rw[this];rfl
   rw[e3]
   exact Nl A c h hc hA' hR
theorem Rv{A:List (List Int×List Int)}{c0 c:List Int×List Int}(h:Fe c c0):∀n,De (Gk A c0) c0.2 n c=De A c0.2 n c∧Fe (De A c0.2 n c) c0
 | 0=>⟨rfl,h⟩
 | n+1=>by
  obtain⟨h1,h2⟩:=Rv h n
  rw[IP,IP,h1]
  refine⟨?_,N5 n h2⟩
  unfold Fb
  cases e:bt c0.2 n with
  | true=>rfl
  | false=>
   rw[P9 (Nc h2 e)]
theorem X8{A:List (List Int×List Int)}{c0:List Int×List Int}{H:List Int}(hM:Ax c0.2)(h0:has c0.1 c0.2 H=true)(hA:∀r∈A,has r.1 r.2 H=false):
  De (Gk A c0) c0.2 104 (Cf H (AH c0.1 c0.2,c0.2) (Gk A c0))=Fs A c0 H:=by
 have h1:=MT (PO c0.1 c0.2) h0;have h2:=Ma c0.1 c0.2 hM;rw[Nl A _ (SJ c0.1 c0.2) h1 hA h2];obtain⟨_,g2,_,_⟩:=KJ A (AH c0.1 c0.2,c0.2) h1 hA h2;exact(Rv (IR g2 (SJ c0.1 c0.2)) 104).1
theorem Sw{c:List Int×List Int}(h:Cs c)(i:Nat)(b:Bool):Jb c.1 c.2 i b=(Ie c i b).1∧F8 c.2 i=(Ie c i b).2:=by
 unfold Jb F8 Ie;rw[On h];exact⟨rfl,rfl⟩
theorem Qw{c:List Int×List Int}(h:Cs c)(i:Nat):Nw c.1 c.2 i=(D7 c i).1∧GZ c.2 i=(D7 c i).2:=by
 refine⟨?_,rfl⟩;unfold Nw GZ;refine SN _ _ (Dj _ _) (EF _ _ _) fun k hk=> ?_;have:=h.2.2 k hk;rw[GJ _ _ k hk,KF _ _ _ k hk,Jv c i k hk];by_cases e:k=i
 ·rw[if_pos e,if_pos e,Bool.and_false]
 ·rw[if_neg e,if_neg e];revert this
  cases bt c.1 k <;> cases bt c.2 k <;> simp
def DL(l:List AN):List (List Int×List Int):=l.map (·.cube)
structure Eu(l:List AN)(H:List Int)(k:Nat)(r:AN):Prop where
 at_:l[k]?=some r
 has_:has r.cube.1 r.cube.2 H=true
 ahead:∀x∈DL (l.take k),has x.1 x.2 H=false
theorem Sx(l:List AN)(H:List Int):(∃k r,Eu l H k r)∨∀x∈l,Hl H x=false:=by
 induction l with
 | nil=>exact .inr fun x hx=>absurd hx (bB)
 | cons a l ih=>
  cases e:Hl H a with
  | true=>exact .inl ⟨0,a,rfl,e,fun x hx=>absurd hx (by simp[DL])⟩
  | false=>
   rcases ih with ⟨k,r,h1,h2,h3⟩ | ih
   ·refine .inl ⟨k+1,r,h1,h2,fun x hx=> ?_⟩;unfold DL at hx h3;rw[List.take_succ_cons,List.map_cons] at hx;rcases aL.1 hx with rfl | hx
    ·exact e
    ·exact h3 x hx
   ·refine .inr fun x hx=> ?_;rcases aL.1 hx with rfl | hx
    ·exact e
    ·exact ih x hx
theorem Eu.lt{l:List AN}{H:List Int}{k:Nat}{r:AN}(h:Eu l H k r):k<l.length:=(aD.1 h.at_).1
theorem Eu.mem{l:List AN}{H:List Int}{k:Nat}{r:AN}(h:Eu l H k r):r∈l:=aJ h.at_
theorem Eu.before{l:List AN}{H:List Int}{k:Nat}{r:AN}(h:Eu l H k r){j:Nat}{x:AN}(hj:j<k)(hx:l[j]?=some x):has x.cube.1 x.cube.2 H=false:=by
 refine h.ahead x.cube (List.mem_map.2 ⟨x,?_,rfl⟩);refine aJ (i:=j) ?_;rw[List.getElem?_take_of_lt hj];exact hx
theorem Eu.look{l:List AN}{H:List Int}{k:Nat}{r:AN}(h:Eu l H k r):IK l H=(r,true):=by
 unfold IK;rw[Mr (k:=k) (x:=r) ?_ h.at_ h.has_];rw[aK];intro x hx;have:=h.ahead x.cube (List.mem_map.2 ⟨x,hx,rfl⟩);unfold Hl;rw[this];decide
theorem Tr{l:List AN}{H:List Int}(h:∀x∈l,Hl H x=false):IK l H=(Ii,false):=by
 unfold IK;rw[aK.2 fun x hx=>by rw[h x hx];decide]
end
def GL:Int:=1099511627776
def Cd(n:Int):Int:=if n<0 then 0 else if GL<n then GL else n
theorem RC(n:Int):0≤Cd n∧Cd n≤GL:=by unfold Cd GL;split;omega;split <;> omega
abbrev Ft:=List Int×List Int
def Av:Ae:=⟨0,0,0,0,(bE 13 0,bE 13 0),0,0,0,0,0,0⟩
structure Ay where
 c:List Ae
 a:List Ae
 p:List Ae
structure Rm where
 cache:Nat
 auth:Nat
 part:Nat
 idle:Int
 hard:Int
def Fk(s x:Ae):Bool:=x.epoch==s.epoch&&x.cube==s.cube
def BB(now epoch:Int)(cu:Ft)(action:Int):Ae:=⟨1,epoch,0,0,cu,action,0,0,Cd now,Cd now,0⟩
def BO(room:Nat)(C:List Ae)(s:Ae):List Ae×Ae×Bool×Int:=
 if room=0 then (C,Av,false,13)
 else match AD (Fk s) (fun _=>0) C with
  | some (A,_,B)=>(A++s::B,Av,false,0)
  | none=>if C.length=room then
    match AD (fun _=>true) (·.used) C with
    | some (A,x,B)=>(A++B++[s],x,true,0)
    | none=>(C++[s],Av,true,0)
   else (C++[s],Av,false,0)
theorem Mk(C:List Ae)(s:Ae):BO 0 C s=(C,Av,false,13):=by unfold BO;rw[if_pos rfl]
theorem M9{room:Nat}{C A B:List Ae}{s x:Ae}(hr:room≠0)(h:AD (Fk s) (fun _=>0) C=some (A,x,B)):BO room C s=(A++s::B,Av,false,0):=by
 unfold BO;rw[if_neg hr,h]
theorem Tt{room:Nat}{C A B:List Ae}{s x:Ae}(hr:room≠0)(h:AD (Fk s) (fun _=>0) C=none)(hf:C.length=room)(h':AD (fun _=>true) (·.used) C=some (A,x,B)):BO room C s=(A++B++[s],x,true,0):=by
 unfold BO;rw[if_neg hr,h];simp only[if_pos hf,h']
theorem Ts{room:Nat}{C:List Ae}{s:Ae}(hr:room≠0)(h:AD (Fk s) (fun _=>0) C=none)(hf:C.length≠room):BO room C s=(C++[s],Av,false,0):=by
 unfold BO;rw[if_neg hr,h];simp only[if_neg hf]
theorem Ny{C:List Ae}(h:C≠[])(k:Ae→Int):∃A x B,AD (fun _=>true) k C=some (A,x,B):=by
 cases hl:AD (fun _=>true) k C with
 | none=>
  cases C with
  | nil=>exact absurd rfl h
  | cons x C=>have:=CJ.1 hl x (by simp);cases this
 | some r=>exact⟨_,_,_,rfl⟩
theorem Im(room:Nat)(C:List Ae)(s:Ae):
  (room=0∧BO room C s=(C,Av,false,13))∨
  (room≠0∧∃A x B,Fa (Fk s) (fun _=>0) C A x B∧BO room C s=(A++s::B,Av,false,0))∨
  (room≠0∧(∀y∈C,Fk s y=false)∧C.length=room∧∃A x B,Fa (fun _=>true) (·.used) C A x B∧BO room C s=(A++B++[s],x,true,0))∨
  (room≠0∧(∀y∈C,Fk s y=false)∧C.length≠room∧BO room C s=(C++[s],Av,false,0)):=by
 by_cases hr:room=0
 ·subst hr;exact .inl ⟨rfl,Mk _ _⟩
 ·right
  cases h:AD (Fk s) (fun _=>0) C with
  | some r=>
   obtain⟨A,x,B⟩:=r;exact .inl ⟨hr,A,x,B,Dx h,M9 hr h⟩
  | none=>
   right;by_cases hf:C.length=room
   ·left;obtain⟨A,x,B,h'⟩:=Ny (C:=C) (fun e=>hr (by rw[←hf,e];rfl)) (·.used);exact⟨hr,CJ.1 h,hf,A,x,B,Dx h',Tt hr h hf h'⟩
   ·right;exact⟨hr,CJ.1 h,hf,Ts hr h hf⟩
theorem Vd(room:Nat)(C:List Ae)(s:Ae)(h:C.length≤room):(BO room C s).1.length≤room:=by
 rcases Im room C s with ⟨_,e⟩ | ⟨_,A,x,B,⟨h1,_⟩,e⟩ | ⟨_,_,hf,A,x,B,⟨h1,_⟩,e⟩ | ⟨_,_,hf,e⟩
 ·rw[e];exact h
 ·rw[e];rw[h1] at h;simpa using h
 ·rw[e];rw[h1] at hf;simp at hf ⊢;omega
 ·rw[e];simp;omega
theorem OM{P:Ae→Prop}(room:Nat)(C:List Ae)(s:Ae)(h:∀x∈C,P x)(hs:P s):∀x∈(BO room C s).1,P x:=by
 rcases Im room C s with ⟨_,e⟩ | ⟨_,A,x,B,⟨h1,_⟩,e⟩ | ⟨_,_,hf,A,x,B,⟨h1,_⟩,e⟩ | ⟨_,_,hf,e⟩
 ·rw[e];exact h
 ·rw[e];subst h1;intro y hy;rcases aG.1 hy with h2 | h2
  ·exact h y (by simp[h2])
  ·rcases aL.1 h2 with rfl | h2
   ·exact hs
   ·exact h y (by simp[h2])
 ·rw[e];subst h1;intro y hy;rcases aG.1 hy with h2 | h2
  ·rcases aG.1 h2 with h3 | h3
   ·exact h y (by simp[h3])
   ·exact h y (by simp[h3])
  ·obtain rfl:y=s:=by simpa using h2
   exact hs
 ·rw[e];intro y hy;rcases aG.1 hy with h2 | h2
  ·exact h y h2
  ·obtain rfl:y=s:=by simpa using h2
   exact hs
def Ni(s y:Ae):Bool:=y.epoch==s.epoch&&y.place==s.place
def EA(s:Ae)(cu:Ft):Ae:={s with cube:=cu,born:=0,used:=0,count:=0}
def FK(room:Nat)(D:List Ae)(s:Ae)(cu:Ft):List Ae×Int:=
 if D.any (Ni s)=true then (D,9) else if D.length=room then (D,13) else (D++[EA s cu],0)
theorem Ln(room:Nat)(D:List Ae)(s:Ae)(cu:Ft):
  (D.any (Ni s)=true∧FK room D s cu=(D,9))∨(D.any (Ni s)=false∧D.length=room∧FK room D s cu=(D,13))∨(D.any (Ni s)=false∧D.length≠room∧FK room D s cu=(D++[EA s cu],0)):=by
 unfold FK
 cases h:D.any (Ni s) with
 | true=>left;exact⟨rfl,by rw[if_pos rfl]⟩
 | false=>
  right;rw[if_neg (by simp)];by_cases hf:D.length=room
  ·left;exact⟨rfl,hf,by rw[if_pos hf]⟩
  ·right;exact⟨rfl,hf,by rw[if_neg hf]⟩
theorem Sf(room:Nat)(D:List Ae)(s:Ae)(cu:Ft)(h:D.length≤room):(FK room D s cu).1.length≤room:=by
 rcases Ln room D s cu with ⟨_,e⟩ | ⟨_,_,e⟩ | ⟨_,hf,e⟩ <;> rw[e]
 ·exact h
 ·exact h
 ·simp;omega
theorem Nz{P:Ae→Prop}(room:Nat)(D:List Ae)(s:Ae)(cu:Ft)(h:∀x∈D,P x)(hs:P (EA s cu)):∀x∈(FK room D s cu).1,P x:=by
 rcases Ln room D s cu with ⟨_,e⟩ | ⟨_,_,e⟩ | ⟨_,hf,e⟩ <;> rw[e]
 ·exact h
 ·exact h
 ·intro y hy;rcases aG.1 hy with h2 | h2
  ·exact h y h2
  ·obtain rfl:y=EA s cu:=by simpa using h2
   exact hs
def Hf(S:Ay)(mt:Ae→Bool):Option (Nat×List Ae×Ae×List Ae):=
 match AD mt (fun _=>0) S.c with
 | some r=>some (1,r)
 | none=>match AD mt (·.order) S.a with
  | some r=>some (2,r)
  | none=>(AD mt (·.order) S.p).map fun r=>(3,r)
def Ah6(S:Ay)(mt:Ae→Bool):Ae×Bool:=match Hf S mt with | some (_,_,x,_)=>(x,true) | none=>(Av,false)
def Fy(now:Int)(b:Nat)(x:Ae):Ae:={x with count:=if x.count<GL then x.count+1 else x.count,used:=if b=1 then Cd now else x.used}
def I8(S:Ay)(b:Nat)(l:List Ae):Ay:=if b=1 then {S with c:=l} else if b=2 then {S with a:=l} else {S with p:=l}
def Ct(S:Ay)(mt:Ae→Bool)(now:Int):Ay×Ae×Bool:=match Hf S mt with
 | some (b,A,x,B)=>(I8 S b (A++Fy now b x::B),Fy now b x,true)
 | none=>(S,Av,false)
theorem G7(S:Ay)(mt:Ae→Bool):
  (∃A x B,Fa mt (fun _=>0) S.c A x B∧Hf S mt=some (1,A,x,B))∨
  ((∀y∈S.c,mt y=false)∧∃A x B,Fa mt (·.order) S.a A x B∧Hf S mt=some (2,A,x,B))∨
  ((∀y∈S.c,mt y=false)∧(∀y∈S.a,mt y=false)∧∃A x B,Fa mt (·.order) S.p A x B∧Hf S mt=some (3,A,x,B))∨
  ((∀y∈S.c,mt y=false)∧(∀y∈S.a,mt y=false)∧(∀y∈S.p,mt y=false)∧Hf S mt=none):=by
 unfold Hf
 cases h1:AD mt (fun _=>0) S.c with
 | some r=>
  obtain⟨A,x,B⟩:=r;exact .inl ⟨A,x,B,Dx h1,rfl⟩
 | none=>
  right
  cases h2:AD mt (·.order) S.a with
  | some r=>
   obtain⟨A,x,B⟩:=r;exact .inl ⟨CJ.1 h1,A,x,B,Dx h2,rfl⟩
  | none=>
   right
   cases h3:AD mt (·.order) S.p with
   | some r=>
    obtain⟨A,x,B⟩:=r;exact .inl ⟨CJ.1 h1,CJ.1 h2,A,x,B,Dx h3,rfl⟩
   | none=>exact .inr ⟨CJ.1 h1,CJ.1 h2,CJ.1 h3,rfl⟩
theorem Qj{L:List Ae}{i:Nat}(s:Ae)(h:i<L.length):L.set i s=L.take i++s::L.drop (i+1):=by
 rw[List.set_eq_take_append_cons_drop,if_pos h]
def Fq(a b:Int)(x:Ae):Bool:=(x.epoch==a) || (x.epoch==b)
def GS(S:Ay)(a b:Int):Ay:=⟨S.c.filter (Fq a b),S.a.filter (Fq a b),S.p.filter (Fq a b)⟩
def Aek(idle hard now:Int)(x:Ae):Bool:=(decide (idle≠0)&&decide (idle≤Cd now-x.used)) || (decide (hard≠0)&&decide (hard≤Cd now-x.born))
def Aas(idle hard now:Int)(S:Ay):Ay×List Ae:=({S with c:=S.c.filter fun x=> !(Aek idle hard now x)},S.c.filter (Aek idle hard now))
end Go.Proofs.YtbhkoipcpcoooabGreat
