import Derived.Test.YtbhkoipcpcoooaaGreatJ5
import Derived.Great.Walk
import Derived.Laws.Cover3
import Derived.Test.YtbhkoipcpcoooaaGreatJ1
import Derived.Shelf.SlSortCmp.KitK
import Derived.Deep.LoopGhost
namespace Go.Proofs.YtbhkoipcpcoooaaGreat
set_option maxRecDepth 20000
set_option maxHeartbeats 64000000
open Go
open Go.Proofs.Tryz renaming prog → aA
open _root_.Nat renaming le_refl → aB, mul_le_mul_right → aM, le_of_eq → aV, le_trans → bC, min_eq_left → bJ
open _root_.List renaming length_append → aC, filter_append → aH, take_of_length_le → aJ, length_take → aK, length_set → aN, flatMap_cons → aO, getElem?_eq_some_iff → aQ, filter_eq_nil_iff → aX, length_filter_le → aZ, flatMap_append → bA, filter_eq_self → bB, append_assoc → bD, size_toArray → bE, take_add_one → bF, take_append → bG, filter_cons → bH
open _root_.Array renaming length_toList → aD
open Go.Sem renaming run_bind → aG, run_pure → aT
open Go.Result renaming andThen_ok → aI
open Go renaming sizeOf → aL
open _root_.Option.some renaming injEq → aP
open Go.IntKind renaming i64 → aY, wrap_i64 → bI, u64 → bS
section
open Go.RowKit
theorem Jx{P:Program}{ops:Array Oper}{Q:Exit→Act→World→Prop}{o:Oper}{rest:List Oper}{a:Act}{w:World}(_:o.op=.alloc 102)(h:wpList P ops Q (o::rest) a w):wpList P ops Q (o::rest) a w:=h
theorem Hy{P:Program}{ops:Array Oper}{Q:Exit→Act→World→Prop}{o:Oper}{rest:List Oper}{a:Act}{w:World}(x:Operand)(_:o.op=.load 102 x)(h:wpList P ops Q (o::rest) a w):wpList P ops Q (o::rest) a w:=h
theorem Ff{P:Program}{ops:Array Oper}{Q:Exit→Act→World→Prop}{o:Oper}{rest:List Oper}{a:Act}{w:World}(x y:Operand)(_:o.op=.store 102 x y)(h:wpList P ops Q (o::rest) a w):wpList P ops Q (o::rest) a w:=h
theorem Aq0{P:Program}{ops:Array Oper}{Q:Exit→Act→World→Prop}{o:Oper}{rest:List Oper}{a:Act}{w:World}(x:Operand)(_:o.op=.buildSlice 65 1 #[(0,x)])(h:wpList P ops Q (o::rest) a w):wpList P ops Q (o::rest) a w:=h
theorem VY{P:Program}{ops:Array Oper}{Q:Exit→Act→World→Prop}{o:Oper}{rest:List Oper}{a:Act}{w:World}(_:o.op=.build 102 #[])(h:wpList P ops Q (o::rest) a w):wpList P ops Q (o::rest) a w:=h
theorem Apz{P:Program}{ops:Array Oper}{Q:Exit→Act→World→Prop}{o:Oper}{rest:List Oper}{a:Act}{w:World}(x:Operand)(_:o.op=.load 37 x)(h:wpList P ops Q (o::rest) a w):wpList P ops Q (o::rest) a w:=h
theorem Akz{P:Program}{ops:Array Oper}{Q:Exit→Act→World→Prop}{o:Oper}{rest:List Oper}{a:Act}{w:World}(x:Operand)(_:o.op=.load 35 x)(h:wpList P ops Q (o::rest) a w):wpList P ops Q (o::rest) a w:=h
theorem Bf(w:World)(o:Obj):(w.alloc o).heap.size=w.heap.size+1:=by simp
theorem Ah3(w:World):(zeroValue 102).run aA w=.ok (.agg (Ac AJ)) w:=by rw[PG];kernel_rfl
theorem VI(w:World):(Instr.alloc 102 true (.tuple #[])).run aA w=.ok (.pointer (some ⟨w.heap.size,0,none⟩)) (w.alloc (.cells (Ac AJ) 102)):=by
 have hz:=Ah3 w;simp[Instr.alloc,aG,hz,newVar,newRow,Value.cells]
theorem Ev{ops:Array Oper}{rest:List Oper}{o:Oper}{a:Act}{w:World}{Q:Exit→Act→World→Prop}(hg:o.guard=none)(ho:o.op=.alloc 102)
  (h:wpList aA ops Q rest (a.put o.dst (.pointer (some ⟨w.heap.size,0,none⟩))) (w.alloc (.cells (Ac AJ) 102))):wpList aA ops Q (o::rest) a w:=by
 refine Great.wpList_allocTo hg o.dst rfl _ _ ?_ h;unfold execOp;simp only[ho,aG,VI,aI,aT]
theorem Nm{ops:Array Oper}{rest:List Oper}{o:Oper}{a:Act}{w:World}{Q:Exit→Act→World→Prop}(hg:o.guard=none)(ho:o.op=.build 102 #[])
  (h:wpList aA ops Q rest (a.put o.dst (.agg (Ac AJ))) w):wpList aA ops Q (o::rest) a w:=by
 refine Great.wpList_readTo hg o.dst rfl _ ?_ h;unfold execOp;simp only[ho,aG,List.map_toArray,List.map_nil,Acc,aI,aT]
theorem Ck{ops:Array Oper}{rest:List Oper}{o:Oper}{a:Act}{w:World}{Q:Exit→Act→World→Prop}(hgd:o.guard=none)(x y:Operand)(ho:o.op=.store 102 x y)
  (g:Nat) (s z:Ai) (hx:a.eval x=.pointer (some ⟨g,0,none⟩)) (hy:a.eval y=.agg (Ac s)) (hg:w.heap[g]?=some (.cells (Ac z) 102 (0,0)))
  (w':World) (hw':w.setRow g (Ac s)=w')
  (h:wpList aA ops Q rest (a.put o.dst undef) w'):wpList aA ops Q (o::rest) a w:=
 EK (E:=EP) Fs hgd x y ho g (Ac s) (Kn s) hx hy _ hg (Bl z) w' hw' h
theorem Dy{ops:Array Oper}{rest:List Oper}{o:Oper}{a:Act}{w:World}{Q:Exit→Act→World→Prop}(hw:Region.wanted o (yielded ops a.tmps)=true)(x:Operand)(ho:o.op=.load 102 x)
  (g off:Nat) (hx:a.eval x=.pointer (some ⟨g,off,none⟩)) (s:Ai) (hl:(loadVar 102 ⟨g,off,none⟩).run aA w=.ok (.agg (Ac s)) w)
  (h:wpList aA ops Q rest (a.put o.dst (.agg (Ac s))) w):wpList aA ops Q (o::rest) a w:=by
 refine wpList_step fun K hK=> ?_;rw[if_pos hw];unfold Oper.wp execOp;simp only[ho,hx,Instr.loadAt,Instr.sureAddr,aG,aT,aI,hl];exact hK _ _ h
theorem JX{w:World}{g off:Nat}{cur:Array Value}{t:TypeId}{fr:Nat×Nat}{s:Ai}(hg:w.heap[g]?=some (.cells cur t fr))(hc:∀j,j<36→cur[off+j]?=(Ac s)[j]?):(loadVar 102 ⟨g,off,none⟩).run aA w=.ok (.agg (Ac s)) w:=
 Fs.load w g off cur t fr (Ac s) (Bl s) hg hc
theorem He{w:World}{g:Nat}{t:TypeId}{fr:Nat×Nat}{s:Ai}(hg:w.heap[g]?=some (.cells (Ac s) t fr)):(loadVar 102 ⟨g,0,none⟩).run aA w=.ok (.agg (Ac s)) w:=JX hg fun j _=>by rw[Nat.zero_add]
theorem Aae{w:World}{g off:Nat}{cur:Array Value}{t:TypeId}{s:Ai}(hg:w.heap[g]?=some (.cells cur t (0,0)))(hf:off+36≤cur.size):
  (Instr.storeAt 102 (.pointer (some ⟨g,off,none⟩)) (.agg (Ac s))).run aA w=.ok () (w.setRow g (cur.toList.take off++(Ac s).toList++cur.toList.drop (off+36)).toArray):=by
 have hl:(Ac s).toList.length=36:=by rw[aD,Bl]
 have hst:=run_storeCells_at aA g off t (Ac s).toList 0 cur w hg (by rw[hl];simpa using hf) (fun u hu=>(Array.all_eq_true_iff_forall_mem.1 (PT s)) u (by simpa using hu));rw[Nat.add_zero,hl] at hst;have hz:∀w,(sizeOf 102).run aA w=.ok 36 w:=fun w=>by kernel_rfl
 simp[Instr.storeAt,Instr.sureAddr,storeVar,aG,Value.cells,hst,hz,Bl]
theorem Yt{ops:Array Oper}{rest:List Oper}{o:Oper}{a:Act}{w:World}{Q:Exit→Act→World→Prop}(hgd:o.guard=none)(x y:Operand)(ho:o.op=.store 102 x y)
  (g off:Nat) (s:Ai) (hx:a.eval x=.pointer (some ⟨g,off,none⟩)) (hy:a.eval y=.agg (Ac s)) (cur:Array Value) (t:TypeId) (hg:w.heap[g]?=some (.cells cur t (0,0))) (hf:off+36≤cur.size)
  (h:wpList aA ops Q rest (a.put o.dst undef) (w.setRow g (cur.toList.take off++(Ac s).toList++cur.toList.drop (off+36)).toArray)):wpList aA ops Q (o::rest) a w:=by
 refine wpList_plain hgd fun K hK=> ?_;unfold Oper.wp execOp;simp only[ho,hx,hy,aG,aT,aI,Aae hg hf];exact hK _ _ h
theorem Ads{enc:Ai→List Value}{q:Nat}(hq:∀c,(enc c).length=q){L:List Value}{C:List Ai}{k:Nat}(s:Ai)(hk:k<C.length)(hL:C.length*q≤L.length)(htk:L.take (C.length*q)=C.flatMap enc):
  (L.take (k*q)++enc s++L.drop (k*q+q)).length=L.length∧(L.take (k*q)++enc s++L.drop (k*q+q)).take (C.length*q)=(C.set k s).flatMap enc:=by
 have gl:∀D:List Ai,(D.flatMap enc).length=D.length*q:=fun D=>by
  induction D with
  | nil=>simp
  | cons c D ih=>rw[aO,aC,ih,hq,List.length_cons,Nat.add_mul,Nat.one_mul,Nat.add_comm]
 have hkq:k*q+q≤C.length*q:=by have:=aM q (show k+1≤C.length from hk);rwa [Nat.add_mul,Nat.one_mul] at this
 have l1:(L.take (k*q)).length=k*q:=by rw[aK];omega
 have hs:=hq s
 have e0:C.flatMap enc=(C.take k).flatMap enc++(enc C[k]++(C.drop (k+1)).flatMap enc):=by
  conv=>lhs;rw[←List.take_append_drop k C,List.drop_eq_getElem_cons hk]
  rw[bA,aO]
 have e1:(C.set k s).flatMap enc=(C.take k).flatMap enc++(enc s++(C.drop (k+1)).flatMap enc):=by
  rw[UW s hk,bA,aO]
 have g1:((C.take k).flatMap enc).length=k*q:=by rw[gl,aK];congr 1;omega
 have t1:L.take (k*q)=(C.take k).flatMap enc:=by
  have:=congrArg (List.take (k*q)) htk;rw[List.take_take,bJ (by omega),e0,List.take_append_of_le_length (aV g1.symm),aJ (aV g1)] at this;exact this
 have g2:((C.take k).flatMap enc++enc C[k]).length=k*q+q:=by rw[aC,g1,hq]
 have t2:(L.drop (k*q+q)).take (C.length*q-(k*q+q))=(C.drop (k+1)).flatMap enc:=by
  rw[←List.drop_take,htk,e0, ←bD,List.drop_append_of_le_length (aV g2.symm),List.drop_of_length_le (aV g2),List.nil_append]
 refine⟨?_,?_⟩
 ·rw[aC,aC,l1,hs,List.length_drop];omega
 ·rw[e1,t1,bD,bG,g1,aJ (l:=(C.take k).flatMap enc) (by omega),bG,hs,aJ (l:=enc s) (by omega),show C.length*q-k*q-q=C.length*q-(k*q+q) by omega,t2]
theorem Am0{cur:Array Value}{C:List Ai}{k:Nat}(s:Ai)(hk:k<C.length)(hsz:C.length*36≤cur.size)(htk:cur.toList.take (C.length*36)=BC Ac C):
  (cur.toList.take (k*36)++(Ac s).toList++cur.toList.drop (k*36+36)).toArray.size=cur.size∧(cur.toList.take (k*36)++(Ac s).toList++cur.toList.drop (k*36+36)).toArray.toList.take (C.length*36)=BC Ac (C.set k s):=by
 have h:=Ads (enc:=fun c=>(Ac c).toList) (q:=36) (fun c=>by rw[aD,Bl]) (L:=cur.toList) s hk (by rw[aD];exact hsz) htk;exact⟨by rw[bE,h.1,aD],h.2⟩
theorem Au.store{B:Nat}{w:World}{g n cap:Nat}{C:List Ai}(h:Au B w (.slice (some ⟨g,0,none⟩) n cap) C)(k:Nat)(hk:k<C.length)(s:Ai):
  ∃cur,w.heap[g]?=some (.cells cur 102 (0,0))∧k*36+36≤cur.size∧∀w':World,w'.heap[g]?=some (.cells (cur.toList.take (k*36)++(Ac s).toList++cur.toList.drop (k*36+36)).toArray 102 (0,0))→Au B w' (.slice (some ⟨g,0,none⟩) n cap) (C.set k s):=by
 obtain⟨h1,⟨e,_⟩ | ⟨g',cap',cur,e,hB,hcur,h3,h4,h5,h6⟩⟩:=h
 ·cases e
 ·simp only[Value.slice.injEq,aP,Addr.mk.injEq,and_true] at e;obtain⟨⟨rfl,_⟩,rfl,rfl⟩:=e;have hsz:C.length*36≤cur.size:=by rw[h5];exact aM 36 h3
  obtain⟨q1,q2⟩:=Am0 s hk hsz h6;refine⟨cur,hcur,by omega,fun w' hw'=>⟨?_,.inr ⟨g,cap,_,by rw[aN],hB,hw',by rw[aN];exact h3,h4,by rw[q1];exact h5,by rw[aN];exact q2⟩⟩⟩;have:=congrArg List.length q2;rw[aK,List.toList_toArray] at this;rw[bE] at q1;rw[aN, ←this,q1];exact bJ hsz
theorem Mf{ops:Array Oper}{rest:List Oper}{o:Oper}{a:Act}{w:World}{Q:Exit→Act→World→Prop}(hg:o.guard=none)(x:Operand)(ho:o.op=.buildSlice 65 1 #[(0,x)])(s:Ai)(hx:a.eval x=.agg (Ac s))
  (h:wpList aA ops Q rest (a.put o.dst (.slice (some ⟨w.heap.size,0,none⟩) 1 1)) (w.alloc (.cells (Ac s) 102))):wpList aA ops Q (o::rest) a w:=
 Ki (E:=EP) Fs hg x ho (Ac s) (Bl s) hx h
theorem Oz{ops:Array Oper}{rest:List Oper}{o:Oper}{a:Act}{w:World}{Q:Exit→Act→World→Prop}(hgd:o.guard=none)(s x:Operand)(ho:o.op=.call {callee:=.builtin .append,args:=#[s,x],argTypes:=#[65,65]})
  (B:Nat) (v:Value) (C:List Ai) (c:Ai) (hs:a.eval s=v) (hown:Au B w v C) (g cap:Nat) (hx:a.eval x=.slice (some ⟨g,0,none⟩) 1 cap) (hg:w.heap[g]?=some (.cells (Ac c) 102 (0,0)))
  (hn:C.length≤1000000) (hB:B≤w.heap.size)
  (h:∀v' w',Au B w' v' (C++[c])→w.grownBy w' v.ownBlock→(v'.ownBlock=v.ownBlock∨v'.ownBlock=some w.heap.size)→wpList aA ops Q rest (a.put o.dst v') w'):wpList aA ops Q (o::rest) a w:=
 KC (E:=EP) Fs Ac hgd s x ho B v C c (Kn _) hs hown g cap hx hg hn hB h
theorem TS{ops:Array Oper}{rest:List Oper}{o:Oper}{a:Act}{w:World}{Q:Exit→Act→World→Prop}(hgd:o.guard=none)(s x:Operand)(ho:o.op=.call {callee:=.builtin .append,args:=#[s,x],argTypes:=#[65,65]})
  (g n cap:Nat) (hs:a.eval s=.slice (some ⟨g,0,none⟩) n cap) (cur:Array Value) (hg:w.heap[g]?=some (.cells cur 102 (0,0))) (gx capx:Nat) (c:Ai) (hx:a.eval x=.slice (some ⟨gx,0,none⟩) 1 capx) (hgx:w.heap[gx]?=some (.cells (Ac c) 102 (0,0)))
  (hroom:n+1≤cap) (hfit:n*36+36≤cur.size) (w3:World) (hw3:w.setRow g (cur.toList.take (n*36)++(Ac c).toList++cur.toList.drop (n*36+36)).toArray=w3)
  (h:wpList aA ops Q rest (a.put o.dst (.slice (some ⟨g,0,none⟩) (n+1) cap)) w3):wpList aA ops Q (o::rest) a w:=by
 subst hw3;exact VL (E:=EP) Fs hgd s x ho g n cap hs cur hg gx capx (Ac c) (Kn _) hx hgx hroom hfit h
theorem Pn{l:List Ai}{k:Nat}{x:Ai}{q:Ai→Bool}(h:l[k]?=some x)(hq:q x=true):(l.take (k+1)).filter q=(l.take k).filter q++[x]:=by
 rw[bF,h,aH];simp[hq]
theorem QY{l:List Ai}{k:Nat}{x:Ai}{q:Ai→Bool}(h:l[k]?=some x)(hq:q x=false):(l.take (k+1)).filter q=(l.take k).filter q:=by
 rw[bF,h,aH];simp[hq]
theorem RV{l:List Ai}(k:Nat)(q:Ai→Bool):((l.take k).filter q).length≤k:=bC (aZ _ _) (by rw[aK];omega)
def Gk(p:Prop):Prop:=p
theorem D9{p:Prop}(h:Gk p):p:=h
structure TJ(g n cap:Nat)(w wr:World)(C:List Ai)(p:Ai→Bool)(cur:Array Value)(k m:Nat)(vg:Value):Prop where
 hm:m=((C.take k).filter fun x=> !(p x)).length
 row:∃cur',wr.heap[g]?=some (.cells cur' 102 (0,0))∧cur'.size=cur.size∧cur'.toList.take (m*36)=BC Ac ((C.take k).filter fun x=> !(p x))∧∀j,k*36≤j→cur'[j]?=cur[j]?
 gone:Au w.heap.size wr vg ((C.take k).filter p)
 kept:As (Cq g) w wr
theorem Aei(B g n cap:Nat)(C:List Ai)(w:World)(cur:Array Value)(hn0:n=C.length)(hB:B≤g)(hg:w.heap[g]?=some (.cells cur 102 (0,0)))(hcap:n≤cap)(hcm:cap≤maxLen)(hsz:cur.size=cap*36)(htk:cur.toList.take (n*36)=BC Ac C)(hn:n≤1000000)
  (f:Nat) (cb:Array Value) (p:Ai→Bool) (eg:∀args w,(callFunc f args).run aA w=.ok (.enter f args) w) (hc:TN (fun W=>As (Cq g) w W) f cb p):
  Calls aA 142 #[.slice (some ⟨g,0,none⟩) n cap,.func (.func f) #[] cb] w fun e w'=> ∃v1 v2,e=.returned (.tuple #[v1,v2])∧Au B w' v1 (C.filter fun x=> !(p x))∧v1.ownBlock=some g∧Au w.heap.size w' v2 (C.filter p)∧As (Cq g) w w':=by
 have hglt:g<w.heap.size:=(gS hg);have HC:Hid _:=hc;have HN:Hid _:=hn0
 have HAT:Hid (∀(k:Nat) (x:Ai) (cur':Array Value),C[k]?=some x→(∀j,k*36≤j→cur'[j]?=cur[j]?)→∀j,j<36→cur'[k*36+j]?=(Ac x)[j]?):=fun k x cur' hx hj j hj36=>by
  have hk:k<C.length:=(aQ.1 hx).1;rw[hj _ (by omega)];have h1:=LU Ac 36 C (fun c _=>Bl c) k hk j hj36;rw[←htk,List.getElem?_take_of_lt (by have:=aM 36 (show k+1≤n by omega);omega),Array.getElem?_toList] at h1;rw[Nat.mul_comm k 36,h1,(aQ.1 hx).2]
 have H0:Hid (TJ g n cap w w C p cur 0 0 (.slice none 0 0)):=⟨by simp,⟨cur,hg,rfl,by simp[BC],fun j _=>rfl⟩,by simpa using Au.nil _ _,As.refl _ _⟩
 have HE:Hid (∀wr m vg,TJ g n cap w wr C p cur n m vg→∃v1 v2,Ending.returned (.tuple #[.slice (some ⟨g,0,none⟩) m cap,vg])=.returned (.tuple #[v1,v2])∧Au B wr v1 (C.filter fun x=> !(p x))∧v1.ownBlock=some g∧Au w.heap.size wr v2 (C.filter p)∧As (Cq g) w wr):=fun wr m vg h=>by
  obtain⟨h1,⟨cur',h2,h3,h4,_⟩,h5,h6⟩:=h;rw[hn0,List.take_length] at h1 h4 h5;subst h1;refine⟨_,_,rfl,?_,rfl,h5,h6⟩;refine⟨Pk Bl _,.inr ⟨g,cap,cur',rfl,hB,h2,bC (aZ _ _) (by omega),hcm,by rw[h3,hsz],h4⟩⟩
 unfold maxLen at hcm;have HSZ:Hid _:=hsz;clear hc hg htk hB hn0 hsz;go_enter Tryz.func142,Tryz.ntmps142;go_wp2_with fail;go_loopw [6,7,14] (fun s6 s7 i wr=> ∃(k m:Nat),k≤n∧i=.int .i64 (k:Int)∧s6=.slice (some ⟨g,0,none⟩) m cap∧Hid (TJ g n cap w wr C p cur k m s7)) (fun _ _ i _=>n-(intOf i).toNat)
 case atStart=>exact⟨0,0,Nat.zero_le _,rfl,rfl,H0.out⟩
 case round=>
  obtain⟨k,m,hk,rfl,rfl,HS⟩:=hrel;by_cases hlt:k<n
  ·have hlt':(k:Int)<(n:Int):=by omega
   obtain⟨x,hx⟩:∃x,C[k]?=some x:=⟨_,List.getElem?_eq_getElem (show k<C.length by have:=HN.out;omega)⟩;have HX:Hid _:=hx;obtain⟨cur',hr1,hr2,hr3,hr4⟩:=HS.out.row;have K1:Hid _:=hr1;have K1s:Hid (cur'.size=cap*36):=hr2.trans HSZ.out;have H1:Hid (∀j,j<36→cur'[k*36+j]?=(Ac x)[j]?):=HAT.out k x cur' hx hr4;have HM:Hid (m≤k):=by show _≤_;rw[HS.out.hm];exact RV _ _
   have R3:Hid _:=hr3;have R4:Hid _:=hr4;have KN:Hid ((wr.alloc (.cells (Ac x) 102)).heap[wr.heap.size]?=some (.cells (Ac x) 102 (0,0))):=Ab _ _ _ rfl;have KB:Hid (Below wr.heap.size wr (wr.alloc (.cells (Ac x) 102))):=(Below.refl _ _).alloc (aB _) _;have KG:Hid (As (Cq g) w (wr.alloc (.cells (Ac x) 102))):=HS.out.kept.add KB.out;have hcall:=HC.out x _ KG.out;have ML:Hid (((C.take k).filter p).length≤1000000):=by show _≤_;have:=RV (l:=C) k p;omega
   clear hr1 hr2 hr3 hr4 hx
   cases hp:p x with
   | true=>
    rw[hp] at hcall;have HPX:Hid _:=hp;clear hp
    go_wp2_with (first
     | (refine Dy rfl _ rfl g (k*36) rfl x (JX K1.out H1.out) ?_)
     | (refine Ev rfl rfl ?_)
     | (refine Ck rfl _ _ rfl wr.heap.size x AJ rfl rfl (Ab _ _ _ rfl) _ (Bo _ _ _ _ _ rfl) ?_;refine D9 ?_))
    unfold Gk;go_wp2_with (refine Dy rfl _ rfl wr.heap.size 0 rfl x (He KN.out) ?_);refine hcall.mono ?_;rintro e w1 ⟨rfl,hb1⟩;have B1:Hid (Below wr.heap.size wr w1):=BL KB.out KB.out.size hb1;have KN1:Hid (w1.heap[wr.heap.size]?=some (.cells (Ac x) 102 (0,0))):=(hb1.block _ (by simp)).trans KN.out;have GO:Hid (Au w.heap.size (w1.alloc (.cells (Ac x) 102)) u7 ((C.take k).filter p)):=(HS.out.gone.below B1.out).below ((Below.refl _ _).alloc (aB _) _);have B2:Hid (Below wr.heap.size wr (w1.alloc (.cells (Ac x) 102))):=B1.out.alloc B1.out.size _;clear hcall hb1
    go_wp2_with (first
     | (refine Dy rfl _ rfl wr.heap.size 0 rfl x (He KN1.out) ?_)
     | (refine Mf rfl _ rfl x rfl ?_)
     | (at_builtin;refine D9 ?_))
    unfold Gk;refine Oz rfl _ _ rfl w.heap.size u7 ((C.take k).filter p) x rfl GO.out w1.heap.size 1 rfl (Ab _ _ _ rfl) ML.out (by have h1:=HS.out.kept.size;have h2:=B2.out.size;omega) ?_;intro v' w3 hown3 hgr3 hv'
    have B3:Hid (TJ g n cap w w3 C p cur (k+1) m v'):=by
     have hne:u7.ownBlock≠some g:=fun e=>by have:=(HS.out.gone.lt g e).1;omega
     have hgr:g<wr.heap.size:=(gS K1.out);refine⟨?_,⟨cur',?_,K1s.out.trans HSZ.out.symm,?_,fun j hj=>R4.out j (by omega)⟩,?_,?_⟩
     ·rw[QY HX.out (by rw[HPX.out];rfl)];exact HS.out.hm
     ·rw[hgr3.block g (by have:=B2.out.size;omega) (fun e=>hne e.symm),B2.out.block g hgr];exact K1.out
     ·rw[QY HX.out (by rw[HPX.out];rfl)];exact R3.out
     ·rw[Pn HX.out HPX.out];exact hown3
     ·exact(HS.out.kept.add B2.out).trans (As.of_grown (X:=fun j=>w.heap.size≤j) hgr3 fun j hj=>(HS.out.gone.lt j hj).1) fun j hj=> .inr hj
    clear hown3 hgr3 hv';simp only[pU];go_wp2_with fail;go_roundw
    case rel=>exact⟨k+1,m,by omega,by go_num,rfl,B3.out⟩
    case measure=>simp[intOf];omega
   | false=>
    rw[hp] at hcall;have HPX:Hid _:=hp;clear hp
    go_wp2_with (first
     | (refine Dy rfl _ rfl g (k*36) rfl x (JX K1.out H1.out) ?_)
     | (refine Ev rfl rfl ?_)
     | (refine Ck rfl _ _ rfl wr.heap.size x AJ rfl rfl (Ab _ _ _ rfl) _ (Bo _ _ _ _ _ rfl) ?_;refine D9 ?_))
    unfold Gk;go_wp2_with (refine Dy rfl _ rfl wr.heap.size 0 rfl x (He KN.out) ?_);refine hcall.mono ?_;rintro e w1 ⟨rfl,hb1⟩;have B1:Hid (Below wr.heap.size wr w1):=BL KB.out KB.out.size hb1;have KN1:Hid (w1.heap[wr.heap.size]?=some (.cells (Ac x) 102 (0,0))):=(hb1.block _ (by simp)).trans KN.out;have B2:Hid (Below wr.heap.size wr (w1.alloc (.cells (Ac x) 102))):=B1.out.alloc B1.out.size _;have KR:Hid ((w1.alloc (.cells (Ac x) 102)).heap[g]?=some (.cells cur' 102 (0,0))):=(B2.out.block g (gS K1.out)).trans K1.out;have hfit:m*36+36≤cur'.size:=by have h1:=K1s.out;have h2:=HM.out;omega
    have hroom:m+1≤cap:=by have h2:=HM.out;omega
    clear hcall hb1
    go_wp2_with (first
     | (refine Dy rfl _ rfl wr.heap.size 0 rfl x (He KN1.out) ?_)
     | (refine Mf rfl _ rfl x rfl ?_)
     | (at_builtin;refine D9 ?_))
    unfold Gk;obtain⟨w3,hw3⟩:∃w3,(w1.alloc (.cells (Ac x) 102)).setRow g (cur'.toList.take (m*36)++(Ac x).toList++cur'.toList.drop (m*36+36)).toArray=w3:=⟨_,rfl⟩;refine TS rfl _ _ rfl g m cap rfl cur' KR.out w1.heap.size 1 x rfl (Ab _ _ _ rfl) hroom hfit w3 hw3 ?_
    have B3:Hid (TJ g n cap w w3 C p cur (k+1) (m+1) u7):=by
     obtain⟨q1,q2,q3⟩:=Ahv (n:=m) (Bl x) hfit;have hgw:w3.heap[g]?=some (.cells (cur'.toList.take (m*36)++(Ac x).toList++cur'.toList.drop (m*36+36)).toArray 102 (0,0)):=by rw[←hw3];exact setRow_heap _ _ _ _ _ _ KR.out
     have hot:∀j,j≠g→w3.heap[j]?=(w1.alloc (.cells (Ac x) 102)).heap[j]?:=fun j hj=>by rw[←hw3];exact setRow_other _ g j _ hj
     have hks:As (Cq g) (w1.alloc (.cells (Ac x) 102)) w3:=by
      rw[←hw3];exact⟨rfl,rfl,rfl,by simp,fun j _ hj=>setRow_other _ g j _ hj⟩
     have hhm:=HS.out.hm;refine⟨?_,⟨_,hgw,q1.trans (K1s.out.trans HSZ.out.symm),?_,fun j hj=> ?_⟩,?_,?_⟩
     ·rw[Pn HX.out (by rw[HPX.out];rfl),aC, ←hhm];rfl
     ·rw[q2,R3.out,Pn HX.out (by rw[HPX.out];rfl),J4,Tk]
     ·rw[q3 j (by have:=HM.out;omega)];exact R4.out j (by omega)
     ·rw[QY HX.out HPX.out];exact((HS.out.gone.below B1.out).below ((Below.refl _ _).alloc (aB _) _)).kept hks fun j hj e=>by have:=(HS.out.gone.lt j hj).1;unfold Cq at e;omega
     ·exact(HS.out.kept.add B2.out).trans hks fun j hj=> .inl hj
    clear hw3;simp only[pU];go_wp2_with fail;go_roundw
    case rel=>exact⟨k+1,m+1,by omega,by go_num,rfl,B3.out⟩
    case measure=>simp[intOf];omega
  ·have hlt':¬(k:Int)<(n:Int):=by omega
   obtain rfl:k=n:=by omega
   go_wp2_with fail;go_ret2;exact HE.out _ _ _ HS.out
theorem Aib(w:World)(fv:Value):Calls aA 142 #[.slice none 0 0,fv] w fun e w'=>e=.returned (.tuple #[.slice none 0 0,.slice none 0 0])∧w'=w:=by
 go_enter Tryz.func142,Tryz.ntmps142;go_wp2_with fail;go_loopw [6,7,14] (fun s6 s7 i wr=>i=.int .i64 0∧s6=.slice none 0 0∧s7=.slice none 0 0∧wr=w) (fun _ _ _ _=>0)
 case atStart=>exact⟨rfl,rfl,rfl,rfl⟩
 case round=>
  obtain⟨rfl,rfl,rfl,rfl⟩:=hrel;go_wp2_with fail;go_ret2;exact⟨rfl,rfl⟩
theorem Aic(B:Nat)(C:List Ai)(v:Value)(w:World)(hv:Au B w v C)(hn:C.length≤1000000)
  (f:Nat) (cb:Array Value) (p:Ai→Bool) (eg:∀args w,(callFunc f args).run aA w=.ok (.enter f args) w) (hc:TN (fun W=>As (BT v) w W) f cb p):
  Calls aA 142 #[v,.func (.func f) #[] cb] w fun e w'=> ∃v1 v2,e=.returned (.tuple #[v1,v2])∧Au B w' v1 (C.filter fun x=> !(p x))∧v1.ownBlock=v.ownBlock∧Au w.heap.size w' v2 (C.filter p)∧As (BT v) w w':=by
 obtain⟨h1,⟨rfl,h2⟩ | ⟨g,cap,cur,rfl,hB,hcur,h3,h4,h5,h6⟩⟩:=hv
 ·have hC:C=[]:=List.eq_nil_of_length_eq_zero h2;subst hC;refine(Aib w _).mono ?_;rintro e w' ⟨rfl,rfl⟩;exact⟨_,_,rfl,Au.nil _ _,rfl,Au.nil _ _,As.refl _ _⟩
 ·have key:∀W,As (Cq g) w W↔As (BT (.slice (some ⟨g,0,none⟩) C.length cap)) w W:=fun W=>
   ⟨fun h=>h.mono fun k _ e=>by unfold Cq at e;unfold BT Value.ownBlock;rw[e],fun h=>h.mono fun k _ e=>by unfold BT Value.ownBlock at e;simp only[aP] at e;exact e.symm⟩
  refine(Aei B g C.length cap C w cur rfl hB hcur h3 h4 h5 h6 hn f cb p eg (fun x W hW=>hc x W ((key W).1 hW))).mono ?_;rintro e w' ⟨v1,v2,rfl,q1,q2,q3,q4⟩;exact⟨v1,v2,rfl,q1,q2,q3,(key w').1 q4⟩
def T4(v1 v2 v3:Value)(b:Nat)(u:Value):Value×Value×Value:=if b=1 then (u,v2,v3) else if b=2 then (v1,u,v3) else if b=3 then (v1,v2,u) else (v1,v2,v3)
def RC(S:Aq)(b:Nat)(l:List Ai):Aq:=if b=1 then {S with c:=l} else if b=2 then {S with a:=l} else if b=3 then {S with p:=l} else S
theorem Cw.put{B:Nat}{w w':World}{g:Nat}{R:Rm}{S:Aq}{v1 v2 v3:Value}(h:Cw B w g R S v1 v2 v3)(b:Nat)(hb:b<4)(u:Value)(l:List Ai)(hk:As (BT (Cj v1 v2 v3 b)) w w')(hu:Au B w' u l)(ho:u.ownBlock=(Cj v1 v2 v3 b).ownBlock∨∀k,u.ownBlock=some k→w.heap.size≤k)(hz:b=0→u=.slice none 0 0):
  Cw B (w'.setCell ⟨g,4+b,none⟩ u) g R (RC S b l) (T4 v1 v2 v3 b u).1 (T4 v1 v2 v3 b u).2.1 (T4 v1 v2 v3 b u).2.2∧As (Eg g v1 v2 v3) w (w'.setCell ⟨g,4+b,none⟩ u)∧∀k,Eg g (T4 v1 v2 v3 b u).1 (T4 v1 v2 v3 b u).2.1 (T4 v1 v2 v3 b u).2.2 k→Eg g v1 v2 v3 k∨w.heap.size≤k:=by
 have hgx:¬BT (Cj v1 v2 v3 b) g:=(h.bank b).ty h.blk (by decide);have hbk:=hk.heap h.blk hgx;have hset:(w'.setCell ⟨g,4+b,none⟩ u).heap[g]?=some (.cells ((OD R v1 v2 v3).setIfInBounds (4+b) u) 155 (0,0)):=heap_setCell_same w' g (4+b) _ _ _ hbk;have hoth:∀k,k≠g→(w'.setCell ⟨g,4+b,none⟩ u).heap[k]?=w'.heap[k]?:=fun k hkg=>heap_setCell_other w' ⟨g,4+b,none⟩ k _ (by simpa using hkg);have hK2:As (Cq g) w' (w'.setCell ⟨g,4+b,none⟩ u):=⟨rfl,rfl,rfl,by simp[World.setCell],fun k _ e=>hoth k e⟩;have hug:∀k,u.ownBlock=some k→¬Cq g k:=fun k e1 e2=>by unfold Cq at e2;subst e2;exact hu.ty hbk (by decide) e1
 have old:∀(v:Value) (C:List Ai),Au B w v C→Fe v.ownBlock (Cj v1 v2 v3 b).ownBlock→Au B (w'.setCell ⟨g,4+b,none⟩ u) v C:=fun v C hv ha=>
  (hv.kept hk fun k e e'=>ha.ne k e e').kept hK2 fun k e e'=>by unfold Cq at e';subst e';exact hv.ty h.blk (by decide) e
 have hu':Au B (w'.setCell ⟨g,4+b,none⟩ u) u l:=hu.kept hK2 hug
 have ap:∀v:Value,(∃C,Au B w v C)→Fe v.ownBlock (Cj v1 v2 v3 b).ownBlock→Fe v.ownBlock u.ownBlock:=fun v ⟨C,hv⟩ ha=>by
  rcases ho with e | e
  ·rw[e];exact ha
  ·cases hvb:v.ownBlock with
   | none=>exact .inl rfl
   | some k=>
    refine .inr (.inr fun e'=> ?_);have:=(hv.lt k hvb).2;have:=e k e'.symm;omega
 have hKf:As (Eg g v1 v2 v3) w (w'.setCell ⟨g,4+b,none⟩ u):=by
  refine(hk.mono (Y:=Eg g v1 v2 v3) fun k _ e=> ?_).trans hK2 fun k e=> .inl (.inl e);unfold BT Cj at e;split at e
  ·exact .inr (.inl e)
  ·split at e
   ·exact .inr (.inr (.inl e))
   ·split at e
    ·exact .inr (.inr (.inr e))
    ·cases e
 have ho':∀k,u.ownBlock=some k→(Cj v1 v2 v3 b).ownBlock=some k∨w.heap.size≤k:=fun k e=>by
  rcases ho with e' | e'
  ·rw[e'] at e;exact .inl e
  ·exact .inr (e' k e)
 rcases(show b=0∨b=1∨b=2∨b=3 by omega) with rfl | rfl | rfl | rfl
 ·have hu0:=hz rfl;subst hu0;exact⟨⟨hset,old _ _ h.o1 (.inr (.inl rfl)),old _ _ h.o2 (.inr (.inl rfl)),old _ _ h.o3 (.inr (.inl rfl)),h.a12,h.a13,h.a23,h.hB⟩,hKf,fun k hk=> .inl hk⟩
 ·refine⟨⟨hset,hu',old _ _ h.o2 h.a12.symm,old _ _ h.o3 h.a13.symm,(ap _ ⟨_,h.o2⟩ h.a12.symm).symm,(ap _ ⟨_,h.o3⟩ h.a13.symm).symm,h.a23,h.hB⟩,hKf,fun k hk=> ?_⟩;rcases hk with e | e | e | e
  ·exact .inl (.inl e)
  ·rcases ho' k e with e' | e'
   ·exact .inl (.inr (.inl e'))
   ·exact .inr e'
  ·exact .inl (.inr (.inr (.inl e)))
  ·exact .inl (.inr (.inr (.inr e)))
 ·refine⟨⟨hset,old _ _ h.o1 h.a12,hu',old _ _ h.o3 h.a23.symm,ap _ ⟨_,h.o1⟩ h.a12,h.a13,(ap _ ⟨_,h.o3⟩ h.a23.symm).symm,h.hB⟩,hKf,fun k hk=> ?_⟩;rcases hk with e | e | e | e
  ·exact .inl (.inl e)
  ·exact .inl (.inr (.inl e))
  ·rcases ho' k e with e' | e'
   ·exact .inl (.inr (.inr (.inl e')))
   ·exact .inr e'
  ·exact .inl (.inr (.inr (.inr e)))
 ·refine⟨⟨hset,old _ _ h.o1 h.a13,old _ _ h.o2 h.a23,hu',h.a12,ap _ ⟨_,h.o1⟩ h.a13,ap _ ⟨_,h.o2⟩ h.a23,h.hB⟩,hKf,fun k hk=> ?_⟩;rcases hk with e | e | e | e
  ·exact .inl (.inl e)
  ·exact .inl (.inr (.inl e))
  ·exact .inl (.inr (.inr (.inl e)))
  ·rcases ho' k e with e' | e'
   ·exact .inl (.inr (.inr (.inr e')))
   ·exact .inr e'
def Di(B:Nat)(w w':World)(g:Nat)(R:Rm)(S':Aq)(v1 v2 v3:Value):Prop:=∃u1 u2 u3,Cw B w' g R S' u1 u2 u3∧As (Eg g v1 v2 v3) w w'∧∀k,Eg g u1 u2 u3 k→Eg g v1 v2 v3 k∨w.heap.size≤k
theorem RX(B:Nat)(w:World)(g:Nat)(R:Rm)(S:Aq)(v1 v2 v3:Value)(h:Cw B w g R S v1 v2 v3)(b:Nat)(hb:b<4)(hn:(Bv S b).length≤1000000)
  (f:Nat) (cb:Array Value) (p:Ai→Bool) (eg:∀args w,(callFunc f args).run aA w=.ok (.enter f args) w) (hc:TN (fun W=>As (BT (Cj v1 v2 v3 b)) w W) f cb p):
  Calls aA 108 #[.pointer (some ⟨g,0,none⟩),.int .i64 (b:Int),.func (.func f) #[] cb] w fun e w'=> ∃u,e=.returned u∧Au w.heap.size w' u ((Bv S b).filter p)∧Di B w w' g R (RC S b ((Bv S b).filter fun x=> !(p x))) v1 v2 v3:=by
 obtain⟨vb,hvb⟩:=eX (Cj v1 v2 v3 b);have hpt:=Aic B _ _ w (h.bank b) hn f cb p eg hc;have c1:=h.f.bankCell b hb;rw[←hvb] at hpt c1;have HP:Hid (∀fv W,W=w→fv=Value.func (.func f) #[] cb→Calls aA 142 #[vb,fv] W fun e w'=> ∃v1 v2,e=.returned (.tuple #[v1,v2])∧Au B w' v1 ((Bv S b).filter fun x=> !(p x))∧v1.ownBlock=vb.ownBlock∧Au w.heap.size w' v2 ((Bv S b).filter p)∧As (BT vb) w w'):=fun fv W hW hf=>by subst hW;subst hf;exact hpt
 have HSL:Hid (∀w' u1 u2,Au B w' u1 ((Bv S b).filter fun x=> !(p x))→Au w.heap.size w' u2 ((Bv S b).filter p)→(∃o n c,u1=.slice o n c)∧∃o n c,u2=.slice o n c):=fun w' u1 u2 h1 h2=>by
  obtain⟨o,c,e,_⟩:=h1.slice;obtain⟨o',c',e',_⟩:=h2.slice;exact⟨⟨o,_,c,e⟩,⟨o',_,c',e'⟩⟩
 have HF:Hid (∀w' u1 u2,Au B w' u1 ((Bv S b).filter fun x=> !(p x))→u1.ownBlock=vb.ownBlock→Au w.heap.size w' u2 ((Bv S b).filter p)→As (BT vb) w w'→(∀k,w'.frozen? ⟨g,k,none⟩=false)∧w'.cell? ⟨g,4+b,none⟩=some vb∧Au w.heap.size (w'.setCell ⟨g,4+b,none⟩ u1) u2 ((Bv S b).filter p)∧Di B w (w'.setCell ⟨g,4+b,none⟩ u1) g R (RC S b ((Bv S b).filter fun x=> !(p x))) v1 v2 v3):=fun w' u1 u2 q1 q2 q3 q4=>by
  have hgx:¬BT vb g:=by rw[hvb];exact(h.bank b).ty h.blk (by decide)
  have hbk:=q4.heap h.blk hgx;have hK2:As (Cq g) w' (w'.setCell ⟨g,4+b,none⟩ u1):=⟨rfl,rfl,rfl,by simp[World.setCell],fun k _ e=>heap_setCell_other w' ⟨g,4+b,none⟩ k _ e⟩
  obtain⟨r1,r2,r3⟩:=h.put b hb u1 _ (by rw[←hvb];exact q4) q1 (.inl (by rw[←hvb];exact q2)) (fun h0=>by
   subst h0;have e0:vb.ownBlock=none:=by rw[hvb];rfl
   obtain⟨_,⟨rfl,_⟩ | ⟨g',cap,cur,rfl,_⟩⟩:=q1
   ·rfl
   ·rw[e0] at q2;cases q2)
  refine⟨fun k=>by simp[World.frozen?,hbk],by rw[hvb];exact(Km hbk).bankCell b hb,q3.kept hK2 fun k e e'=> ?_,_,_,_,r1,r2,r3⟩;have h1:=(q3.lt k e).1;have h2:=(gS h.blk);unfold Cq at e';omega
 have hb4:(b:Int)<4:=by omega
 obtain⟨fv,hfv⟩:=eX (Value.func (.func f) #[] cb);have HFV:Hid _:=hfv;rw[←hfv];clear hfv hpt hc h hvb;go_enter Tryz.func108,Tryz.ntmps108;go_wp2_with (go_at_call 142;refine(HP.out _ _ rfl HFV.out).mono ?_;rintro e w1 ⟨u1,u2,rfl,q1,q2,q3,q4⟩;obtain⟨⟨o1,n1,p1,rfl⟩,o2,n2,p2,rfl⟩:=HSL.out w1 u1 u2 q1 q3;obtain⟨f1,f2,f3,f4⟩:=HF.out w1 _ _ q1 q2 q3 q4;have f1':=f1 (4+b);have F3:Hid _:=f3;have F4:Hid _:=f4;clear q1 q2 q3 q4 f3 f4 f1);go_ret;exact⟨_,rfl,F3.out,F4.out⟩
theorem N5(w:World)(q:Nat):Below w.heap.size w (w.drewN q):=⟨rfl,rfl,rfl,aB _,fun _ _=>rfl⟩
theorem XC(B:Nat)(w:World)(g:Nat)(R:Rm)(S:Aq)(v1 v2 v3:Value)(h:Cw B w g R S v1 v2 v3)(b:Nat)(hb:b<4):
  Calls aA 181 #[.pointer (some ⟨g,0,none⟩),.int .i64 (b:Int)] w fun e w'=>e=.returned (.bool (decide ((Bv S b).length=OJ R b)))∧Below w.heap.size w w':=by
 obtain⟨vb,hvb⟩:=eX (Cj v1 v2 v3 b);have c1:=h.f.bankCell b hb;have c2:=h.f.roomCell b hb;obtain⟨o,cap,e,he,hm⟩:=(h.bank b).slice;unfold maxLen at hm;rw[e] at c1;generalize (Bv S b).length=n at c1 he ⊢;generalize OJ R b=r at c2 ⊢;have hb4:(b:Int)<4:=by omega
 clear h hvb e;by_cases hr:n=r
 ·subst hr;go_enter Tryz.func181,Tryz.ntmps181;go_wp2_with fail;go_quiet (fail);go_wp2_with fail;go_ret;exact⟨by simp,N5 _ _⟩
 ·have hr':¬(n:Int)=(r:Int):=by omega
  go_enter Tryz.func181,Tryz.ntmps181;go_wp2_with fail;go_quiet (fail);go_wp2_with fail;go_ret;exact⟨by simp[hr];omega,N5 _ _⟩
theorem Up(a b:Int):JQ a b<0↔a<b:=by
 unfold JQ;split
 ·simp;assumption
 ·split <;> simp <;> omega
theorem Amv(C:List Ai)(v:Value)(w:World)(hl:Ee EP Ac w v C)(hn:C.length≤1000000)(hne:C≠[]):
  Calls aA 219 #[v,.func (.func 220) #[] #[]] w fun e w'=>(∃x A D,e=.returned (.agg (Ac x))∧GR (fun _=>true) (·.used) C A x D)∧Below w.heap.size w w':=by
 have h0:0<C.length:=by
  cases C with
  | nil=>exact absurd rfl hne
  | cons c C=>simp
 obtain⟨o,cap,rfl,hc1,hc2⟩:=Ee.slice hl;obtain⟨n,hn0⟩:=eX C.length;have HN:Hid _:=hn0;rw[←hn0] at hl hc1 hn h0 ⊢;have HL:Hid _:=hl;obtain⟨g,off,cur0,ty0,fr0,x0,rfl,hg0,hcc0,hx0⟩:=hl.at 0 h0;have K0:Hid (∀W,W.heap[g]?=w.heap[g]?→(loadVar 102 ⟨g,off,none⟩).run aA W=.ok (.agg (Ac x0)) W):=fun W hW=>JX (hW.trans hg0) (fun j hj=>by have h:=hcc0 j hj;rw[Nat.zero_mul,Nat.add_zero] at h;exact h);have HX0:Hid _:=hx0;have HG:Hid (g<w.heap.size):=(gS hg0);have h0':¬(n:Int)<1:=by omega
 have hn1:(0:Int)<(n:Int):=by omega
 unfold maxLen at hc2;have EV:Hid _:=Ac2;clear hl hn0 hne hg0 hcc0 hx0;have N1:Hid ((w.alloc (.cells (Ac AJ) 102)).heap[g]?=w.heap[g]?):=Below.heap_alloc _ _ _ HG.out;go_enter Tryz.func219,Tryz.ntmps219;go_wp2_with (first|((with_reducible refine Jx rfl ?_);refine Ev rfl rfl ?_;try rw[Bf])|((with_reducible refine Hy _ rfl ?_);refine Dy rfl _ rfl g off rfl x0 (K0.out _ N1.out) ?_)|((with_reducible refine Ff _ _ rfl ?_);refine Ck rfl _ _ rfl (w.heap.size+1) x0 AJ rfl rfl (Ab _ _ _ (by simp)) _ (Bo _ _ _ _ _ (by simp)) ?_));go_loopw [6] (fun i wr=> ∃(k j:Nat) (x:Ai),1≤k∧k≤n∧i=.int .i64 (k:Int)∧Hid (C[j]?=some x)∧Hid (FP (fun _=>true) (·.used) C k (j:Int))∧Hid (wr.heap[w.heap.size+1]?=some (.cells (Ac x) 102 (0,0)))∧Hid (wr.heap[w.heap.size]?=some (.cells (Ac AJ) 102 (0,0)))∧Hid (Below w.heap.size w wr)) (fun i _=>n-(intOf i).toNat)
 case atStart=>exact⟨1,0,x0,aB _,h0,rfl,HX0,Rn (Vm _) HX0.out rfl,Ab _ _ _ (by simp),Ah _ _ _ _ (Ab _ _ _ rfl),((Below.refl _ _).alloc (aB _) _).alloc (by simp) _⟩
 case round=>
  obtain⟨k,j,x,hk1,hk,rfl,HJ,HF,HM,HZ,HB⟩:=hrel;by_cases hlt:k<n
  ·have hlt':(k:Int)<(n:Int):=by omega
   obtain⟨g',off',cur,ty,fr,y,he,hg,hcc,hyk⟩:=(Ee.below HL.out HB.out).at k hlt;simp only[aP,Addr.mk.injEq,and_true] at he;obtain⟨rfl,rfl⟩:=he;have K1:Hid _:=hg;have H1:Hid _:=hcc;have HY:Hid _:=hyk;have ne1:=Am.ne wr;clear hg hcc hyk;by_cases hv:y.used<x.used
   ·have hd:decide (JQ y.used x.used<0)=true:=decide_eq_true ((Up _ _).2 hv);have HV:Hid _:=hv;clear hv;go_wp2_with fail;refine rL ?_
    iterate 4 (go_big_quiet_step (fail))
    refine SN (E:=EP) Fs rfl _ rfl g (off+k*36) rfl cur ty fr (Ac y) (Bl y) (Ap K1.out) H1.out ?_;simp only[pU];refine SN (E:=EP) Fs rfl _ rfl (w.heap.size+1) 0 rfl _ _ _ (Ac x) (Bl x) (Ap HM.out) (Ar _ _) ?_;simp only[pU];go_big_quiet_want;go_big_quiet_op;refine⟨_,fun u=>Calls.later_of (EV.out y x u.world),?_⟩;go_big_quiet_on;go_big_quiet_step (fail);refine wpQuiet_nil ?_;rintro w' ⟨u,rfl⟩;have B1:Hid (Below wr.heap.size wr u.world):=u.below;have M1:Hid (u.world.heap[w.heap.size+1]?=some (.cells (Ac x) 102 (0,0))):=Ap HM.out _ ⟨u,rfl⟩;have K2:Hid (u.world.heap[g]?=some (.cells cur ty fr)):=Ap K1.out _ ⟨u,rfl⟩;go_wp2_with (first|((with_reducible refine Hy _ rfl ?_);refine Dy rfl _ rfl g (off+k*36) rfl y (JX K2.out H1.out) ?_)|((with_reducible refine Ff _ _ rfl ?_);refine Ck rfl _ _ rfl (w.heap.size+1) y x rfl rfl M1.out _ rfl ?_));go_roundw
    case rel=>
     refine⟨k+1,k,y,by omega,by omega,by go_num,HY,Tn HF.out HJ.out HY.out rfl HV.out,setRow_heap _ _ _ _ _ _ M1.out,?_,?_⟩
     ·exact(setRow_other _ _ _ _ (by omega)).trans (Ap HZ.out _ ⟨u,rfl⟩)
     ·exact Aj (BL HB.out HB.out.size B1.out) (by omega) _
    case measure=>simp[intOf];omega
   ·have hd:decide (JQ y.used x.used<0)=false:=decide_eq_false (fun h=>hv ((Up _ _).1 h));have HV:Hid _:=hv;clear hv;go_wp2_with fail;refine rL ?_
    iterate 4 (go_big_quiet_step (fail))
    refine SN (E:=EP) Fs rfl _ rfl g (off+k*36) rfl cur ty fr (Ac y) (Bl y) (Ap K1.out) H1.out ?_;simp only[pU];refine SN (E:=EP) Fs rfl _ rfl (w.heap.size+1) 0 rfl _ _ _ (Ac x) (Bl x) (Ap HM.out) (Ar _ _) ?_;simp only[pU];go_big_quiet_want;go_big_quiet_op;refine⟨_,fun u=>Calls.later_of (EV.out y x u.world),?_⟩;go_big_quiet_on;go_big_quiet_step (fail);refine wpQuiet_nil ?_;rintro w' ⟨u,rfl⟩;go_wp2_with fail;go_roundw
    case rel=>exact⟨k+1,j,x,by omega,by omega,by go_num,HJ,To HF.out HJ.out HY.out (by have:=HV.out;omega),Ap HM.out _ ⟨u,rfl⟩,Ap HZ.out _ ⟨u,rfl⟩,BL HB.out HB.out.size u.below⟩
    case measure=>simp[intOf];omega
  ·have hlt':¬(k:Int)<(n:Int):=by omega
   have HK:Hid (k=n):=by show _=_;omega
   go_wp2_with (first|((with_reducible refine Hy _ rfl ?_);refine Dy rfl _ rfl (w.heap.size+1) 0 rfl x (He HM.out) ?_)|((with_reducible refine Ff _ _ rfl ?_);refine Ck rfl _ _ rfl w.heap.size x AJ rfl rfl HZ.out _ rfl ?_));refine bodyPost_ret (v:=.agg (Ac x)) (results_cell_row rfl _ _ w.heap.size 102 (Ac x) (0,0) _ rfl (setRow_heap _ _ _ _ _ _ HZ.out) Tryz.underlying102 rfl (Fs.cellsz _ (Bl x))) rfl ?_;refine⟨?_,Aj HB.out (aB _) _⟩;have hF:=HF.out;rw[HK.out,HN.out] at hF;rcases Qn hF with ⟨e,_⟩ | ⟨i,z,e,_,hz,hls⟩
   ·omega
   ·obtain rfl:j=i:=by omega
    have hj:=HJ.out;rw[hz] at hj
    cases hj
    exact⟨_,rfl,_,_,Ez hls⟩
def H8(C:List Ai):Prop:=C.Pairwise fun x y=> ¬(x.epoch=y.epoch∧x.cube=y.cube)
theorem Ak5{C A D:List Ai}{x:Ai}(h:C=A++x::D)(hd:H8 C)(hok:∀y∈C,GK y.cube):C.filter (fun y=> !(Md y x))=A++D∧C.filter (fun y=>Md y x)=[x]:=by
 subst h;unfold H8 at hd;rw[List.pairwise_append] at hd;obtain⟨_,h2,h3⟩:=hd;rw[List.pairwise_cons] at h2;have hx:GK x.cube:=hok x (by simp)
 have hA:∀y∈A,Md y x=false:=fun y hy=>by
  rcases Bool.eq_false_or_eq_true (Md y x) with e | e
  ·have:=(ZS (hok y (by simp[hy])) hx).1 e;subst this;exact absurd ⟨rfl,rfl⟩ (h3 y hy y (by simp))
  ·exact e
 have hD:∀y∈D,Md y x=false:=fun y hy=>by
  rcases Bool.eq_false_or_eq_true (Md y x) with e | e
  ·have:=(ZS (hok y (by simp[hy])) hx).1 e;subst this;exact absurd ⟨rfl,rfl⟩ (h2.1 y hy)
  ·exact e
 constructor
 ·rw[aH,bH,if_neg (by rw[XJ];simp),bB.2 (fun y hy=>by rw[hA y hy];rfl),bB.2 (fun y hy=>by rw[hD y hy];rfl)]
 ·rw[aH,bH,if_pos (XJ x),aX.2 (fun y hy=>by rw[hA y hy];simp),aX.2 (fun y hy=>by rw[hD y hy];simp)];rfl
def Ed(room:Nat)(C:List Ai):List Ai×Ai×Bool:=
 if C.length=room then match Bc (fun _=>true) (·.used) C with
  | some (A,x,D)=>(A++D,x,true)
  | none=>(C,AJ,true)
 else (C,AJ,false)
theorem Xb{room:Nat}{C:List Ai}{s:Ai}(hr:room≠0)(h:Bc (G4 s) (fun _=>0) C=none):Cr room C s=((Ed room C).1++[s],(Ed room C).2.1,(Ed room C).2.2,0):=by
 unfold Cr Ed;rw[if_neg hr,h];simp only;by_cases hf:C.length=room
 ·rw[if_pos hf,if_pos hf]
  cases Bc (fun _=>true) (·.used) C with
  | none=>rfl
  | some r=>rfl
 ·rw[if_neg hf,if_neg hf]
theorem QI{fn:Func}{R:Ending→World→Prop}{a:Act}{w:World}{p q:Tmp}(hr:fn.results=#[.cell p 102,.tmp q])(hd:a.defers=[])(g:Nat)(hp:a.tmps.getD p undef=.pointer (some ⟨g,0,none⟩))(x:Ai)
  (hg:w.heap[g]?=some (.cells (Ac x) 102 (0,0))) (u:Value) (hu:a.tmps.getD q undef=u) (h:R (.returned (.tuple #[.agg (Ac x),u])) w):bodyPost aA fn R .ret a w:=by
 refine bodyPost_ret (v:=.tuple #[.agg (Ac x),u]) ?_ hd h;rw[results_cell_tmp hr,hp,hu];simp[asAddr,He hg]
theorem Di.loc{B:Nat}{w W w3 w4:World}{g:Nat}{R:Rm}{S S':Aq}{v1 v2 v3:Value}{Y:Nat→Prop}(h:Cw B w g R S v1 v2 v3)(hb:Below w.heap.size w W)(ht:Di B W w3 g R S' v1 v2 v3)(hk:As Y w3 w4)(hY:∀k,Y k→w.heap.size≤k∧k<W.heap.size):Di B w w4 g R S' v1 v2 v3:=by
 obtain⟨u1,u2,u3,t1,t2,t3⟩:=ht;refine⟨u1,u2,u3,t1.kept hk fun k hk e=> ?_,(As.pre hb t2).trans hk fun k e=> .inr (hY k e).1,fun k hk=> ?_⟩
 ·have h1:=hY k e;rcases t3 k hk with e' | e'
  ·have:=(h.foot_in k e').2;omega
  ·omega
 ·rcases t3 k hk with e' | e'
  ·exact .inl e'
  ·exact .inr (bC hb.size e')
theorem Di.block{B:Nat}{w W w3:World}{g:Nat}{R:Rm}{S S':Aq}{v1 v2 v3:Value}{q:Nat}{o:Obj}(h:Cw B w g R S v1 v2 v3)(ht:Di B W w3 g R S' v1 v2 v3)(hq:W.heap[q]?=some o)(hq2:w.heap.size≤q):w3.heap[q]?=some o:=by
 obtain⟨u1,u2,u3,t1,t2,t3⟩:=ht;exact t2.heap hq fun e=>by have:=(h.foot_in q e).2;omega
theorem IT(w:World)(q:Nat)(cs:Array Value):As (Cq q) w (w.setRow q cs):=⟨rfl,rfl,rfl,by simp,fun j _ hj=>setRow_other _ _ j _ hj⟩
theorem Ag5(B:Nat)(w:World)(g:Nat)(R:Rm)(S:Aq)(v1 v2 v3:Value)(h:Cw B w g R S v1 v2 v3)(hn:S.c.length≤1000000)(hr:R.cache≠0)(hd:H8 S.c)(hok:∀y∈S.c,GK y.cube):
  Calls aA 211 #[.pointer (some ⟨g,0,none⟩)] w fun e w'=>e=.returned (.tuple #[.agg (Ac (Ed R.cache S.c).2.1),.bool (Ed R.cache S.c).2.2])∧Di B w w' g R {S with c:=(Ed R.cache S.c).1} v1 v2 v3:=by
 have HW:Hid (∀W,Below w.heap.size w W→Cw B W g R S v1 v2 v3):=fun W hb=>h.below hb
 have FU:Hid (∀W,Below w.heap.size w W→Calls aA 181 #[.pointer (some ⟨g,0,none⟩),.int .i64 1] W fun e w'=>e=.returned (.bool (decide (S.c.length=R.cache)))∧Below W.heap.size W w'):=by
  intro W hb;exact XC B W g R S v1 v2 v3 (h.below hb) 1 (by decide)
 have B0:Hid (Below w.heap.size w (w.alloc (.cells (Ac AJ) 102))):=(Below.refl _ _).alloc (aB _) _;by_cases hf:S.c.length=R.cache
 ·have hne:S.c≠[]:=fun e=>hr (by rw[←hf,e];rfl)
  have MI:Hid (∀W,Below w.heap.size w W→Calls aA 219 #[v1,.func (.func 220) #[] #[]] W fun e w'=>(∃x A D,e=.returned (.agg (Ac x))∧GR (fun _=>true) (·.used) S.c A x D)∧Below W.heap.size W w'):=by
   intro W hb;exact Amv S.c v1 W (h.below hb).o1.sl hn hne
  have DR:Hid (∀(x:Ai) (q:Nat) (W:World),Below w.heap.size w W→W.heap[q]?=some (.cells (Ac x) 102 (0,0))→w.heap.size≤q→Calls aA 108 #[.pointer (some ⟨g,0,none⟩),.int .i64 1,.func (.func 221) #[] #[.pointer (some ⟨q,0,none⟩)]] W fun e w'=> ∃u,e=.returned u∧Au W.heap.size w' u (S.c.filter fun y=>Md y x)∧Di B W w' g R {S with c:=S.c.filter fun y=> !(Md y x)} v1 v2 v3):=by
   intro x q W hb hq hq2;refine RX B W g R S v1 v2 v3 (h.below hb) 1 (by decide) hn 221 #[.pointer (some ⟨q,0,none⟩)] (fun y=>Md y x) (fun vs W=>by have hf:=Tryz.func221;simp[go_sem]) (fun y W' hW'=> ?_);have hne:¬BT v1 q:=fun e=>by have:=(h.o1.lt q e).2;omega
   exact Ac1 y x W' q (hW'.heap hq hne)
  have FIN:Hid (∀(x:Ai) (A D:List Ai) (w1 w2 w4:World),GR (fun _=>true) (·.used) S.c A x D→Below w.heap.size w w1→Di B w1 w2 g R {S with c:=S.c.filter fun y=> !(Md y x)} v1 v2 v3→w.heap.size<w1.heap.size→As (Cq w.heap.size) w2 w4→Ed R.cache S.c=(A++D,x,true)∧Di B w w4 g R {S with c:=A++D} v1 v2 v3):=by
   intro x A D w1 w2 w4 hl hb ht hlt hk;have e1:Ed R.cache S.c=(A++D,x,true):=by unfold Ed;rw[if_pos hf,O6.2 hl]
   refine⟨e1,?_⟩;rw[(Ak5 hl.1 hd hok).1] at ht;exact ht.loc h hb hk fun k e=>by unfold Cq at e;omega
  have KP:Hid (∀(x:Ai) (q:Nat) (w1 w2:World) (S':Aq),w1.heap[q]?=some (.cells (Ac x) 102 (0,0))→w.heap.size≤q→Di B w1 w2 g R S' v1 v2 v3→w2.heap[q]?=some (.cells (Ac x) 102 (0,0))):=by
   intro x q w1 w2 S' hq hq2 ht;exact ht.block h hq hq2
  have c5:∀W,Below w.heap.size w W→W.cell? ⟨g,5,none⟩=some v1:=fun W hb=>(h.below hb).f.c5;have HD1:decide (S.c.length=R.cache)=true:=decide_eq_true hf;rw[HD1] at FU;clear h hd hok hf hne hr HD1 HW;have C5:Hid (∀W,Below w.heap.size w W→W.cell? ⟨g,5,none⟩=some v1):=c5;clear c5;go_enter Tryz.func211,Tryz.ntmps211;go_wp2_with (first|((with_reducible refine Jx rfl ?_);refine Ev rfl rfl ?_;try rw[Bf])|(go_at_call 181;refine(FU.out _ B0.out).mono ?_;rintro e w1 ⟨rfl,hb1⟩;have B1:Hid (Below w.heap.size w w1):=BL B0.out B0.out.size hb1;have Z1:Hid (w1.heap[w.heap.size]?=some (.cells (Ac AJ) 102 (0,0))):=(hb1.block _ (by simp)).trans (Ab _ _ _ rfl);have c5:=C5.out w1 B1.out;clear hb1));refine(MI.out w1 B1.out).mono ?_;rintro e w2 ⟨⟨x,A,D,rfl,hl⟩,hb2⟩;have HLE:Hid (GR (fun _=>true) (·.used) S.c A x D):=hl;have B2:Hid (Below w.heap.size w w2):=BL B1.out B1.out.size hb2;have Z2:Hid (w2.heap[w.heap.size]?=some (.cells (Ac AJ) 102 (0,0))):=(hb2.block _ (gS Z1.out)).trans Z1.out;clear hb2 hl c5;have B3:Hid (Below w.heap.size w (w2.alloc (.cells (Ac x) 102))):=B2.out.alloc B2.out.size _;have Z3:Hid ((w2.alloc (.cells (Ac x) 102)).heap[w.heap.size]?=some (.cells (Ac AJ) 102 (0,0))):=Ah _ _ _ _ Z2.out
  have X3:Hid ((w2.alloc (.cells (Ac x) 102)).heap[w2.heap.size]?=some (.cells (Ac x) 102 (0,0))):=Ab _ _ _ rfl;have hdr:=DR.out x w2.heap.size _ B3.out X3.out B2.out.size;go_wp2_with (first|((with_reducible refine Jx rfl ?_);refine Ev rfl rfl ?_;try rw[Bf])|((with_reducible refine Ff _ _ rfl ?_);refine Ck rfl _ _ rfl w2.heap.size x AJ rfl rfl (Ab _ _ _ rfl) _ (Bo _ _ _ _ _ rfl) ?_)|(go_at_call 108;refine hdr.mono ?_;rintro e w3 ⟨u,rfl,_,ht⟩;refine D9 ?_));unfold Gk;have X4:Hid (w3.heap[w2.heap.size]?=some (.cells (Ac x) 102 (0,0))):=KP.out x _ _ _ _ X3.out B2.out.size ht;have Z4:Hid (w3.heap[w.heap.size]?=some (.cells (Ac AJ) 102 (0,0))):=KP.out AJ _ _ _ _ Z3.out (aB _) ht;have F4:=FIN.out x A D _ w3 (w3.setRow w.heap.size (Ac x)) HLE.out B3.out ht (by have:=B2.out.size;simp;omega) (IT _ _ _);have FE:Hid (Ed R.cache S.c=(A++D,x,true)):=F4.1;have FT:Hid (Di B w (w3.setRow w.heap.size (Ac x)) g R {S with c:=A++D} v1 v2 v3):=F4.2;clear ht F4 hdr;go_wp2_with (first|((with_reducible refine Hy _ rfl ?_);refine Dy rfl _ rfl w2.heap.size 0 rfl x (He X4.out) ?_)|((with_reducible refine Ff _ _ rfl ?_);refine Ck rfl _ _ rfl w.heap.size x AJ rfl rfl Z4.out _ rfl ?_));refine QI (p:=2) (q:=3) rfl rfl w.heap.size rfl x (setRow_heap _ _ _ _ _ _ Z4.out) _ rfl ?_
  rw[FE.out];exact⟨rfl,FT.out⟩
 ·have HD1:decide (S.c.length=R.cache)=false:=decide_eq_false hf;rw[HD1] at FU;have FE:Hid (Ed R.cache S.c=(S.c,AJ,false)):=by show _=_;unfold Ed;rw[if_neg hf]
  have FT:Hid (∀w4,Below w.heap.size w w4→Di B w w4 g R {S with c:=S.c} v1 v2 v3):=by
   intro w4 hb;exact⟨v1,v2,v3,h.below hb,As.of_below hb,fun k hk=> .inl hk⟩
  clear h hd hok hf hr HD1 HW;go_enter Tryz.func211,Tryz.ntmps211;go_wp2_with (first|((with_reducible refine Jx rfl ?_);refine Ev rfl rfl ?_;try rw[Bf])|(go_at_call 181;refine(FU.out _ B0.out).mono ?_;rintro e w1 ⟨rfl,hb1⟩;have B1:Hid (Below w.heap.size w w1):=BL B0.out B0.out.size hb1;have Z1:Hid (w1.heap[w.heap.size]?=some (.cells (Ac AJ) 102 (0,0))):=(hb1.block _ (by simp)).trans (Ab _ _ _ rfl);clear hb1;refine D9 ?_));unfold Gk;go_wp2_with (first|((with_reducible refine VY rfl ?_);refine Nm rfl rfl ?_)|((with_reducible refine Ff _ _ rfl ?_);refine Ck rfl _ _ rfl w.heap.size AJ AJ rfl rfl Z1.out _ rfl ?_));refine QI (p:=2) (q:=3) rfl rfl w.heap.size rfl AJ (setRow_heap _ _ _ _ _ _ Z1.out) _ rfl ?_;rw[FE.out];exact⟨rfl,FT.out _ (Aj B1.out (aB _) _)⟩
end
section
open Go Go.Shelf Go.RowKit Go.Lib Go.Sort
/-- What the walks of the stable sort ask of a program: its bodies, and their types; an element has k cells. -/
structure QA(P : Program)(k : Nat) : Prop where
  mixed : P.follows .mixedOrders = true
  f_swapRange : P.funcs[226]? = some Tryz.f226
  f_rotate : P.funcs[225]? = some Tryz.f225
  f_symMerge : P.funcs[224]? = some Tryz.f224
  f_insertionSort : P.funcs[223]? = some Tryz.f223
  f_stable : P.funcs[217]? = some Tryz.f217
  t0 : P.underlying 0 = some (TypeDesc.tuple #[])
  a0 :∀ w, (isAgg 0).run P w =.ok false w
  z0 :∀ w, (aL 0).run P w =.ok 1 w
  v0 :∀ w, (zeroValue 0).run P w =.ok (Value.tuple #[]) w
  t3 : P.underlying 3 = some (TypeDesc.int aY)
  a3 :∀ w, (isAgg 3).run P w =.ok false w
  z3 :∀ w, (aL 3).run P w =.ok 1 w
  v3 :∀ w, (zeroValue 3).run P w =.ok (Value.int aY 0) w
  t4 : P.underlying 4 = some (TypeDesc.bool)
  a4 :∀ w, (isAgg 4).run P w =.ok false w
  z4 :∀ w, (aL 4).run P w =.ok 1 w
  v4 :∀ w, (zeroValue 4).run P w =.ok (Value.bool false) w
  tS : P.underlying 65 = some (TypeDesc.slice 102)
  aS :∀ w, (isAgg 65).run P w =.ok false w
  zS :∀ w, (aL 65).run P w =.ok 1 w
  vS :∀ w, (zeroValue 65).run P w =.ok (Value.slice none 0 0) w
  tF : P.underlying 236 = some (TypeDesc.func #[102, 102] #[3] false)
  aF :∀ w, (isAgg 236).run P w =.ok false w
  zF :∀ w, (aL 236).run P w =.ok 1 w
  vF :∀ w, (zeroValue 236).run P w =.ok (Value.nilFunc) w
  tU : P.underlying 206 = some (TypeDesc.int bS)
  aU :∀ w, (isAgg 206).run P w =.ok false w
  zU :∀ w, (aL 206).run P w =.ok 1 w
  vU :∀ w, (zeroValue 206).run P w =.ok (Value.int bS 0) w
  aE :∀ w, (isAgg 102).run P w =.ok true w
  zE :∀ w, (aL 102).run P w =.ok k w
theorem stS : QA aA 36 where
  mixed := by kernel_rfl
  f_swapRange := Tryz.func226
  f_rotate := Tryz.func225
  f_symMerge := Tryz.func224
  f_insertionSort := Tryz.func223
  f_stable := Tryz.func217
  t0 := Tryz.underlying0
  a0 := fun w => by kernel_rfl
  z0 := fun w => by kernel_rfl
  v0 := fun w => by kernel_rfl
  t3 := Tryz.underlying3
  a3 := fun w => by kernel_rfl
  z3 := fun w => by kernel_rfl
  v3 := fun w => by kernel_rfl
  t4 := Tryz.underlying4
  a4 := fun w => by kernel_rfl
  z4 := fun w => by kernel_rfl
  v4 := fun w => by kernel_rfl
  tS := Tryz.underlying65
  aS := fun w => by kernel_rfl
  zS := fun w => by kernel_rfl
  vS := fun w => by kernel_rfl
  tF := Tryz.underlying236
  aF := fun w => by kernel_rfl
  zF := fun w => by kernel_rfl
  vF := fun w => by kernel_rfl
  tU := Tryz.underlying206
  aU := fun w => by kernel_rfl
  zU := fun w => by kernel_rfl
  vU := fun w => by kernel_rfl
  aE := fun w => by kernel_rfl
  zE := fun w => by kernel_rfl
variable {α : Type} [Inhabited α]
set_option maxRecDepth 1000000 in
/-- slices.swapRangeCmpFunc: it exchanges and does not compare. -/
theorem OE{P : Program}{k : Nat}(L : QA P k)(enc : α → List Value)(g : Nat)(cb : Array Value)(blk off cap a b n : Nat)(d0 d : Array α)(w0 w : World)
    (R : RowK enc k w0 blk off d0) (hs : d0.size = d.size) (S : SWK enc k w0 blk off d w) (hab : a+n ≤ b) (hb : b+n ≤ d.size) (hsz : d.size < 4611686018427387904) :
    Calls P 226 #[.slice (some ⟨blk, off, none⟩) d.size cap,.int .i64 a,.int .i64 b,.int .i64 n,.func (.func g) #[] cb] w fun e w' => e =.returned (.tuple #[]) ∧∃ d', d'.size = d.size ∧ SWK enc k w0 blk off d' w' ∧ AI d' = Ha (AI d) a b n := by
  have mixed := L.mixed
  have t0 := L.t0; have a0 := L.a0; have z0 := L.z0; have v0 := L.v0
  have t3 := L.t3; have a3 := L.a3; have z3 := L.z3; have v3 := L.v3
  have t4 := L.t4; have a4 := L.a4; have z4 := L.z4; have v4 := L.v4
  have tS := L.tS; have aS := L.aS; have zS := L.zS; have vS := L.vS
  have tF := L.tF; have aF := L.aF; have zF := L.zF; have vF := L.vF
  have aE := L.aE; have zE := L.zE
  have FG := L.f_swapRange
  have S0 : Aside (SWK enc k w0 blk off d w) := S
  clear S
  go_enter FG, Tryz.ntmps226
  go_wp2
  go_loopg [10] n (fun kx s10 wr => ∃ (i : Nat) (dk : Array α), s10 =.int .i64 i ∧ i ≤ n ∧ n-i ≤ kx ∧ dk.size = d.size ∧ Aside (SWK enc k w0 blk off dk wr) ∧ Hid (AI dk = Ha (AI d) a b i))
  case atStart => exact⟨0, d, rfl, Nat.zero_le _, aB _, rfl, S0, (Adj _ _ _).symm⟩
  case round =>
    clear S0
    obtain⟨i, dk, rfl, hin, hkx, hds, S1, HE⟩ := hrel
    by_cases hlt : i < n
    · have hltz : (i : Int) < (n : Int) := by omega
      go_wp2_with fail
      have ea44 : ((a : Int)+(i : Int)).toNat = a+i := by omega
      have pa44 : (0 : Int) ≤ (a : Int)+(i : Int) := by omega
      have ba44 : (a : Int)+(i : Int) < (d.size : Int) := by omega
      have ra44 : aY.wrap ((a : Int)+(i : Int)) = (a : Int)+(i : Int) := by rw[bI]; omega
      have ec44 : ((b : Int)+(i : Int)).toNat = b+i := by omega
      have pc44 : (0 : Int) ≤ (b : Int)+(i : Int) := by omega
      have bc44 : (b : Int)+(i : Int) < (d.size : Int) := by omega
      have rc44 : aY.wrap ((b : Int)+(i : Int)) = (b : Int)+(i : Int) := by rw[bI]; omega
      have S2 : Aside (SWK enc k w0 blk off (swp dk (a+i) (b+i)) ((wr.drew.setCells blk (off+(a+i)*k) (enc dk[b+i]!)).setCells blk (off+(b+i)*k) (enc dk[a+i]!))) := S1.out.swapped R (a+i) (b+i) (by omega) (by omega)
      have HE2 : Hid (AI (swp dk (a+i) (b+i)) = Ha (AI d) a b (i+1)) := by
        show _ = _
        rw[QF dk _ _ (by omega) (by omega), HE.out, Adk _ _ _ _ (by omega)]
      have l44a := S1.out.ld1 R (by omega) P (a+i) (by omega)
      have l44b := S1.out.ld1 R (by omega) P (b+i) (by omega)
      have s44a := S1.out.st1 R (by omega) P (a+i) (by omega) dk[b+i]!
      have s44b := S1.out.st2 R (by omega) P (a+i) (b+i) (by omega) (by omega) dk[b+i]! dk[a+i]!
      have n44a : (enc dk[a+i]!).length = k := R.hk _
      have n44b : (enc dk[b+i]!).length = k := R.hk _
      generalize enc dk[a+i]! = cI44 at S2 l44a s44b n44a
      generalize enc dk[b+i]! = cJ44 at S2 l44b s44a s44b n44b
      clear S1
      go_wp2_with fail
      go_big_region_o
      clear l44a l44b s44a s44b
      generalize (wr.drew.setCells blk (off+(a+i)*k) cJ44).setCells blk (off+(b+i)*k) cI44 = w2 at S2 ⊢
      go_wp2
      go_roundg (n-(i+1))
      case measure => omega
      case rel => exact⟨i+1, swp dk (a+i) (b+i), by go_num, by omega, aB _, by rw[size_swp]; exact hds, S2, HE2⟩
    · have hltz :¬ (i : Int) < (n : Int) := by omega
      obtain rfl : i = n := by omega
      go_wp2
      go_end0
      exact⟨rfl, dk, hds, S1.out, HE.out⟩
end
section
open Go Go.Shelf Go.RowKit Go.Lib Go.Sort
variable {α:Type} [Inhabited α]
set_option maxRecDepth 1000000 in
theorem Am5{P:Program}{k:Nat}(L:QA P k)(enc:α→List Value)(g:Nat)(cb:Array Value)(blk off cap a m b:Nat)(d0 d:Array α)(w0 w:World)
  (R:RowK enc k w0 blk off d0) (hs:d0.size=d.size) (S:SWK enc k w0 blk off d w) (ham:a<m) (hmb:m<b) (hb:b≤d.size) (hsz:d.size<4611686018427387904):
  Calls P 225 #[.slice (some ⟨blk,off,none⟩) d.size cap,.int .i64 a,.int .i64 m,.int .i64 b,.func (.func g) #[] cb] w fun e w'=>e=.returned (.tuple #[])∧∃d',d'.size=d.size∧SWK enc k w0 blk off d' w'∧AI d'=Cp (AI d) a m b:=by
 have mixed:=L.mixed;have t0:=L.t0;have a0:=L.a0;have z0:=L.z0;have v0:=L.v0
 have t3:=L.t3;have a3:=L.a3;have z3:=L.z3;have v3:=L.v3
 have t4:=L.t4;have a4:=L.a4;have z4:=L.z4;have v4:=L.v4
 have tS:=L.tS;have aS:=L.aS;have zS:=L.zS;have vS:=L.vS
 have tF:=L.tF;have aF:=L.aF;have zF:=L.zF;have vF:=L.vF
 have aE:=L.aE;have zE:=L.zE
 have FG:=L.f_rotate;have e226:∀args w,(callFunc 226 args).run P w=.ok (.enter 226 args) w:=enters_of L.f_swapRange (by kernel_rfl) rfl;have S0:Aside (SWK enc k w0 blk off d w):=S;clear S;have LL:Hid _:=L;clear L;go_enter FG,Tryz.ntmps225;go_wp2;go_loopg [10,11] (b-a) (fun kx s10 s11 wr=> ∃(i j:Nat) (dk:Array α),s10=.int .i64 i∧s11=.int .i64 j∧0<i∧0<j∧i≤m∧m+j≤b∧i+j≤kx∧dk.size=d.size∧Aside (SWK enc k w0 blk off dk wr)∧Hid (Cp (AI dk) (m-i) m (m+j)=Cp (AI d) a m b))
 case atStart=>exact⟨m-a,b-m,d,by rw[show((m-a:Nat):Int)=(m:Int)-(a:Int) by omega],by rw[show((b-m:Nat):Int)=(b:Int)-(m:Int) by omega],by omega,by omega,by omega,by omega,by omega,rfl,S0,by show _=_;rw[show m-(m-a)=a by omega,show m+(b-m)=b by omega]⟩
 case round=>
  clear S0;obtain⟨i,j,dk,rfl,rfl,hi0,hj0,him,hjb,hkx,hds,S1,HE⟩:=hrel;have em:((m-i:Nat):Int)=(m:Int)-(i:Int):=by omega
  by_cases hij:i=j
  ·subst hij;have hc:=OE LL.out enc g cb blk off cap (m-i) m i d0 dk w0 wr R (by omega) S1.out (by omega) (by omega) (by omega);rw[em,hds] at hc;have HE2:Hid (∀d':Array α,AI d'=Ha (AI dk) (m-i) m i→AI d'=Cp (AI d) a m b):=fun d' h=>by rw[h,Am7 _ _ _ him,HE.out]
   clear S1 HE;go_wp2_with (go_at_fn 226;refine hc.mono ?_;rintro e w1 ⟨rfl,d',hd',S3,hE⟩);go_end0;exact⟨rfl,d',hd',S3,HE2.out d' hE⟩
  ·have hijz:¬(i:Int)=(j:Int):=by omega
   by_cases hlt:j<i
   ·have hltz:(j:Int)<(i:Int):=by omega
    have hc:=OE LL.out enc g cb blk off cap (m-i) m j d0 dk w0 wr R (by omega) S1.out (by omega) (by omega) (by omega);rw[em,hds] at hc;have HE2:Hid (∀d':Array α,AI d'=Ha (AI dk) (m-i) m j→Cp (AI d') (m-(i-j)) m (m+j)=Cp (AI d) a m b):=fun d' h=>by rw[h,Aht _ _ _ _ him hlt hj0,HE.out]
    clear S1 HE;go_wp2_with (go_at_fn 226;refine hc.mono ?_;rintro e w1 ⟨rfl,d',hd',S3,hE⟩);go_roundg (i-j+j)
    case measure=>omega
    case rel=>exact⟨i-j,j,d',by rw[show((i-j:Nat):Int)=(i:Int)-(j:Int) by omega],rfl,by omega,hj0,by omega,hjb,by omega,hd',S3,HE2.out d' hE⟩
   ·have hltz:¬(j:Int)<(i:Int):=by omega
    have hc:=OE LL.out enc g cb blk off cap (m-i) (m+j-i) i d0 dk w0 wr R (by omega) S1.out (by omega) (by omega) (by omega);rw[em,show((m+j-i:Nat):Int)=(m:Int)+(j:Int)-(i:Int) by omega,hds] at hc;have HE2:Hid (∀d':Array α,AI d'=Ha (AI dk) (m-i) (m+j-i) i→Cp (AI d') (m-i) m (m+(j-i))=Cp (AI d) a m b):=fun d' h=>by rw[h,Ae5 _ _ _ _ him (by omega) hi0,HE.out]
    clear S1 HE;go_wp2_with (go_at_fn 226;refine hc.mono ?_;rintro e w1 ⟨rfl,d',hd',S3,hE⟩);go_roundg (i+(j-i))
    case measure=>omega
    case rel=>exact⟨i,j-i,d',rfl,by rw[show((j-i:Nat):Int)=(j:Int)-(i:Int) by omega],hi0,by omega,him,by omega,by omega,hd',S3,HE2.out d' hE⟩
end
end Go.Proofs.YtbhkoipcpcoooaaGreat
