import Derived.Test.YtbhkoipcpcoooabGreatJ5
import Derived.Great.Walk
import Derived.Laws.Cover3
import Derived.Test.YtbhkoipcpcoooabGreatJ1
import Derived.Shelf.SlSortCmp.KitK
import Derived.Deep.LoopGhost
namespace Go.Proofs.YtbhkoipcpcoooabGreat
set_option maxRecDepth 20000
set_option maxHeartbeats 64000000
open Go
open Go.Proofs.Tryz renaming prog → aA
open _root_.Nat renaming le_refl → aB, mul_le_mul_right → aM, le_of_eq → aV, le_trans → bC, min_eq_left → bJ
open _root_.List renaming length_append → aC, filter_append → aH, take_of_length_le → aJ, length_take → aK, length_set → aN, flatMap_cons → aO, getElem?_eq_some_iff → aQ, filter_eq_nil_iff → aX, length_filter_le → aZ, flatMap_append → bA, filter_eq_self → bB, append_assoc → bD, size_toArray → bE, take_add_one → bF, take_append → bG, filter_cons → bH
open _root_.Array renaming length_toList → aD
open Go.Sem renaming run_bind → aG, run_pure → aT
open Go.Result renaming andThen_ok → aI
open Go renaming sizeOf → aL
open _root_.Option.some renaming injEq → aP
open Go.IntKind renaming i64 → aY, wrap_i64 → bI, u64 → bS
section
open Go.RowKit
theorem FW{P:Program}{ops:Array Oper}{Q:Exit→Act→World→Prop}{o:Oper}{rest:List Oper}{a:Act}{w:World}(_:o.op=.alloc 75)(h:wpList P ops Q (o::rest) a w):wpList P ops Q (o::rest) a w:=h
theorem Gs{P:Program}{ops:Array Oper}{Q:Exit→Act→World→Prop}{o:Oper}{rest:List Oper}{a:Act}{w:World}(x:Operand)(_:o.op=.load 75 x)(h:wpList P ops Q (o::rest) a w):wpList P ops Q (o::rest) a w:=h
theorem Ex{P:Program}{ops:Array Oper}{Q:Exit→Act→World→Prop}{o:Oper}{rest:List Oper}{a:Act}{w:World}(x y:Operand)(_:o.op=.store 75 x y)(h:wpList P ops Q (o::rest) a w):wpList P ops Q (o::rest) a w:=h
theorem Afl{P:Program}{ops:Array Oper}{Q:Exit→Act→World→Prop}{o:Oper}{rest:List Oper}{a:Act}{w:World}(x:Operand)(_:o.op=.buildSlice 40 1 #[(0,x)])(h:wpList P ops Q (o::rest) a w):wpList P ops Q (o::rest) a w:=h
theorem Rf{P:Program}{ops:Array Oper}{Q:Exit→Act→World→Prop}{o:Oper}{rest:List Oper}{a:Act}{w:World}(_:o.op=.build 75 #[])(h:wpList P ops Q (o::rest) a w):wpList P ops Q (o::rest) a w:=h
theorem Afk{P:Program}{ops:Array Oper}{Q:Exit→Act→World→Prop}{o:Oper}{rest:List Oper}{a:Act}{w:World}(x:Operand)(_:o.op=.load 25 x)(h:wpList P ops Q (o::rest) a w):wpList P ops Q (o::rest) a w:=h
theorem Aaq{P:Program}{ops:Array Oper}{Q:Exit→Act→World→Prop}{o:Oper}{rest:List Oper}{a:Act}{w:World}(x:Operand)(_:o.op=.load 23 x)(h:wpList P ops Q (o::rest) a w):wpList P ops Q (o::rest) a w:=h
theorem AI(w:World)(o:Obj):(w.alloc o).heap.size=w.heap.size+1:=by simp
theorem Yd(w:World):(zeroValue 75).run aA w=.ok (.agg (Ab Av)) w:=by rw[LK];kernel_rfl
theorem Q5(w:World):(Instr.alloc 75 true (.tuple #[])).run aA w=.ok (.pointer (some ⟨w.heap.size,0,none⟩)) (w.alloc (.cells (Ab Av) 75)):=by
 have hz:=Yd w;simp[Instr.alloc,aG,hz,newVar,newRow,Value.cells]
theorem C9{ops:Array Oper}{rest:List Oper}{o:Oper}{a:Act}{w:World}{Q:Exit→Act→World→Prop}(hg:o.guard=none)(ho:o.op=.alloc 75)
  (h:wpList aA ops Q rest (a.put o.dst (.pointer (some ⟨w.heap.size,0,none⟩))) (w.alloc (.cells (Ab Av) 75))):wpList aA ops Q (o::rest) a w:=by
 refine Great.wpList_allocTo hg o.dst rfl _ _ ?_ h;unfold execOp;simp only[ho,aG,Q5,aI,aT]
theorem J8{ops:Array Oper}{rest:List Oper}{o:Oper}{a:Act}{w:World}{Q:Exit→Act→World→Prop}(hg:o.guard=none)(ho:o.op=.build 75 #[])
  (h:wpList aA ops Q rest (a.put o.dst (.agg (Ab Av))) w):wpList aA ops Q (o::rest) a w:=by
 refine Great.wpList_readTo hg o.dst rfl _ ?_ h;unfold execOp;simp only[ho,aG,List.map_toArray,List.map_nil,VE,aI,aT]
theorem BV{ops:Array Oper}{rest:List Oper}{o:Oper}{a:Act}{w:World}{Q:Exit→Act→World→Prop}(hgd:o.guard=none)(x y:Operand)(ho:o.op=.store 75 x y)
  (g:Nat) (s z:Ae) (hx:a.eval x=.pointer (some ⟨g,0,none⟩)) (hy:a.eval y=.agg (Ab s)) (hg:w.heap[g]?=some (.cells (Ab z) 75 (0,0)))
  (w':World) (hw':w.setRow g (Ab s)=w')
  (h:wpList aA ops Q rest (a.put o.dst undef) w'):wpList aA ops Q (o::rest) a w:=
 FM (E:=DD) D8 hgd x y ho g (Ab s) (Hu s) hx hy _ hg (AK z) w' hw' h
theorem Cw{ops:Array Oper}{rest:List Oper}{o:Oper}{a:Act}{w:World}{Q:Exit→Act→World→Prop}(hw:Region.wanted o (yielded ops a.tmps)=true)(x:Operand)(ho:o.op=.load 75 x)
  (g off:Nat) (hx:a.eval x=.pointer (some ⟨g,off,none⟩)) (s:Ae) (hl:(loadVar 75 ⟨g,off,none⟩).run aA w=.ok (.agg (Ab s)) w)
  (h:wpList aA ops Q rest (a.put o.dst (.agg (Ab s))) w):wpList aA ops Q (o::rest) a w:=by
 refine wpList_step fun K hK=> ?_;rw[if_pos hw];unfold Oper.wp execOp;simp only[ho,hx,Instr.loadAt,Instr.sureAddr,aG,aT,aI,hl];exact hK _ _ h
theorem Io{w:World}{g off:Nat}{cur:Array Value}{t:TypeId}{fr:Nat×Nat}{s:Ae}(hg:w.heap[g]?=some (.cells cur t fr))(hc:∀j,j<36→cur[off+j]?=(Ab s)[j]?):(loadVar 75 ⟨g,off,none⟩).run aA w=.ok (.agg (Ab s)) w:=
 D8.load w g off cur t fr (Ab s) (AK s) hg hc
theorem FJ{w:World}{g:Nat}{t:TypeId}{fr:Nat×Nat}{s:Ae}(hg:w.heap[g]?=some (.cells (Ab s) t fr)):(loadVar 75 ⟨g,0,none⟩).run aA w=.ok (.agg (Ab s)) w:=Io hg fun j _=>by rw[Nat.zero_add]
theorem UF{w:World}{g off:Nat}{cur:Array Value}{t:TypeId}{s:Ae}(hg:w.heap[g]?=some (.cells cur t (0,0)))(hf:off+36≤cur.size):
  (Instr.storeAt 75 (.pointer (some ⟨g,off,none⟩)) (.agg (Ab s))).run aA w=.ok () (w.setRow g (cur.toList.take off++(Ab s).toList++cur.toList.drop (off+36)).toArray):=by
 have hl:(Ab s).toList.length=36:=by rw[aD,AK]
 have hst:=run_storeCells_at aA g off t (Ab s).toList 0 cur w hg (by rw[hl];simpa using hf) (fun u hu=>(Array.all_eq_true_iff_forall_mem.1 (L4 s)) u (by simpa using hu));rw[Nat.add_zero,hl] at hst;have hz:∀w,(sizeOf 75).run aA w=.ok 36 w:=fun w=>by kernel_rfl
 simp[Instr.storeAt,Instr.sureAddr,storeVar,aG,Value.cells,hst,hz,AK]
theorem Ta{ops:Array Oper}{rest:List Oper}{o:Oper}{a:Act}{w:World}{Q:Exit→Act→World→Prop}(hgd:o.guard=none)(x y:Operand)(ho:o.op=.store 75 x y)
  (g off:Nat) (s:Ae) (hx:a.eval x=.pointer (some ⟨g,off,none⟩)) (hy:a.eval y=.agg (Ab s)) (cur:Array Value) (t:TypeId) (hg:w.heap[g]?=some (.cells cur t (0,0))) (hf:off+36≤cur.size)
  (h:wpList aA ops Q rest (a.put o.dst undef) (w.setRow g (cur.toList.take off++(Ab s).toList++cur.toList.drop (off+36)).toArray)):wpList aA ops Q (o::rest) a w:=by
 refine wpList_plain hgd fun K hK=> ?_;unfold Oper.wp execOp;simp only[ho,hx,hy,aG,aT,aI,UF hg hf];exact hK _ _ h
theorem Wv{enc:Ae→List Value}{q:Nat}(hq:∀c,(enc c).length=q){L:List Value}{C:List Ae}{k:Nat}(s:Ae)(hk:k<C.length)(hL:C.length*q≤L.length)(htk:L.take (C.length*q)=C.flatMap enc):
  (L.take (k*q)++enc s++L.drop (k*q+q)).length=L.length∧(L.take (k*q)++enc s++L.drop (k*q+q)).take (C.length*q)=(C.set k s).flatMap enc:=by
 have gl:∀D:List Ae,(D.flatMap enc).length=D.length*q:=fun D=>by
  induction D with
  | nil=>simp
  | cons c D ih=>rw[aO,aC,ih,hq,List.length_cons,Nat.add_mul,Nat.one_mul,Nat.add_comm]
 have hkq:k*q+q≤C.length*q:=by have:=aM q (show k+1≤C.length from hk);rwa [Nat.add_mul,Nat.one_mul] at this
 have l1:(L.take (k*q)).length=k*q:=by rw[aK];omega
 have hs:=hq s
 have e0:C.flatMap enc=(C.take k).flatMap enc++(enc C[k]++(C.drop (k+1)).flatMap enc):=by
  conv=>lhs;rw[←List.take_append_drop k C,List.drop_eq_getElem_cons hk]
  rw[bA,aO]
 have e1:(C.set k s).flatMap enc=(C.take k).flatMap enc++(enc s++(C.drop (k+1)).flatMap enc):=by
  rw[Qj s hk,bA,aO]
 have g1:((C.take k).flatMap enc).length=k*q:=by rw[gl,aK];congr 1;omega
 have t1:L.take (k*q)=(C.take k).flatMap enc:=by
  have:=congrArg (List.take (k*q)) htk;rw[List.take_take,bJ (by omega),e0,List.take_append_of_le_length (aV g1.symm),aJ (aV g1)] at this;exact this
 have g2:((C.take k).flatMap enc++enc C[k]).length=k*q+q:=by rw[aC,g1,hq]
 have t2:(L.drop (k*q+q)).take (C.length*q-(k*q+q))=(C.drop (k+1)).flatMap enc:=by
  rw[←List.drop_take,htk,e0, ←bD,List.drop_append_of_le_length (aV g2.symm),List.drop_of_length_le (aV g2),List.nil_append]
 refine⟨?_,?_⟩
 ·rw[aC,aC,l1,hs,List.length_drop];omega
 ·rw[e1,t1,bD,bG,g1,aJ (l:=(C.take k).flatMap enc) (by omega),bG,hs,aJ (l:=enc s) (by omega),show C.length*q-k*q-q=C.length*q-(k*q+q) by omega,t2]
theorem Abq{cur:Array Value}{C:List Ae}{k:Nat}(s:Ae)(hk:k<C.length)(hsz:C.length*36≤cur.size)(htk:cur.toList.take (C.length*36)=Bh Ab C):
  (cur.toList.take (k*36)++(Ab s).toList++cur.toList.drop (k*36+36)).toArray.size=cur.size∧(cur.toList.take (k*36)++(Ab s).toList++cur.toList.drop (k*36+36)).toArray.toList.take (C.length*36)=Bh Ab (C.set k s):=by
 have h:=Wv (enc:=fun c=>(Ab c).toList) (q:=36) (fun c=>by rw[aD,AK]) (L:=cur.toList) s hk (by rw[aD];exact hsz) htk;exact⟨by rw[bE,h.1,aD],h.2⟩
theorem Am.store{B:Nat}{w:World}{g n cap:Nat}{C:List Ae}(h:Am B w (.slice (some ⟨g,0,none⟩) n cap) C)(k:Nat)(hk:k<C.length)(s:Ae):
  ∃cur,w.heap[g]?=some (.cells cur 75 (0,0))∧k*36+36≤cur.size∧∀w':World,w'.heap[g]?=some (.cells (cur.toList.take (k*36)++(Ab s).toList++cur.toList.drop (k*36+36)).toArray 75 (0,0))→Am B w' (.slice (some ⟨g,0,none⟩) n cap) (C.set k s):=by
 obtain⟨h1,⟨e,_⟩ | ⟨g',cap',cur,e,hB,hcur,h3,h4,h5,h6⟩⟩:=h
 ·cases e
 ·simp only[Value.slice.injEq,aP,Addr.mk.injEq,and_true] at e;obtain⟨⟨rfl,_⟩,rfl,rfl⟩:=e;have hsz:C.length*36≤cur.size:=by rw[h5];exact aM 36 h3
  obtain⟨q1,q2⟩:=Abq s hk hsz h6;refine⟨cur,hcur,by omega,fun w' hw'=>⟨?_,.inr ⟨g,cap,_,by rw[aN],hB,hw',by rw[aN];exact h3,h4,by rw[q1];exact h5,by rw[aN];exact q2⟩⟩⟩;have:=congrArg List.length q2;rw[aK,List.toList_toArray] at this;rw[bE] at q1;rw[aN, ←this,q1];exact bJ hsz
theorem Jg{ops:Array Oper}{rest:List Oper}{o:Oper}{a:Act}{w:World}{Q:Exit→Act→World→Prop}(hg:o.guard=none)(x:Operand)(ho:o.op=.buildSlice 40 1 #[(0,x)])(s:Ae)(hx:a.eval x=.agg (Ab s))
  (h:wpList aA ops Q rest (a.put o.dst (.slice (some ⟨w.heap.size,0,none⟩) 1 1)) (w.alloc (.cells (Ab s) 75))):wpList aA ops Q (o::rest) a w:=
 IOx (E:=DD) D8 hg x ho (Ab s) (AK s) hx h
theorem KY{ops:Array Oper}{rest:List Oper}{o:Oper}{a:Act}{w:World}{Q:Exit→Act→World→Prop}(hgd:o.guard=none)(s x:Operand)(ho:o.op=.call {callee:=.builtin .append,args:=#[s,x],argTypes:=#[40,40]})
  (B:Nat) (v:Value) (C:List Ae) (c:Ae) (hs:a.eval s=v) (hown:Am B w v C) (g cap:Nat) (hx:a.eval x=.slice (some ⟨g,0,none⟩) 1 cap) (hg:w.heap[g]?=some (.cells (Ab c) 75 (0,0)))
  (hn:C.length≤1000000) (hB:B≤w.heap.size)
  (h:∀v' w',Am B w' v' (C++[c])→w.grownBy w' v.ownBlock→(v'.ownBlock=v.ownBlock∨v'.ownBlock=some w.heap.size)→wpList aA ops Q rest (a.put o.dst v') w'):wpList aA ops Q (o::rest) a w:=
 H9 (E:=DD) D8 Ab hgd s x ho B v C c (Hu _) hs hown g cap hx hg hn hB h
theorem Pq{ops:Array Oper}{rest:List Oper}{o:Oper}{a:Act}{w:World}{Q:Exit→Act→World→Prop}(hgd:o.guard=none)(s x:Operand)(ho:o.op=.call {callee:=.builtin .append,args:=#[s,x],argTypes:=#[40,40]})
  (g n cap:Nat) (hs:a.eval s=.slice (some ⟨g,0,none⟩) n cap) (cur:Array Value) (hg:w.heap[g]?=some (.cells cur 75 (0,0))) (gx capx:Nat) (c:Ae) (hx:a.eval x=.slice (some ⟨gx,0,none⟩) 1 capx) (hgx:w.heap[gx]?=some (.cells (Ab c) 75 (0,0)))
  (hroom:n+1≤cap) (hfit:n*36+36≤cur.size) (w3:World) (hw3:w.setRow g (cur.toList.take (n*36)++(Ab c).toList++cur.toList.drop (n*36+36)).toArray=w3)
  (h:wpList aA ops Q rest (a.put o.dst (.slice (some ⟨g,0,none⟩) (n+1) cap)) w3):wpList aA ops Q (o::rest) a w:=by
 subst hw3;exact Q8 (E:=DD) D8 hgd s x ho g n cap hs cur hg gx capx (Ab c) (Hu _) hx hgx hroom hfit h
theorem Lv{l:List Ae}{k:Nat}{x:Ae}{q:Ae→Bool}(h:l[k]?=some x)(hq:q x=true):(l.take (k+1)).filter q=(l.take k).filter q++[x]:=by
 rw[bF,h,aH];simp[hq]
theorem MV{l:List Ae}{k:Nat}{x:Ae}{q:Ae→Bool}(h:l[k]?=some x)(hq:q x=false):(l.take (k+1)).filter q=(l.take k).filter q:=by
 rw[bF,h,aH];simp[hq]
theorem NI{l:List Ae}(k:Nat)(q:Ae→Bool):((l.take k).filter q).length≤k:=bC (aZ _ _) (by rw[aK];omega)
def EZ(p:Prop):Prop:=p
theorem Dl{p:Prop}(h:EZ p):p:=h
structure Pi(g n cap:Nat)(w wr:World)(C:List Ae)(p:Ae→Bool)(cur:Array Value)(k m:Nat)(vg:Value):Prop where
 hm:m=((C.take k).filter fun x=> !(p x)).length
 row:∃cur',wr.heap[g]?=some (.cells cur' 75 (0,0))∧cur'.size=cur.size∧cur'.toList.take (m*36)=Bh Ab ((C.take k).filter fun x=> !(p x))∧∀j,k*36≤j→cur'[j]?=cur[j]?
 gone:Am w.heap.size wr vg ((C.take k).filter p)
 kept:Ao (Cj g) w wr
theorem WQ(B g n cap:Nat)(C:List Ae)(w:World)(cur:Array Value)(hn0:n=C.length)(hB:B≤g)(hg:w.heap[g]?=some (.cells cur 75 (0,0)))(hcap:n≤cap)(hcm:cap≤maxLen)(hsz:cur.size=cap*36)(htk:cur.toList.take (n*36)=Bh Ab C)(hn:n≤1000000)
  (f:Nat) (cb:Array Value) (p:Ae→Bool) (eg:∀args w,(callFunc f args).run aA w=.ok (.enter f args) w) (hc:Pl (fun W=>Ao (Cj g) w W) f cb p):
  Calls aA 94 #[.slice (some ⟨g,0,none⟩) n cap,.func (.func f) #[] cb] w fun e w'=> ∃v1 v2,e=.returned (.tuple #[v1,v2])∧Am B w' v1 (C.filter fun x=> !(p x))∧v1.ownBlock=some g∧Am w.heap.size w' v2 (C.filter p)∧Ao (Cj g) w w':=by
 have hglt:g<w.heap.size:=(gS hg);have HC:Hid _:=hc;have HN:Hid _:=hn0
 have HAT:Hid (∀(k:Nat) (x:Ae) (cur':Array Value),C[k]?=some x→(∀j,k*36≤j→cur'[j]?=cur[j]?)→∀j,j<36→cur'[k*36+j]?=(Ab x)[j]?):=fun k x cur' hx hj j hj36=>by
  have hk:k<C.length:=(aQ.1 hx).1;rw[hj _ (by omega)];have h1:=IS Ab 36 C (fun c _=>AK c) k hk j hj36;rw[←htk,List.getElem?_take_of_lt (by have:=aM 36 (show k+1≤n by omega);omega),Array.getElem?_toList] at h1;rw[Nat.mul_comm k 36,h1,(aQ.1 hx).2]
 have H0:Hid (Pi g n cap w w C p cur 0 0 (.slice none 0 0)):=⟨by simp,⟨cur,hg,rfl,by simp[Bh],fun j _=>rfl⟩,by simpa using Am.nil _ _,Ao.refl _ _⟩
 have HE:Hid (∀wr m vg,Pi g n cap w wr C p cur n m vg→∃v1 v2,Ending.returned (.tuple #[.slice (some ⟨g,0,none⟩) m cap,vg])=.returned (.tuple #[v1,v2])∧Am B wr v1 (C.filter fun x=> !(p x))∧v1.ownBlock=some g∧Am w.heap.size wr v2 (C.filter p)∧Ao (Cj g) w wr):=fun wr m vg h=>by
  obtain⟨h1,⟨cur',h2,h3,h4,_⟩,h5,h6⟩:=h;rw[hn0,List.take_length] at h1 h4 h5;subst h1;refine⟨_,_,rfl,?_,rfl,h5,h6⟩;refine⟨Lu AK _,.inr ⟨g,cap,cur',rfl,hB,h2,bC (aZ _ _) (by omega),hcm,by rw[h3,hsz],h4⟩⟩
 unfold maxLen at hcm;have HSZ:Hid _:=hsz;clear hc hg htk hB hn0 hsz;go_enter Tryz.func94,Tryz.ntmps94;go_wp2_with fail;go_loopw [6,7,14] (fun s6 s7 i wr=> ∃(k m:Nat),k≤n∧i=.int .i64 (k:Int)∧s6=.slice (some ⟨g,0,none⟩) m cap∧Hid (Pi g n cap w wr C p cur k m s7)) (fun _ _ i _=>n-(intOf i).toNat)
 case atStart=>exact⟨0,0,Nat.zero_le _,rfl,rfl,H0.out⟩
 case round=>
  obtain⟨k,m,hk,rfl,rfl,HS⟩:=hrel;by_cases hlt:k<n
  ·have hlt':(k:Int)<(n:Int):=by omega
   obtain⟨x,hx⟩:∃x,C[k]?=some x:=⟨_,List.getElem?_eq_getElem (show k<C.length by have:=HN.out;omega)⟩;have HX:Hid _:=hx;obtain⟨cur',hr1,hr2,hr3,hr4⟩:=HS.out.row;have K1:Hid _:=hr1;have K1s:Hid (cur'.size=cap*36):=hr2.trans HSZ.out;have H1:Hid (∀j,j<36→cur'[k*36+j]?=(Ab x)[j]?):=HAT.out k x cur' hx hr4;have HM:Hid (m≤k):=by show _≤_;rw[HS.out.hm];exact NI _ _
   have R3:Hid _:=hr3;have R4:Hid _:=hr4;have KN:Hid ((wr.alloc (.cells (Ab x) 75)).heap[wr.heap.size]?=some (.cells (Ab x) 75 (0,0))):=Ac _ _ _ rfl;have KB:Hid (Below wr.heap.size wr (wr.alloc (.cells (Ab x) 75))):=(Below.refl _ _).alloc (aB _) _;have KG:Hid (Ao (Cj g) w (wr.alloc (.cells (Ab x) 75))):=HS.out.kept.add KB.out;have hcall:=HC.out x _ KG.out;have ML:Hid (((C.take k).filter p).length≤1000000):=by show _≤_;have:=NI (l:=C) k p;omega
   clear hr1 hr2 hr3 hr4 hx
   cases hp:p x with
   | true=>
    rw[hp] at hcall;have HPX:Hid _:=hp;clear hp
    go_wp2_with (first
     | (refine Cw rfl _ rfl g (k*36) rfl x (Io K1.out H1.out) ?_)
     | (refine C9 rfl rfl ?_)
     | (refine BV rfl _ _ rfl wr.heap.size x Av rfl rfl (Ac _ _ _ rfl) _ (BD _ _ _ _ _ rfl) ?_;refine Dl ?_))
    unfold EZ;go_wp2_with (refine Cw rfl _ rfl wr.heap.size 0 rfl x (FJ KN.out) ?_);refine hcall.mono ?_;rintro e w1 ⟨rfl,hb1⟩;have B1:Hid (Below wr.heap.size wr w1):=Bd KB.out KB.out.size hb1;have KN1:Hid (w1.heap[wr.heap.size]?=some (.cells (Ab x) 75 (0,0))):=(hb1.block _ (by simp)).trans KN.out;have GO:Hid (Am w.heap.size (w1.alloc (.cells (Ab x) 75)) u7 ((C.take k).filter p)):=(HS.out.gone.below B1.out).below ((Below.refl _ _).alloc (aB _) _);have B2:Hid (Below wr.heap.size wr (w1.alloc (.cells (Ab x) 75))):=B1.out.alloc B1.out.size _;clear hcall hb1
    go_wp2_with (first
     | (refine Cw rfl _ rfl wr.heap.size 0 rfl x (FJ KN1.out) ?_)
     | (refine Jg rfl _ rfl x rfl ?_)
     | (at_builtin;refine Dl ?_))
    unfold EZ;refine KY rfl _ _ rfl w.heap.size u7 ((C.take k).filter p) x rfl GO.out w1.heap.size 1 rfl (Ac _ _ _ rfl) ML.out (by have h1:=HS.out.kept.size;have h2:=B2.out.size;omega) ?_;intro v' w3 hown3 hgr3 hv'
    have B3:Hid (Pi g n cap w w3 C p cur (k+1) m v'):=by
     have hne:u7.ownBlock≠some g:=fun e=>by have:=(HS.out.gone.lt g e).1;omega
     have hgr:g<wr.heap.size:=(gS K1.out);refine⟨?_,⟨cur',?_,K1s.out.trans HSZ.out.symm,?_,fun j hj=>R4.out j (by omega)⟩,?_,?_⟩
     ·rw[MV HX.out (by rw[HPX.out];rfl)];exact HS.out.hm
     ·rw[hgr3.block g (by have:=B2.out.size;omega) (fun e=>hne e.symm),B2.out.block g hgr];exact K1.out
     ·rw[MV HX.out (by rw[HPX.out];rfl)];exact R3.out
     ·rw[Lv HX.out HPX.out];exact hown3
     ·exact(HS.out.kept.add B2.out).trans (Ao.of_grown (X:=fun j=>w.heap.size≤j) hgr3 fun j hj=>(HS.out.gone.lt j hj).1) fun j hj=> .inr hj
    clear hown3 hgr3 hv';simp only[pU];go_wp2_with fail;go_roundw
    case rel=>exact⟨k+1,m,by omega,by go_num,rfl,B3.out⟩
    case measure=>simp[intOf];omega
   | false=>
    rw[hp] at hcall;have HPX:Hid _:=hp;clear hp
    go_wp2_with (first
     | (refine Cw rfl _ rfl g (k*36) rfl x (Io K1.out H1.out) ?_)
     | (refine C9 rfl rfl ?_)
     | (refine BV rfl _ _ rfl wr.heap.size x Av rfl rfl (Ac _ _ _ rfl) _ (BD _ _ _ _ _ rfl) ?_;refine Dl ?_))
    unfold EZ;go_wp2_with (refine Cw rfl _ rfl wr.heap.size 0 rfl x (FJ KN.out) ?_);refine hcall.mono ?_;rintro e w1 ⟨rfl,hb1⟩;have B1:Hid (Below wr.heap.size wr w1):=Bd KB.out KB.out.size hb1;have KN1:Hid (w1.heap[wr.heap.size]?=some (.cells (Ab x) 75 (0,0))):=(hb1.block _ (by simp)).trans KN.out;have B2:Hid (Below wr.heap.size wr (w1.alloc (.cells (Ab x) 75))):=B1.out.alloc B1.out.size _;have KR:Hid ((w1.alloc (.cells (Ab x) 75)).heap[g]?=some (.cells cur' 75 (0,0))):=(B2.out.block g (gS K1.out)).trans K1.out;have hfit:m*36+36≤cur'.size:=by have h1:=K1s.out;have h2:=HM.out;omega
    have hroom:m+1≤cap:=by have h2:=HM.out;omega
    clear hcall hb1
    go_wp2_with (first
     | (refine Cw rfl _ rfl wr.heap.size 0 rfl x (FJ KN1.out) ?_)
     | (refine Jg rfl _ rfl x rfl ?_)
     | (at_builtin;refine Dl ?_))
    unfold EZ;obtain⟨w3,hw3⟩:∃w3,(w1.alloc (.cells (Ab x) 75)).setRow g (cur'.toList.take (m*36)++(Ab x).toList++cur'.toList.drop (m*36+36)).toArray=w3:=⟨_,rfl⟩;refine Pq rfl _ _ rfl g m cap rfl cur' KR.out w1.heap.size 1 x rfl (Ac _ _ _ rfl) hroom hfit w3 hw3 ?_
    have B3:Hid (Pi g n cap w w3 C p cur (k+1) (m+1) u7):=by
     obtain⟨q1,q2,q3⟩:=YC (n:=m) (AK x) hfit;have hgw:w3.heap[g]?=some (.cells (cur'.toList.take (m*36)++(Ab x).toList++cur'.toList.drop (m*36+36)).toArray 75 (0,0)):=by rw[←hw3];exact setRow_heap _ _ _ _ _ _ KR.out
     have hot:∀j,j≠g→w3.heap[j]?=(w1.alloc (.cells (Ab x) 75)).heap[j]?:=fun j hj=>by rw[←hw3];exact setRow_other _ g j _ hj
     have hks:Ao (Cj g) (w1.alloc (.cells (Ab x) 75)) w3:=by
      rw[←hw3];exact⟨rfl,rfl,rfl,by simp,fun j _ hj=>setRow_other _ g j _ hj⟩
     have hhm:=HS.out.hm;refine⟨?_,⟨_,hgw,q1.trans (K1s.out.trans HSZ.out.symm),?_,fun j hj=> ?_⟩,?_,?_⟩
     ·rw[Lv HX.out (by rw[HPX.out];rfl),aC, ←hhm];rfl
     ·rw[q2,R3.out,Lv HX.out (by rw[HPX.out];rfl),Ja,OW]
     ·rw[q3 j (by have:=HM.out;omega)];exact R4.out j (by omega)
     ·rw[MV HX.out HPX.out];exact((HS.out.gone.below B1.out).below ((Below.refl _ _).alloc (aB _) _)).kept hks fun j hj e=>by have:=(HS.out.gone.lt j hj).1;unfold Cj at e;omega
     ·exact(HS.out.kept.add B2.out).trans hks fun j hj=> .inl hj
    clear hw3;simp only[pU];go_wp2_with fail;go_roundw
    case rel=>exact⟨k+1,m+1,by omega,by go_num,rfl,B3.out⟩
    case measure=>simp[intOf];omega
  ·have hlt':¬(k:Int)<(n:Int):=by omega
   obtain rfl:k=n:=by omega
   go_wp2_with fail;go_ret2;exact HE.out _ _ _ HS.out
theorem YR(w:World)(fv:Value):Calls aA 94 #[.slice none 0 0,fv] w fun e w'=>e=.returned (.tuple #[.slice none 0 0,.slice none 0 0])∧w'=w:=by
 go_enter Tryz.func94,Tryz.ntmps94;go_wp2_with fail;go_loopw [6,7,14] (fun s6 s7 i wr=>i=.int .i64 0∧s6=.slice none 0 0∧s7=.slice none 0 0∧wr=w) (fun _ _ _ _=>0)
 case atStart=>exact⟨rfl,rfl,rfl,rfl⟩
 case round=>
  obtain⟨rfl,rfl,rfl,rfl⟩:=hrel;go_wp2_with fail;go_ret2;exact⟨rfl,rfl⟩
theorem YS(B:Nat)(C:List Ae)(v:Value)(w:World)(hv:Am B w v C)(hn:C.length≤1000000)
  (f:Nat) (cb:Array Value) (p:Ae→Bool) (eg:∀args w,(callFunc f args).run aA w=.ok (.enter f args) w) (hc:Pl (fun W=>Ao (Bn v) w W) f cb p):
  Calls aA 94 #[v,.func (.func f) #[] cb] w fun e w'=> ∃v1 v2,e=.returned (.tuple #[v1,v2])∧Am B w' v1 (C.filter fun x=> !(p x))∧v1.ownBlock=v.ownBlock∧Am w.heap.size w' v2 (C.filter p)∧Ao (Bn v) w w':=by
 obtain⟨h1,⟨rfl,h2⟩ | ⟨g,cap,cur,rfl,hB,hcur,h3,h4,h5,h6⟩⟩:=hv
 ·have hC:C=[]:=List.eq_nil_of_length_eq_zero h2;subst hC;refine(YR w _).mono ?_;rintro e w' ⟨rfl,rfl⟩;exact⟨_,_,rfl,Am.nil _ _,rfl,Am.nil _ _,Ao.refl _ _⟩
 ·have key:∀W,Ao (Cj g) w W↔Ao (Bn (.slice (some ⟨g,0,none⟩) C.length cap)) w W:=fun W=>
   ⟨fun h=>h.mono fun k _ e=>by unfold Cj at e;unfold Bn Value.ownBlock;rw[e],fun h=>h.mono fun k _ e=>by unfold Bn Value.ownBlock at e;simp only[aP] at e;exact e.symm⟩
  refine(WQ B g C.length cap C w cur rfl hB hcur h3 h4 h5 h6 hn f cb p eg (fun x W hW=>hc x W ((key W).1 hW))).mono ?_;rintro e w' ⟨v1,v2,rfl,q1,q2,q3,q4⟩;exact⟨v1,v2,rfl,q1,q2,q3,(key w').1 q4⟩
def Pv(v1 v2 v3:Value)(b:Nat)(u:Value):Value×Value×Value:=if b=1 then (u,v2,v3) else if b=2 then (v1,u,v3) else if b=3 then (v1,v2,u) else (v1,v2,v3)
def Pw(S:Ay)(b:Nat)(l:List Ae):Ay:=if b=1 then {S with c:=l} else if b=2 then {S with a:=l} else if b=3 then {S with p:=l} else S
theorem BH.put{B:Nat}{w w':World}{g:Nat}{R:Rm}{S:Ay}{v1 v2 v3:Value}(h:BH B w g R S v1 v2 v3)(b:Nat)(hb:b<4)(u:Value)(l:List Ae)(hk:Ao (Bn (Bv v1 v2 v3 b)) w w')(hu:Am B w' u l)(ho:u.ownBlock=(Bv v1 v2 v3 b).ownBlock∨∀k,u.ownBlock=some k→w.heap.size≤k)(hz:b=0→u=.slice none 0 0):
  BH B (w'.setCell ⟨g,4+b,none⟩ u) g R (Pw S b l) (Pv v1 v2 v3 b u).1 (Pv v1 v2 v3 b u).2.1 (Pv v1 v2 v3 b u).2.2∧Ao (Cv g v1 v2 v3) w (w'.setCell ⟨g,4+b,none⟩ u)∧∀k,Cv g (Pv v1 v2 v3 b u).1 (Pv v1 v2 v3 b u).2.1 (Pv v1 v2 v3 b u).2.2 k→Cv g v1 v2 v3 k∨w.heap.size≤k:=by
 have hgx:¬Bn (Bv v1 v2 v3 b) g:=(h.bank b).ty h.blk (by decide);have hbk:=hk.heap h.blk hgx;have hset:(w'.setCell ⟨g,4+b,none⟩ u).heap[g]?=some (.cells ((LY R v1 v2 v3).setIfInBounds (4+b) u) 102 (0,0)):=heap_setCell_same w' g (4+b) _ _ _ hbk;have hoth:∀k,k≠g→(w'.setCell ⟨g,4+b,none⟩ u).heap[k]?=w'.heap[k]?:=fun k hkg=>heap_setCell_other w' ⟨g,4+b,none⟩ k _ (by simpa using hkg);have hK2:Ao (Cj g) w' (w'.setCell ⟨g,4+b,none⟩ u):=⟨rfl,rfl,rfl,by simp[World.setCell],fun k _ e=>hoth k e⟩;have hug:∀k,u.ownBlock=some k→¬Cj g k:=fun k e1 e2=>by unfold Cj at e2;subst e2;exact hu.ty hbk (by decide) e1
 have old:∀(v:Value) (C:List Ae),Am B w v C→GM v.ownBlock (Bv v1 v2 v3 b).ownBlock→Am B (w'.setCell ⟨g,4+b,none⟩ u) v C:=fun v C hv ha=>
  (hv.kept hk fun k e e'=>ha.ne k e e').kept hK2 fun k e e'=>by unfold Cj at e';subst e';exact hv.ty h.blk (by decide) e
 have hu':Am B (w'.setCell ⟨g,4+b,none⟩ u) u l:=hu.kept hK2 hug
 have ap:∀v:Value,(∃C,Am B w v C)→GM v.ownBlock (Bv v1 v2 v3 b).ownBlock→GM v.ownBlock u.ownBlock:=fun v ⟨C,hv⟩ ha=>by
  rcases ho with e | e
  ·rw[e];exact ha
  ·cases hvb:v.ownBlock with
   | none=>exact .inl rfl
   | some k=>
    refine .inr (.inr fun e'=> ?_);have:=(hv.lt k hvb).2;have:=e k e'.symm;omega
 have hKf:Ao (Cv g v1 v2 v3) w (w'.setCell ⟨g,4+b,none⟩ u):=by
  refine(hk.mono (Y:=Cv g v1 v2 v3) fun k _ e=> ?_).trans hK2 fun k e=> .inl (.inl e);unfold Bn Bv at e;split at e
  ·exact .inr (.inl e)
  ·split at e
   ·exact .inr (.inr (.inl e))
   ·split at e
    ·exact .inr (.inr (.inr e))
    ·cases e
 have ho':∀k,u.ownBlock=some k→(Bv v1 v2 v3 b).ownBlock=some k∨w.heap.size≤k:=fun k e=>by
  rcases ho with e' | e'
  ·rw[e'] at e;exact .inl e
  ·exact .inr (e' k e)
 rcases(show b=0∨b=1∨b=2∨b=3 by omega) with rfl | rfl | rfl | rfl
 ·have hu0:=hz rfl;subst hu0;exact⟨⟨hset,old _ _ h.o1 (.inr (.inl rfl)),old _ _ h.o2 (.inr (.inl rfl)),old _ _ h.o3 (.inr (.inl rfl)),h.a12,h.a13,h.a23,h.hB⟩,hKf,fun k hk=> .inl hk⟩
 ·refine⟨⟨hset,hu',old _ _ h.o2 h.a12.symm,old _ _ h.o3 h.a13.symm,(ap _ ⟨_,h.o2⟩ h.a12.symm).symm,(ap _ ⟨_,h.o3⟩ h.a13.symm).symm,h.a23,h.hB⟩,hKf,fun k hk=> ?_⟩;rcases hk with e | e | e | e
  ·exact .inl (.inl e)
  ·rcases ho' k e with e' | e'
   ·exact .inl (.inr (.inl e'))
   ·exact .inr e'
  ·exact .inl (.inr (.inr (.inl e)))
  ·exact .inl (.inr (.inr (.inr e)))
 ·refine⟨⟨hset,old _ _ h.o1 h.a12,hu',old _ _ h.o3 h.a23.symm,ap _ ⟨_,h.o1⟩ h.a12,h.a13,(ap _ ⟨_,h.o3⟩ h.a23.symm).symm,h.hB⟩,hKf,fun k hk=> ?_⟩;rcases hk with e | e | e | e
  ·exact .inl (.inl e)
  ·exact .inl (.inr (.inl e))
  ·rcases ho' k e with e' | e'
   ·exact .inl (.inr (.inr (.inl e')))
   ·exact .inr e'
  ·exact .inl (.inr (.inr (.inr e)))
 ·refine⟨⟨hset,old _ _ h.o1 h.a13,old _ _ h.o2 h.a23,hu',h.a12,ap _ ⟨_,h.o1⟩ h.a13,ap _ ⟨_,h.o2⟩ h.a23,h.hB⟩,hKf,fun k hk=> ?_⟩;rcases hk with e | e | e | e
  ·exact .inl (.inl e)
  ·exact .inl (.inr (.inl e))
  ·exact .inl (.inr (.inr (.inl e)))
  ·rcases ho' k e with e' | e'
   ·exact .inl (.inr (.inr (.inr e')))
   ·exact .inr e'
def Ck(B:Nat)(w w':World)(g:Nat)(R:Rm)(S':Ay)(v1 v2 v3:Value):Prop:=∃u1 u2 u3,BH B w' g R S' u1 u2 u3∧Ao (Cv g v1 v2 v3) w w'∧∀k,Cv g u1 u2 u3 k→Cv g v1 v2 v3 k∨w.heap.size≤k
theorem SB(B:Nat)(w:World)(g:Nat)(R:Rm)(S:Ay)(v1 v2 v3:Value)(h:BH B w g R S v1 v2 v3)(b:Nat)(hb:b<4)(hn:(AY S b).length≤1000000)
  (f:Nat) (cb:Array Value) (p:Ae→Bool) (eg:∀args w,(callFunc f args).run aA w=.ok (.enter f args) w) (hc:Pl (fun W=>Ao (Bn (Bv v1 v2 v3 b)) w W) f cb p):
  Calls aA 68 #[.pointer (some ⟨g,0,none⟩),.int .i64 (b:Int),.func (.func f) #[] cb] w fun e w'=> ∃u,e=.returned u∧Am w.heap.size w' u ((AY S b).filter p)∧Ck B w w' g R (Pw S b ((AY S b).filter fun x=> !(p x))) v1 v2 v3:=by
 obtain⟨vb,hvb⟩:=eX (Bv v1 v2 v3 b);have hpt:=YS B _ _ w (h.bank b) hn f cb p eg hc;have c1:=h.f.bankCell b hb;rw[←hvb] at hpt c1;have HP:Hid (∀fv W,W=w→fv=Value.func (.func f) #[] cb→Calls aA 94 #[vb,fv] W fun e w'=> ∃v1 v2,e=.returned (.tuple #[v1,v2])∧Am B w' v1 ((AY S b).filter fun x=> !(p x))∧v1.ownBlock=vb.ownBlock∧Am w.heap.size w' v2 ((AY S b).filter p)∧Ao (Bn vb) w w'):=fun fv W hW hf=>by subst hW;subst hf;exact hpt
 have HSL:Hid (∀w' u1 u2,Am B w' u1 ((AY S b).filter fun x=> !(p x))→Am w.heap.size w' u2 ((AY S b).filter p)→(∃o n c,u1=.slice o n c)∧∃o n c,u2=.slice o n c):=fun w' u1 u2 h1 h2=>by
  obtain⟨o,c,e,_⟩:=h1.slice;obtain⟨o',c',e',_⟩:=h2.slice;exact⟨⟨o,_,c,e⟩,⟨o',_,c',e'⟩⟩
 have HF:Hid (∀w' u1 u2,Am B w' u1 ((AY S b).filter fun x=> !(p x))→u1.ownBlock=vb.ownBlock→Am w.heap.size w' u2 ((AY S b).filter p)→Ao (Bn vb) w w'→(∀k,w'.frozen? ⟨g,k,none⟩=false)∧w'.cell? ⟨g,4+b,none⟩=some vb∧Am w.heap.size (w'.setCell ⟨g,4+b,none⟩ u1) u2 ((AY S b).filter p)∧Ck B w (w'.setCell ⟨g,4+b,none⟩ u1) g R (Pw S b ((AY S b).filter fun x=> !(p x))) v1 v2 v3):=fun w' u1 u2 q1 q2 q3 q4=>by
  have hgx:¬Bn vb g:=by rw[hvb];exact(h.bank b).ty h.blk (by decide)
  have hbk:=q4.heap h.blk hgx;have hK2:Ao (Cj g) w' (w'.setCell ⟨g,4+b,none⟩ u1):=⟨rfl,rfl,rfl,by simp[World.setCell],fun k _ e=>heap_setCell_other w' ⟨g,4+b,none⟩ k _ e⟩
  obtain⟨r1,r2,r3⟩:=h.put b hb u1 _ (by rw[←hvb];exact q4) q1 (.inl (by rw[←hvb];exact q2)) (fun h0=>by
   subst h0;have e0:vb.ownBlock=none:=by rw[hvb];rfl
   obtain⟨_,⟨rfl,_⟩ | ⟨g',cap,cur,rfl,_⟩⟩:=q1
   ·rfl
   ·rw[e0] at q2;cases q2)
  refine⟨fun k=>by simp[World.frozen?,hbk],by rw[hvb];exact(IB hbk).bankCell b hb,q3.kept hK2 fun k e e'=> ?_,_,_,_,r1,r2,r3⟩;have h1:=(q3.lt k e).1;have h2:=(gS h.blk);unfold Cj at e';omega
 have hb4:(b:Int)<4:=by omega
 obtain⟨fv,hfv⟩:=eX (Value.func (.func f) #[] cb);have HFV:Hid _:=hfv;rw[←hfv];clear hfv hpt hc h hvb;go_enter Tryz.func68,Tryz.ntmps68;go_wp2_with (go_at_call 94;refine(HP.out _ _ rfl HFV.out).mono ?_;rintro e w1 ⟨u1,u2,rfl,q1,q2,q3,q4⟩;obtain⟨⟨o1,n1,p1,rfl⟩,o2,n2,p2,rfl⟩:=HSL.out w1 u1 u2 q1 q3;obtain⟨f1,f2,f3,f4⟩:=HF.out w1 _ _ q1 q2 q3 q4;have f1':=f1 (4+b);have F3:Hid _:=f3;have F4:Hid _:=f4;clear q1 q2 q3 q4 f3 f4 f1);go_ret;exact⟨_,rfl,F3.out,F4.out⟩
theorem Nh(w:World)(q:Nat):Below w.heap.size w (w.drewN q):=⟨rfl,rfl,rfl,aB _,fun _ _=>rfl⟩
theorem Ss(B:Nat)(w:World)(g:Nat)(R:Rm)(S:Ay)(v1 v2 v3:Value)(h:BH B w g R S v1 v2 v3)(b:Nat)(hb:b<4):
  Calls aA 111 #[.pointer (some ⟨g,0,none⟩),.int .i64 (b:Int)] w fun e w'=>e=.returned (.bool (decide ((AY S b).length=II R b)))∧Below w.heap.size w w':=by
 obtain⟨vb,hvb⟩:=eX (Bv v1 v2 v3 b);have c1:=h.f.bankCell b hb;have c2:=h.f.roomCell b hb;obtain⟨o,cap,e,he,hm⟩:=(h.bank b).slice;unfold maxLen at hm;rw[e] at c1;generalize (AY S b).length=n at c1 he ⊢;generalize II R b=r at c2 ⊢;have hb4:(b:Int)<4:=by omega
 clear h hvb e;by_cases hr:n=r
 ·subst hr;go_enter Tryz.func111,Tryz.ntmps111;go_wp2_with fail;go_quiet (fail);go_wp2_with fail;go_ret;exact⟨by simp,Nh _ _⟩
 ·have hr':¬(n:Int)=(r:Int):=by omega
  go_enter Tryz.func111,Tryz.ntmps111;go_wp2_with fail;go_quiet (fail);go_wp2_with fail;go_ret;exact⟨by simp[hr];omega,Nh _ _⟩
theorem PL(a b:Int):G0 a b<0↔a<b:=by
 unfold G0;split
 ·simp;assumption
 ·split <;> simp <;> omega
theorem Acm(C:List Ae)(v:Value)(w:World)(hl:EC DD Ab w v C)(hn:C.length≤1000000)(hne:C≠[]):
  Calls aA 151 #[v,.func (.func 152) #[] #[]] w fun e w'=>(∃x A D,e=.returned (.agg (Ab x))∧Fa (fun _=>true) (·.used) C A x D)∧Below w.heap.size w w':=by
 have h0:0<C.length:=by
  cases C with
  | nil=>exact absurd rfl hne
  | cons c C=>simp
 obtain⟨o,cap,rfl,hc1,hc2⟩:=EC.slice hl;obtain⟨n,hn0⟩:=eX C.length;have HN:Hid _:=hn0;rw[←hn0] at hl hc1 hn h0 ⊢;have HL:Hid _:=hl;obtain⟨g,off,cur0,ty0,fr0,x0,rfl,hg0,hcc0,hx0⟩:=hl.at 0 h0;have K0:Hid (∀W,W.heap[g]?=w.heap[g]?→(loadVar 75 ⟨g,off,none⟩).run aA W=.ok (.agg (Ab x0)) W):=fun W hW=>Io (hW.trans hg0) (fun j hj=>by have h:=hcc0 j hj;rw[Nat.zero_mul,Nat.add_zero] at h;exact h);have HX0:Hid _:=hx0;have HG:Hid (g<w.heap.size):=(gS hg0);have h0':¬(n:Int)<1:=by omega
 have hn1:(0:Int)<(n:Int):=by omega
 unfold maxLen at hc2;have EV:Hid _:=Vz;clear hl hn0 hne hg0 hcc0 hx0;have N1:Hid ((w.alloc (.cells (Ab Av) 75)).heap[g]?=w.heap[g]?):=Below.heap_alloc _ _ _ HG.out;go_enter Tryz.func151,Tryz.ntmps151;go_wp2_with (first|((with_reducible refine FW rfl ?_);refine C9 rfl rfl ?_;try rw[AI])|((with_reducible refine Gs _ rfl ?_);refine Cw rfl _ rfl g off rfl x0 (K0.out _ N1.out) ?_)|((with_reducible refine Ex _ _ rfl ?_);refine BV rfl _ _ rfl (w.heap.size+1) x0 Av rfl rfl (Ac _ _ _ (by simp)) _ (BD _ _ _ _ _ (by simp)) ?_));go_loopw [6] (fun i wr=> ∃(k j:Nat) (x:Ae),1≤k∧k≤n∧i=.int .i64 (k:Int)∧Hid (C[j]?=some x)∧Hid (Ei (fun _=>true) (·.used) C k (j:Int))∧Hid (wr.heap[w.heap.size+1]?=some (.cells (Ab x) 75 (0,0)))∧Hid (wr.heap[w.heap.size]?=some (.cells (Ab Av) 75 (0,0)))∧Hid (Below w.heap.size w wr)) (fun i _=>n-(intOf i).toNat)
 case atStart=>exact⟨1,0,x0,aB _,h0,rfl,HX0,Nd (QI _) HX0.out rfl,Ac _ _ _ (by simp),Af _ _ _ _ (Ac _ _ _ rfl),((Below.refl _ _).alloc (aB _) _).alloc (by simp) _⟩
 case round=>
  obtain⟨k,j,x,hk1,hk,rfl,HJ,HF,HM,HZ,HB⟩:=hrel;by_cases hlt:k<n
  ·have hlt':(k:Int)<(n:Int):=by omega
   obtain⟨g',off',cur,ty,fr,y,he,hg,hcc,hyk⟩:=(EC.below HL.out HB.out).at k hlt;simp only[aP,Addr.mk.injEq,and_true] at he;obtain⟨rfl,rfl⟩:=he;have K1:Hid _:=hg;have H1:Hid _:=hcc;have HY:Hid _:=hyk;have ne1:=Al.ne wr;clear hg hcc hyk;by_cases hv:y.used<x.used
   ·have hd:decide (G0 y.used x.used<0)=true:=decide_eq_true ((PL _ _).2 hv);have HV:Hid _:=hv;clear hv;go_wp2_with fail;refine rL ?_
    iterate 4 (go_big_quiet_step (fail))
    refine Ov (E:=DD) D8 rfl _ rfl g (off+k*36) rfl cur ty fr (Ab y) (AK y) (Ai K1.out) H1.out ?_;simp only[pU];refine Ov (E:=DD) D8 rfl _ rfl (w.heap.size+1) 0 rfl _ _ _ (Ab x) (AK x) (Ai HM.out) (AA _ _) ?_;simp only[pU];go_big_quiet_want;go_big_quiet_op;refine⟨_,fun u=>Calls.later_of (EV.out y x u.world),?_⟩;go_big_quiet_on;go_big_quiet_step (fail);refine wpQuiet_nil ?_;rintro w' ⟨u,rfl⟩;have B1:Hid (Below wr.heap.size wr u.world):=u.below;have M1:Hid (u.world.heap[w.heap.size+1]?=some (.cells (Ab x) 75 (0,0))):=Ai HM.out _ ⟨u,rfl⟩;have K2:Hid (u.world.heap[g]?=some (.cells cur ty fr)):=Ai K1.out _ ⟨u,rfl⟩;go_wp2_with (first|((with_reducible refine Gs _ rfl ?_);refine Cw rfl _ rfl g (off+k*36) rfl y (Io K2.out H1.out) ?_)|((with_reducible refine Ex _ _ rfl ?_);refine BV rfl _ _ rfl (w.heap.size+1) y x rfl rfl M1.out _ rfl ?_));go_roundw
    case rel=>
     refine⟨k+1,k,y,by omega,by omega,by go_num,HY,OZ HF.out HJ.out HY.out rfl HV.out,setRow_heap _ _ _ _ _ _ M1.out,?_,?_⟩
     ·exact(setRow_other _ _ _ _ (by omega)).trans (Ai HZ.out _ ⟨u,rfl⟩)
     ·exact Ak (Bd HB.out HB.out.size B1.out) (by omega) _
    case measure=>simp[intOf];omega
   ·have hd:decide (G0 y.used x.used<0)=false:=decide_eq_false (fun h=>hv ((PL _ _).1 h));have HV:Hid _:=hv;clear hv;go_wp2_with fail;refine rL ?_
    iterate 4 (go_big_quiet_step (fail))
    refine Ov (E:=DD) D8 rfl _ rfl g (off+k*36) rfl cur ty fr (Ab y) (AK y) (Ai K1.out) H1.out ?_;simp only[pU];refine Ov (E:=DD) D8 rfl _ rfl (w.heap.size+1) 0 rfl _ _ _ (Ab x) (AK x) (Ai HM.out) (AA _ _) ?_;simp only[pU];go_big_quiet_want;go_big_quiet_op;refine⟨_,fun u=>Calls.later_of (EV.out y x u.world),?_⟩;go_big_quiet_on;go_big_quiet_step (fail);refine wpQuiet_nil ?_;rintro w' ⟨u,rfl⟩;go_wp2_with fail;go_roundw
    case rel=>exact⟨k+1,j,x,by omega,by omega,by go_num,HJ,O0 HF.out HJ.out HY.out (by have:=HV.out;omega),Ai HM.out _ ⟨u,rfl⟩,Ai HZ.out _ ⟨u,rfl⟩,Bd HB.out HB.out.size u.below⟩
    case measure=>simp[intOf];omega
  ·have hlt':¬(k:Int)<(n:Int):=by omega
   have HK:Hid (k=n):=by show _=_;omega
   go_wp2_with (first|((with_reducible refine Gs _ rfl ?_);refine Cw rfl _ rfl (w.heap.size+1) 0 rfl x (FJ HM.out) ?_)|((with_reducible refine Ex _ _ rfl ?_);refine BV rfl _ _ rfl w.heap.size x Av rfl rfl HZ.out _ rfl ?_));refine bodyPost_ret (v:=.agg (Ab x)) (results_cell_row rfl _ _ w.heap.size 75 (Ab x) (0,0) _ rfl (setRow_heap _ _ _ _ _ _ HZ.out) Tryz.underlying75 rfl (D8.cellsz _ (AK x))) rfl ?_;refine⟨?_,Ak HB.out (aB _) _⟩;have hF:=HF.out;rw[HK.out,HN.out] at hF;rcases Mp hF with ⟨e,_⟩ | ⟨i,z,e,_,hz,hls⟩
   ·omega
   ·obtain rfl:j=i:=by omega
    have hj:=HJ.out;rw[hz] at hj
    cases hj
    exact⟨_,rfl,_,_,Dx hls⟩
def FC(C:List Ae):Prop:=C.Pairwise fun x y=> ¬(x.epoch=y.epoch∧x.cube=y.cube)
theorem ZU{C A D:List Ae}{x:Ae}(h:C=A++x::D)(hd:FC C)(hok:∀y∈C,E6 y.cube):C.filter (fun y=> !(Je y x))=A++D∧C.filter (fun y=>Je y x)=[x]:=by
 subst h;unfold FC at hd;rw[List.pairwise_append] at hd;obtain⟨_,h2,h3⟩:=hd;rw[List.pairwise_cons] at h2;have hx:E6 x.cube:=hok x (by simp)
 have hA:∀y∈A,Je y x=false:=fun y hy=>by
  rcases Bool.eq_false_or_eq_true (Je y x) with e | e
  ·have:=(Um (hok y (by simp[hy])) hx).1 e;subst this;exact absurd ⟨rfl,rfl⟩ (h3 y hy y (by simp))
  ·exact e
 have hD:∀y∈D,Je y x=false:=fun y hy=>by
  rcases Bool.eq_false_or_eq_true (Je y x) with e | e
  ·have:=(Um (hok y (by simp[hy])) hx).1 e;subst this;exact absurd ⟨rfl,rfl⟩ (h2.1 y hy)
  ·exact e
 constructor
 ·rw[aH,bH,if_neg (by rw[Sy];simp),bB.2 (fun y hy=>by rw[hA y hy];rfl),bB.2 (fun y hy=>by rw[hD y hy];rfl)]
 ·rw[aH,bH,if_pos (Sy x),aX.2 (fun y hy=>by rw[hA y hy];simp),aX.2 (fun y hy=>by rw[hD y hy];simp)];rfl
def Cy(room:Nat)(C:List Ae):List Ae×Ae×Bool:=
 if C.length=room then match AD (fun _=>true) (·.used) C with
  | some (A,x,D)=>(A++D,x,true)
  | none=>(C,Av,true)
 else (C,Av,false)
theorem Se{room:Nat}{C:List Ae}{s:Ae}(hr:room≠0)(h:AD (Fk s) (fun _=>0) C=none):BO room C s=((Cy room C).1++[s],(Cy room C).2.1,(Cy room C).2.2,0):=by
 unfold BO Cy;rw[if_neg hr,h];simp only;by_cases hf:C.length=room
 ·rw[if_pos hf,if_pos hf]
  cases AD (fun _=>true) (·.used) C with
  | none=>rfl
  | some r=>rfl
 ·rw[if_neg hf,if_neg hf]
theorem MG{fn:Func}{R:Ending→World→Prop}{a:Act}{w:World}{p q:Tmp}(hr:fn.results=#[.cell p 75,.tmp q])(hd:a.defers=[])(g:Nat)(hp:a.tmps.getD p undef=.pointer (some ⟨g,0,none⟩))(x:Ae)
  (hg:w.heap[g]?=some (.cells (Ab x) 75 (0,0))) (u:Value) (hu:a.tmps.getD q undef=u) (h:R (.returned (.tuple #[.agg (Ab x),u])) w):bodyPost aA fn R .ret a w:=by
 refine bodyPost_ret (v:=.tuple #[.agg (Ab x),u]) ?_ hd h;rw[results_cell_tmp hr,hp,hu];simp[asAddr,FJ hg]
theorem Ck.loc{B:Nat}{w W w3 w4:World}{g:Nat}{R:Rm}{S S':Ay}{v1 v2 v3:Value}{Y:Nat→Prop}(h:BH B w g R S v1 v2 v3)(hb:Below w.heap.size w W)(ht:Ck B W w3 g R S' v1 v2 v3)(hk:Ao Y w3 w4)(hY:∀k,Y k→w.heap.size≤k∧k<W.heap.size):Ck B w w4 g R S' v1 v2 v3:=by
 obtain⟨u1,u2,u3,t1,t2,t3⟩:=ht;refine⟨u1,u2,u3,t1.kept hk fun k hk e=> ?_,(Ao.pre hb t2).trans hk fun k e=> .inr (hY k e).1,fun k hk=> ?_⟩
 ·have h1:=hY k e;rcases t3 k hk with e' | e'
  ·have:=(h.foot_in k e').2;omega
  ·omega
 ·rcases t3 k hk with e' | e'
  ·exact .inl e'
  ·exact .inr (bC hb.size e')
theorem Ck.block{B:Nat}{w W w3:World}{g:Nat}{R:Rm}{S S':Ay}{v1 v2 v3:Value}{q:Nat}{o:Obj}(h:BH B w g R S v1 v2 v3)(ht:Ck B W w3 g R S' v1 v2 v3)(hq:W.heap[q]?=some o)(hq2:w.heap.size≤q):w3.heap[q]?=some o:=by
 obtain⟨u1,u2,u3,t1,t2,t3⟩:=ht;exact t2.heap hq fun e=>by have:=(h.foot_in q e).2;omega
theorem Gh(w:World)(q:Nat)(cs:Array Value):Ao (Cj q) w (w.setRow q cs):=⟨rfl,rfl,rfl,by simp,fun j _ hj=>setRow_other _ _ j _ hj⟩
theorem XL(B:Nat)(w:World)(g:Nat)(R:Rm)(S:Ay)(v1 v2 v3:Value)(h:BH B w g R S v1 v2 v3)(hn:S.c.length≤1000000)(hr:R.cache≠0)(hd:FC S.c)(hok:∀y∈S.c,E6 y.cube):
  Calls aA 141 #[.pointer (some ⟨g,0,none⟩)] w fun e w'=>e=.returned (.tuple #[.agg (Ab (Cy R.cache S.c).2.1),.bool (Cy R.cache S.c).2.2])∧Ck B w w' g R {S with c:=(Cy R.cache S.c).1} v1 v2 v3:=by
 have HW:Hid (∀W,Below w.heap.size w W→BH B W g R S v1 v2 v3):=fun W hb=>h.below hb
 have FU:Hid (∀W,Below w.heap.size w W→Calls aA 111 #[.pointer (some ⟨g,0,none⟩),.int .i64 1] W fun e w'=>e=.returned (.bool (decide (S.c.length=R.cache)))∧Below W.heap.size W w'):=by
  intro W hb;exact Ss B W g R S v1 v2 v3 (h.below hb) 1 (by decide)
 have B0:Hid (Below w.heap.size w (w.alloc (.cells (Ab Av) 75))):=(Below.refl _ _).alloc (aB _) _;by_cases hf:S.c.length=R.cache
 ·have hne:S.c≠[]:=fun e=>hr (by rw[←hf,e];rfl)
  have MI:Hid (∀W,Below w.heap.size w W→Calls aA 151 #[v1,.func (.func 152) #[] #[]] W fun e w'=>(∃x A D,e=.returned (.agg (Ab x))∧Fa (fun _=>true) (·.used) S.c A x D)∧Below W.heap.size W w'):=by
   intro W hb;exact Acm S.c v1 W (h.below hb).o1.sl hn hne
  have DR:Hid (∀(x:Ae) (q:Nat) (W:World),Below w.heap.size w W→W.heap[q]?=some (.cells (Ab x) 75 (0,0))→w.heap.size≤q→Calls aA 68 #[.pointer (some ⟨g,0,none⟩),.int .i64 1,.func (.func 153) #[] #[.pointer (some ⟨q,0,none⟩)]] W fun e w'=> ∃u,e=.returned u∧Am W.heap.size w' u (S.c.filter fun y=>Je y x)∧Ck B W w' g R {S with c:=S.c.filter fun y=> !(Je y x)} v1 v2 v3):=by
   intro x q W hb hq hq2;refine SB B W g R S v1 v2 v3 (h.below hb) 1 (by decide) hn 153 #[.pointer (some ⟨q,0,none⟩)] (fun y=>Je y x) (fun vs W=>by have hf:=Tryz.func153;simp[go_sem]) (fun y W' hW'=> ?_);have hne:¬Bn v1 q:=fun e=>by have:=(h.o1.lt q e).2;omega
   exact Vy y x W' q (hW'.heap hq hne)
  have FIN:Hid (∀(x:Ae) (A D:List Ae) (w1 w2 w4:World),Fa (fun _=>true) (·.used) S.c A x D→Below w.heap.size w w1→Ck B w1 w2 g R {S with c:=S.c.filter fun y=> !(Je y x)} v1 v2 v3→w.heap.size<w1.heap.size→Ao (Cj w.heap.size) w2 w4→Cy R.cache S.c=(A++D,x,true)∧Ck B w w4 g R {S with c:=A++D} v1 v2 v3):=by
   intro x A D w1 w2 w4 hl hb ht hlt hk;have e1:Cy R.cache S.c=(A++D,x,true):=by unfold Cy;rw[if_pos hf,Ll.2 hl]
   refine⟨e1,?_⟩;rw[(ZU hl.1 hd hok).1] at ht;exact ht.loc h hb hk fun k e=>by unfold Cj at e;omega
  have KP:Hid (∀(x:Ae) (q:Nat) (w1 w2:World) (S':Ay),w1.heap[q]?=some (.cells (Ab x) 75 (0,0))→w.heap.size≤q→Ck B w1 w2 g R S' v1 v2 v3→w2.heap[q]?=some (.cells (Ab x) 75 (0,0))):=by
   intro x q w1 w2 S' hq hq2 ht;exact ht.block h hq hq2
  have c5:∀W,Below w.heap.size w W→W.cell? ⟨g,5,none⟩=some v1:=fun W hb=>(h.below hb).f.c5;have HD1:decide (S.c.length=R.cache)=true:=decide_eq_true hf;rw[HD1] at FU;clear h hd hok hf hne hr HD1 HW;have C5:Hid (∀W,Below w.heap.size w W→W.cell? ⟨g,5,none⟩=some v1):=c5;clear c5;go_enter Tryz.func141,Tryz.ntmps141;go_wp2_with (first|((with_reducible refine FW rfl ?_);refine C9 rfl rfl ?_;try rw[AI])|(go_at_call 111;refine(FU.out _ B0.out).mono ?_;rintro e w1 ⟨rfl,hb1⟩;have B1:Hid (Below w.heap.size w w1):=Bd B0.out B0.out.size hb1;have Z1:Hid (w1.heap[w.heap.size]?=some (.cells (Ab Av) 75 (0,0))):=(hb1.block _ (by simp)).trans (Ac _ _ _ rfl);have c5:=C5.out w1 B1.out;clear hb1));refine(MI.out w1 B1.out).mono ?_;rintro e w2 ⟨⟨x,A,D,rfl,hl⟩,hb2⟩;have HLE:Hid (Fa (fun _=>true) (·.used) S.c A x D):=hl;have B2:Hid (Below w.heap.size w w2):=Bd B1.out B1.out.size hb2;have Z2:Hid (w2.heap[w.heap.size]?=some (.cells (Ab Av) 75 (0,0))):=(hb2.block _ (gS Z1.out)).trans Z1.out;clear hb2 hl c5;have B3:Hid (Below w.heap.size w (w2.alloc (.cells (Ab x) 75))):=B2.out.alloc B2.out.size _;have Z3:Hid ((w2.alloc (.cells (Ab x) 75)).heap[w.heap.size]?=some (.cells (Ab Av) 75 (0,0))):=Af _ _ _ _ Z2.out
  have X3:Hid ((w2.alloc (.cells (Ab x) 75)).heap[w2.heap.size]?=some (.cells (Ab x) 75 (0,0))):=Ac _ _ _ rfl;have hdr:=DR.out x w2.heap.size _ B3.out X3.out B2.out.size;go_wp2_with (first|((with_reducible refine FW rfl ?_);refine C9 rfl rfl ?_;try rw[AI])|((with_reducible refine Ex _ _ rfl ?_);refine BV rfl _ _ rfl w2.heap.size x Av rfl rfl (Ac _ _ _ rfl) _ (BD _ _ _ _ _ rfl) ?_)|(go_at_call 68;refine hdr.mono ?_;rintro e w3 ⟨u,rfl,_,ht⟩;refine Dl ?_));unfold EZ;have X4:Hid (w3.heap[w2.heap.size]?=some (.cells (Ab x) 75 (0,0))):=KP.out x _ _ _ _ X3.out B2.out.size ht;have Z4:Hid (w3.heap[w.heap.size]?=some (.cells (Ab Av) 75 (0,0))):=KP.out Av _ _ _ _ Z3.out (aB _) ht;have F4:=FIN.out x A D _ w3 (w3.setRow w.heap.size (Ab x)) HLE.out B3.out ht (by have:=B2.out.size;simp;omega) (Gh _ _ _);have FE:Hid (Cy R.cache S.c=(A++D,x,true)):=F4.1;have FT:Hid (Ck B w (w3.setRow w.heap.size (Ab x)) g R {S with c:=A++D} v1 v2 v3):=F4.2;clear ht F4 hdr;go_wp2_with (first|((with_reducible refine Gs _ rfl ?_);refine Cw rfl _ rfl w2.heap.size 0 rfl x (FJ X4.out) ?_)|((with_reducible refine Ex _ _ rfl ?_);refine BV rfl _ _ rfl w.heap.size x Av rfl rfl Z4.out _ rfl ?_));refine MG (p:=2) (q:=3) rfl rfl w.heap.size rfl x (setRow_heap _ _ _ _ _ _ Z4.out) _ rfl ?_;rw[FE.out]
  exact⟨rfl,FT.out⟩
 ·have HD1:decide (S.c.length=R.cache)=false:=decide_eq_false hf;rw[HD1] at FU;have FE:Hid (Cy R.cache S.c=(S.c,Av,false)):=by show _=_;unfold Cy;rw[if_neg hf]
  have FT:Hid (∀w4,Below w.heap.size w w4→Ck B w w4 g R {S with c:=S.c} v1 v2 v3):=by
   intro w4 hb;exact⟨v1,v2,v3,h.below hb,Ao.of_below hb,fun k hk=> .inl hk⟩
  clear h hd hok hf hr HD1 HW;go_enter Tryz.func141,Tryz.ntmps141;go_wp2_with (first|((with_reducible refine FW rfl ?_);refine C9 rfl rfl ?_;try rw[AI])|(go_at_call 111;refine(FU.out _ B0.out).mono ?_;rintro e w1 ⟨rfl,hb1⟩;have B1:Hid (Below w.heap.size w w1):=Bd B0.out B0.out.size hb1;have Z1:Hid (w1.heap[w.heap.size]?=some (.cells (Ab Av) 75 (0,0))):=(hb1.block _ (by simp)).trans (Ac _ _ _ rfl);clear hb1;refine Dl ?_));unfold EZ;go_wp2_with (first|((with_reducible refine Rf rfl ?_);refine J8 rfl rfl ?_)|((with_reducible refine Ex _ _ rfl ?_);refine BV rfl _ _ rfl w.heap.size Av Av rfl rfl Z1.out _ rfl ?_));refine MG (p:=2) (q:=3) rfl rfl w.heap.size rfl Av (setRow_heap _ _ _ _ _ _ Z1.out) _ rfl ?_;rw[FE.out];exact⟨rfl,FT.out _ (Ak B1.out (aB _) _)⟩
end
section
open Go Go.Shelf Go.RowKit Go.Lib Go.Sort
/-- What the walks of the stable sort ask of a program: its bodies, and their types; an element has k cells. -/
structure Mx(P : Program)(k : Nat) : Prop where
  mixed : P.follows .mixedOrders = true
  f_swapRange : P.funcs[158]? = some Tryz.f158
  f_rotate : P.funcs[157]? = some Tryz.f157
  f_symMerge : P.funcs[156]? = some Tryz.f156
  f_insertionSort : P.funcs[155]? = some Tryz.f155
  f_stable : P.funcs[149]? = some Tryz.f149
  t0 : P.underlying 0 = some (TypeDesc.tuple #[])
  a0 :∀ w, (isAgg 0).run P w =.ok false w
  z0 :∀ w, (aL 0).run P w =.ok 1 w
  v0 :∀ w, (zeroValue 0).run P w =.ok (Value.tuple #[]) w
  t3 : P.underlying 3 = some (TypeDesc.int aY)
  a3 :∀ w, (isAgg 3).run P w =.ok false w
  z3 :∀ w, (aL 3).run P w =.ok 1 w
  v3 :∀ w, (zeroValue 3).run P w =.ok (Value.int aY 0) w
  t4 : P.underlying 4 = some (TypeDesc.bool)
  a4 :∀ w, (isAgg 4).run P w =.ok false w
  z4 :∀ w, (aL 4).run P w =.ok 1 w
  v4 :∀ w, (zeroValue 4).run P w =.ok (Value.bool false) w
  tS : P.underlying 40 = some (TypeDesc.slice 75)
  aS :∀ w, (isAgg 40).run P w =.ok false w
  zS :∀ w, (aL 40).run P w =.ok 1 w
  vS :∀ w, (zeroValue 40).run P w =.ok (Value.slice none 0 0) w
  tF : P.underlying 197 = some (TypeDesc.func #[75, 75] #[3] false)
  aF :∀ w, (isAgg 197).run P w =.ok false w
  zF :∀ w, (aL 197).run P w =.ok 1 w
  vF :∀ w, (zeroValue 197).run P w =.ok (Value.nilFunc) w
  tU : P.underlying 166 = some (TypeDesc.int bS)
  aU :∀ w, (isAgg 166).run P w =.ok false w
  zU :∀ w, (aL 166).run P w =.ok 1 w
  vU :∀ w, (zeroValue 166).run P w =.ok (Value.int bS 0) w
  aE :∀ w, (isAgg 75).run P w =.ok true w
  zE :∀ w, (aL 75).run P w =.ok k w
theorem stS : Mx aA 36 where
  mixed := by kernel_rfl
  f_swapRange := Tryz.func158
  f_rotate := Tryz.func157
  f_symMerge := Tryz.func156
  f_insertionSort := Tryz.func155
  f_stable := Tryz.func149
  t0 := Tryz.underlying0
  a0 := fun w => by kernel_rfl
  z0 := fun w => by kernel_rfl
  v0 := fun w => by kernel_rfl
  t3 := Tryz.underlying3
  a3 := fun w => by kernel_rfl
  z3 := fun w => by kernel_rfl
  v3 := fun w => by kernel_rfl
  t4 := Tryz.underlying4
  a4 := fun w => by kernel_rfl
  z4 := fun w => by kernel_rfl
  v4 := fun w => by kernel_rfl
  tS := Tryz.underlying40
  aS := fun w => by kernel_rfl
  zS := fun w => by kernel_rfl
  vS := fun w => by kernel_rfl
  tF := Tryz.underlying197
  aF := fun w => by kernel_rfl
  zF := fun w => by kernel_rfl
  vF := fun w => by kernel_rfl
  tU := Tryz.underlying166
  aU := fun w => by kernel_rfl
  zU := fun w => by kernel_rfl
  vU := fun w => by kernel_rfl
  aE := fun w => by kernel_rfl
  zE := fun w => by kernel_rfl
variable {α : Type} [Inhabited α]
set_option maxRecDepth 1000000 in
/-- slices.swapRangeCmpFunc: it exchanges and does not compare. -/
theorem K7{P : Program}{k : Nat}(L : Mx P k)(enc : α → List Value)(g : Nat)(cb : Array Value)(blk off cap a b n : Nat)(d0 d : Array α)(w0 w : World)
    (R : RowK enc k w0 blk off d0) (hs : d0.size = d.size) (S : SWK enc k w0 blk off d w) (hab : a+n ≤ b) (hb : b+n ≤ d.size) (hsz : d.size < 4611686018427387904) :
    Calls P 158 #[.slice (some ⟨blk, off, none⟩) d.size cap,.int .i64 a,.int .i64 b,.int .i64 n,.func (.func g) #[] cb] w fun e w' => e =.returned (.tuple #[]) ∧∃ d', d'.size = d.size ∧ SWK enc k w0 blk off d' w' ∧ As d' = Fp (As d) a b n := by
  have mixed := L.mixed
  have t0 := L.t0; have a0 := L.a0; have z0 := L.z0; have v0 := L.v0
  have t3 := L.t3; have a3 := L.a3; have z3 := L.z3; have v3 := L.v3
  have t4 := L.t4; have a4 := L.a4; have z4 := L.z4; have v4 := L.v4
  have tS := L.tS; have aS := L.aS; have zS := L.zS; have vS := L.vS
  have tF := L.tF; have aF := L.aF; have zF := L.zF; have vF := L.vF
  have aE := L.aE; have zE := L.zE
  have FG := L.f_swapRange
  have S0 : Aside (SWK enc k w0 blk off d w) := S
  clear S
  go_enter FG, Tryz.ntmps158
  go_wp2
  go_loopg [10] n (fun kx s10 wr => ∃ (i : Nat) (dk : Array α), s10 =.int .i64 i ∧ i ≤ n ∧ n-i ≤ kx ∧ dk.size = d.size ∧ Aside (SWK enc k w0 blk off dk wr) ∧ Hid (As dk = Fp (As d) a b i))
  case atStart => exact⟨0, d, rfl, Nat.zero_le _, aB _, rfl, S0, (Wo _ _ _).symm⟩
  case round =>
    clear S0
    obtain⟨i, dk, rfl, hin, hkx, hds, S1, HE⟩ := hrel
    by_cases hlt : i < n
    · have hltz : (i : Int) < (n : Int) := by omega
      go_wp2_with fail
      have ea44 : ((a : Int)+(i : Int)).toNat = a+i := by omega
      have pa44 : (0 : Int) ≤ (a : Int)+(i : Int) := by omega
      have ba44 : (a : Int)+(i : Int) < (d.size : Int) := by omega
      have ra44 : aY.wrap ((a : Int)+(i : Int)) = (a : Int)+(i : Int) := by rw[bI]; omega
      have ec44 : ((b : Int)+(i : Int)).toNat = b+i := by omega
      have pc44 : (0 : Int) ≤ (b : Int)+(i : Int) := by omega
      have bc44 : (b : Int)+(i : Int) < (d.size : Int) := by omega
      have rc44 : aY.wrap ((b : Int)+(i : Int)) = (b : Int)+(i : Int) := by rw[bI]; omega
      have S2 : Aside (SWK enc k w0 blk off (swp dk (a+i) (b+i)) ((wr.drew.setCells blk (off+(a+i)*k) (enc dk[b+i]!)).setCells blk (off+(b+i)*k) (enc dk[a+i]!))) := S1.out.swapped R (a+i) (b+i) (by omega) (by omega)
      have HE2 : Hid (As (swp dk (a+i) (b+i)) = Fp (As d) a b (i+1)) := by
        show _ = _
        rw[ME dk _ _ (by omega) (by omega), HE.out, Wp _ _ _ _ (by omega)]
      have l44a := S1.out.ld1 R (by omega) P (a+i) (by omega)
      have l44b := S1.out.ld1 R (by omega) P (b+i) (by omega)
      have s44a := S1.out.st1 R (by omega) P (a+i) (by omega) dk[b+i]!
      have s44b := S1.out.st2 R (by omega) P (a+i) (b+i) (by omega) (by omega) dk[b+i]! dk[a+i]!
      have n44a : (enc dk[a+i]!).length = k := R.hk _
      have n44b : (enc dk[b+i]!).length = k := R.hk _
      generalize enc dk[a+i]! = cI44 at S2 l44a s44b n44a
      generalize enc dk[b+i]! = cJ44 at S2 l44b s44a s44b n44b
      clear S1
      go_wp2_with fail
      go_big_region_o
      clear l44a l44b s44a s44b
      generalize (wr.drew.setCells blk (off+(a+i)*k) cJ44).setCells blk (off+(b+i)*k) cI44 = w2 at S2 ⊢
      go_wp2
      go_roundg (n-(i+1))
      case measure => omega
      case rel => exact⟨i+1, swp dk (a+i) (b+i), by go_num, by omega, aB _, by rw[size_swp]; exact hds, S2, HE2⟩
    · have hltz :¬ (i : Int) < (n : Int) := by omega
      obtain rfl : i = n := by omega
      go_wp2
      go_end0
      exact⟨rfl, dk, hds, S1.out, HE.out⟩
end
section
open Go Go.Shelf Go.RowKit Go.Lib Go.Sort
variable {α:Type} [Inhabited α]
set_option maxRecDepth 1000000 in
theorem Abv{P:Program}{k:Nat}(L:Mx P k)(enc:α→List Value)(g:Nat)(cb:Array Value)(blk off cap a m b:Nat)(d0 d:Array α)(w0 w:World)
  (R:RowK enc k w0 blk off d0) (hs:d0.size=d.size) (S:SWK enc k w0 blk off d w) (ham:a<m) (hmb:m<b) (hb:b≤d.size) (hsz:d.size<4611686018427387904):
  Calls P 157 #[.slice (some ⟨blk,off,none⟩) d.size cap,.int .i64 a,.int .i64 m,.int .i64 b,.func (.func g) #[] cb] w fun e w'=>e=.returned (.tuple #[])∧∃d',d'.size=d.size∧SWK enc k w0 blk off d' w'∧As d'=BK (As d) a m b:=by
 have mixed:=L.mixed;have t0:=L.t0;have a0:=L.a0;have z0:=L.z0;have v0:=L.v0
 have t3:=L.t3;have a3:=L.a3;have z3:=L.z3;have v3:=L.v3
 have t4:=L.t4;have a4:=L.a4;have z4:=L.z4;have v4:=L.v4
 have tS:=L.tS;have aS:=L.aS;have zS:=L.zS;have vS:=L.vS
 have tF:=L.tF;have aF:=L.aF;have zF:=L.zF;have vF:=L.vF
 have aE:=L.aE;have zE:=L.zE
 have FG:=L.f_rotate;have e158:∀args w,(callFunc 158 args).run P w=.ok (.enter 158 args) w:=enters_of L.f_swapRange (by kernel_rfl) rfl;have S0:Aside (SWK enc k w0 blk off d w):=S;clear S;have LL:Hid _:=L;clear L;go_enter FG,Tryz.ntmps157;go_wp2;go_loopg [10,11] (b-a) (fun kx s10 s11 wr=> ∃(i j:Nat) (dk:Array α),s10=.int .i64 i∧s11=.int .i64 j∧0<i∧0<j∧i≤m∧m+j≤b∧i+j≤kx∧dk.size=d.size∧Aside (SWK enc k w0 blk off dk wr)∧Hid (BK (As dk) (m-i) m (m+j)=BK (As d) a m b))
 case atStart=>exact⟨m-a,b-m,d,by rw[show((m-a:Nat):Int)=(m:Int)-(a:Int) by omega],by rw[show((b-m:Nat):Int)=(b:Int)-(m:Int) by omega],by omega,by omega,by omega,by omega,by omega,rfl,S0,by show _=_;rw[show m-(m-a)=a by omega,show m+(b-m)=b by omega]⟩
 case round=>
  clear S0;obtain⟨i,j,dk,rfl,rfl,hi0,hj0,him,hjb,hkx,hds,S1,HE⟩:=hrel;have em:((m-i:Nat):Int)=(m:Int)-(i:Int):=by omega
  by_cases hij:i=j
  ·subst hij;have hc:=K7 LL.out enc g cb blk off cap (m-i) m i d0 dk w0 wr R (by omega) S1.out (by omega) (by omega) (by omega);rw[em,hds] at hc;have HE2:Hid (∀d':Array α,As d'=Fp (As dk) (m-i) m i→As d'=BK (As d) a m b):=fun d' h=>by rw[h,Abx _ _ _ him,HE.out]
   clear S1 HE;go_wp2_with (go_at_fn 158;refine hc.mono ?_;rintro e w1 ⟨rfl,d',hd',S3,hE⟩);go_end0;exact⟨rfl,d',hd',S3,HE2.out d' hE⟩
  ·have hijz:¬(i:Int)=(j:Int):=by omega
   by_cases hlt:j<i
   ·have hltz:(j:Int)<(i:Int):=by omega
    have hc:=K7 LL.out enc g cb blk off cap (m-i) m j d0 dk w0 wr R (by omega) S1.out (by omega) (by omega) (by omega);rw[em,hds] at hc;have HE2:Hid (∀d':Array α,As d'=Fp (As dk) (m-i) m j→BK (As d') (m-(i-j)) m (m+j)=BK (As d) a m b):=fun d' h=>by rw[h,YA _ _ _ _ him hlt hj0,HE.out]
    clear S1 HE;go_wp2_with (go_at_fn 158;refine hc.mono ?_;rintro e w1 ⟨rfl,d',hd',S3,hE⟩);go_roundg (i-j+j)
    case measure=>omega
    case rel=>exact⟨i-j,j,d',by rw[show((i-j:Nat):Int)=(i:Int)-(j:Int) by omega],rfl,by omega,hj0,by omega,hjb,by omega,hd',S3,HE2.out d' hE⟩
   ·have hltz:¬(j:Int)<(i:Int):=by omega
    have hc:=K7 LL.out enc g cb blk off cap (m-i) (m+j-i) i d0 dk w0 wr R (by omega) S1.out (by omega) (by omega) (by omega);rw[em,show((m+j-i:Nat):Int)=(m:Int)+(j:Int)-(i:Int) by omega,hds] at hc;have HE2:Hid (∀d':Array α,As d'=Fp (As dk) (m-i) (m+j-i) i→BK (As d') (m-i) m (m+(j-i))=BK (As d) a m b):=fun d' h=>by rw[h,WD _ _ _ _ him (by omega) hi0,HE.out]
    clear S1 HE;go_wp2_with (go_at_fn 158;refine hc.mono ?_;rintro e w1 ⟨rfl,d',hd',S3,hE⟩);go_roundg (i+(j-i))
    case measure=>omega
    case rel=>exact⟨i,j-i,d',rfl,by rw[show((j-i:Nat):Int)=(j:Int)-(i:Int) by omega],hi0,by omega,him,by omega,by omega,hd',S3,HE2.out d' hE⟩
end
end Go.Proofs.YtbhkoipcpcoooabGreat
