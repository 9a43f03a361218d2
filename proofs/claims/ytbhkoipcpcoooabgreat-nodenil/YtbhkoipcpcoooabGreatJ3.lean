import Derived.Test.YtbhkoipcpcoooabGreatJ1
import Derived.Great.BuildSlice
import Derived.Laws.AppendOwn
import Derived.Laws.OwnMore
import Derived.Maps.AppendAt
import Derived.Test.YtbhkoipcpcoooabGreatProg
import Derived.Lib.Bytealg
import Derived.Lib.UnsafeStr
import Derived.Lib.BufferWrite
import Derived.Laws.MakeOwn
import Derived.OwnWalk
import Derived.Test.YtbhkoipcpcoooabGreatJ2
import Derived.OrdersHeld
import Derived.Laws.CopyRow
namespace Go.Proofs.YtbhkoipcpcoooabGreat
set_option maxRecDepth 20000
set_option maxHeartbeats 64000000
open Go
open Go.Proofs.Tryz renaming prog → aA, underlying23 → bP
open Go.Result renaming andThen_ok → aB, andThen → aJ
open Go.Sem renaming run_bind → aC, run_pure → aD
open Go.Region renaming wanted → aG, Mode → aW, ready → bD, noSelect → bE
open Go.Result.ok renaming injEq → aH
open _root_.Array renaming length_toList → aI, getElem?_append_right → aM, getElem?_append_left → aY, getElem?_eq_none → bF, toArray_toList → bJ, all_append → bW, replicate → cB
open Go.Instr renaming sureAddr → aK, loadAt → aL
open _root_.List renaming getElem?_eq_some_iff → aN, getElem?_eq_getElem → aO, take_succ_cons → aR, drop_succ_cons → aT, length_cons → bB, getElem?_take_of_lt → bC, take_zero → bH, drop_zero → bI, map_toArray → bU, all_eq_true → bX, length_map → cC, mem_range → cD
open Go.BigFrame renaming wpQuiet_want → aP
open _root_.Nat renaming zero_add → aQ, le_refl → aV, zero_le → bS
open Go.Value renaming int → aX, cells → bR
open Go.Oper renaming wp → aZ, quietAt → bA
open Go.Op renaming eqFields → bG, equalIn → bK
open _root_.Bool renaming not_eq_true' → bQ, and_eq_true → bY, or_eq_true → cA
section
open Go.RowKit
structure El where
 elem:TypeId
 slice:TypeId
 size:Nat
 bytes:Nat
 zero:Array Value
structure El.Ok(E:El):Prop where
 hs:aA.underlying E.slice=some (.slice E.elem)
 hu:∃d,aA.underlying E.elem=some d∧(match d with | .struct _ | .array _ _=>true | _=>false)=true
 hi:(aA.info? E.elem).map (fun i=>(i.zero,i.size,i.bytes))=some (some (.agg E.zero),E.size,E.bytes)
 hz:E.zero.size=E.size
 hp:0<E.size
 hb:E.bytes≤100000
 hn:E.size≤100000
theorem El.Ok.info{E:El}(H:E.Ok):∃i,aA.info? E.elem=some i∧i.zero=some (.agg E.zero)∧i.size=E.size∧i.bytes=E.bytes:=by
 have h1:=H.hi
 cases h:aA.info? E.elem with
 | none=>rw[h] at h1;simp at h1
 | some i=>
  rw[h] at h1;simp only[Option.map_some,Option.some.injEq,Prod.mk.injEq] at h1;exact⟨i,rfl,h1.1,h1.2.1,h1.2.2⟩
theorem El.Ok.cellsz{E:El}(H:E.Ok)(cs:Array Value)(hc:cs.size=E.size):(aA.info? E.elem).map (·.size)=some cs.size:=by
 obtain⟨i,h1,_,h2,_⟩:=H.info;rw[h1,Option.map_some,h2,hc]
def Mz(E:El)(cs:Array Value):Prop:=cs.size=E.size∧cs.all (·.oneCell')=true
theorem El.Ok.load{E:El}(H:E.Ok)(w:World)(g off:Nat)(cur:Array Value)(t:TypeId)(fr:Nat×Nat)(cs:Array Value)(hcs:cs.size=E.size)(hg:w.heap[g]?=some (.cells cur t fr))(hc:∀j,j<E.size→cur[off+j]?=cs[j]?):
  (loadVar E.elem ⟨g,off,none⟩).run aA w=.ok (.agg cs) w:=by
 have hl:(loadCells ⟨g,off,none⟩ cs.toList.length).run aA w=.ok cs.toList.toArray w:=
  run_loadCells_list (P:=aA) w ⟨g,off,none⟩ cs.toList (fun j v hv=>by
   have hadd:(⟨g,off,none⟩:Addr).add j=⟨g,off+j,none⟩:=by unfold Addr.add;split <;> simp_all
   have hj:j<E.size:=by
    have:=(aN.1 hv).1;rw[aI] at this;omega
   rw[hadd,cell_of_row w g (off+j) cur t fr hg,hc j hj];simpa using hv)
 obtain⟨i,hq,_,hs,_⟩:=H.info
 have hagg:(isAgg E.elem).run aA w=.ok true w:=by
  obtain⟨d,hd,hm⟩:=H.hu;unfold isAgg;rw[aC,run_underlying hd w];revert hm
  cases d <;> simp[go_sem]
 rw[aI,hcs,bJ] at hl;simp[loadVar,aC,hagg,sizeOf,typeInfo,hq,hs,hl]
theorem Fu{E:El}(H:E.Ok){ops:Array Oper}{rest:List Oper}{o:Oper}{a:Act}{w:World}{Q:Exit→Act→World→Prop}(hw:aG o (yielded ops a.tmps)=true)(x:Operand)(ho:o.op=.load E.elem x)
  (g off:Nat) (hx:a.eval x=.pointer (some ⟨g,off,none⟩)) (cur:Array Value) (t:TypeId) (fr:Nat×Nat) (cs:Array Value) (hcs:cs.size=E.size) (hg:w.heap[g]?=some (.cells cur t fr)) (hc:∀j,j<E.size→cur[off+j]?=cs[j]?)
  (h:wpList aA ops Q rest (a.put o.dst (.agg cs)) w):wpList aA ops Q (o::rest) a w:=by
 refine wpList_step fun K hK=> ?_;rw[if_pos hw];unfold aZ execOp;simp only[ho,hx,aL,aK,aC,aD,aB,H.load w g off cur t fr cs hcs hg hc];exact hK _ _ h
theorem AA(n:Nat)(cs:Array Value):∀j,j<n→cs[0+j]?=cs[j]?:=fun j _=>by rw[aQ]
theorem FM{E:El}(H:E.Ok){ops:Array Oper}{rest:List Oper}{o:Oper}{a:Act}{w:World}{Q:Exit→Act→World→Prop}(hgd:o.guard=none)(x y:Operand)(ho:o.op=.store E.elem x y)
  (g:Nat) (cs:Array Value) (hf:Mz E cs) (hx:a.eval x=.pointer (some ⟨g,0,none⟩)) (hy:a.eval y=.agg cs) (old:Array Value) (hg:w.heap[g]?=some (.cells old E.elem (0,0))) (hold:old.size=E.size)
  (w':World) (hw':w.setRow g cs=w')
  (h:wpList aA ops Q rest (a.put o.dst undef) w'):wpList aA ops Q (o::rest) a w:=
 wpList_store_row hgd E.elem x y ho g cs hx hy E.elem old hg (H.cellsz cs hf.1) (by rw[hf.1,hold]) hf.2 (by rw[hw'];exact h)
theorem Ov{E:El}(H:E.Ok){C:World→Prop}{ops:Array Oper}{Q:Act→Prop}{rest:List Oper}{o:Oper}{a:Act}(hw:aG o (yielded ops a.tmps)=true)(x:Operand)(ho:o.op=.load E.elem x)
  (g off:Nat) (hx:a.eval x=.pointer (some ⟨g,off,none⟩)) (cur:Array Value) (t:TypeId) (fr:Nat×Nat) (cs:Array Value) (hcs:cs.size=E.size) (hg:∀w',C w'→w'.heap[g]?=some (.cells cur t fr)) (hc:∀j,j<E.size→cur[off+j]?=cs[j]?)
  (h:wpQuiet aA ops C Q rest (a.put o.dst (.agg cs))):wpQuiet aA ops C Q (o::rest) a:=by
 refine aP hw fun K hK=>⟨.agg cs,fun w hC=> ?_,hK _ h⟩;unfold bA execOp;simp only[ho,hx,aL,aK,aC,aD,aB,H.load w g off cur t fr cs hcs (hg w hC) hc];exact⟨rfl,rfl⟩
def Bh{α:Type}(enc:α→Array Value)(C:List α):List Value:=C.flatMap fun c=>(enc c).toList
theorem Ja{α:Type}(enc:α→Array Value)(C D:List α):Bh enc (C++D)=Bh enc C++Bh enc D:=by simp[Bh]
theorem OW{α:Type}(enc:α→Array Value)(c:α):Bh enc [c]=(enc c).toList:=by simp[Bh]
theorem Fv{α:Type}(enc:α→Array Value)(c:α)(C:List α):Bh enc (c::C)=(enc c).toList++Bh enc C:=by simp[Bh]
theorem IS{α:Type}(enc:α→Array Value)(n:Nat):∀(C:List α),(∀c∈C,(enc c).size=n)→∀(i:Nat) (hi:i<C.length) (j:Nat),j<n→(Bh enc C)[n*i+j]?=(enc C[i])[j]?
 | [],_,i,hi,_,_=>absurd hi (by simp)
 | c::C,h,0,_,j,hj=>by
  have h1:=h c (by simp)
  rw[Fv,Nat.mul_zero,aQ,List.getElem?_append_left (by rw[aI,h1];exact hj)]
  simp
 | c::C,h,i+1,hi,j,hj=>by
  have h1:=h c (by simp)
  have ih:=IS enc n C (fun d hd=>h d (by simp[hd])) i (by simpa using hi) j hj
  rw[Fv,show n*(i+1)+j=n+(n*i+j) by rw[Nat.mul_add,Nat.mul_one];omega,List.getElem?_append_right (by rw[aI,h1];omega),aI,h1,Nat.add_sub_cancel_left]
  simpa using ih
theorem QF(off:Nat):∀(xs:List Value) (n:Nat) (cells:Array Value) (k:Nat),off+n+xs.length≤cells.size→
  ((xs.zipIdx n).foldl (fun cs (x:Value×Nat)=>cs.setIfInBounds (off+x.2) x.1) cells)[k]?=if off+n≤k∧k<off+n+xs.length then xs[k-(off+n)]? else cells[k]?
 | [],n,cells,k,_=>by
  simp only[List.zipIdx_nil,List.foldl_nil,List.length_nil,Nat.add_zero]
  rw[if_neg (by omega)]
 | x::xs,n,cells,k,h=>by
  simp only[bB] at h
  rw[List.zipIdx_cons,List.foldl_cons,QF off xs (n+1) _ k (by simp;omega)]
  simp only[bB]
  by_cases h1:off+(n+1)≤k∧k<off+(n+1)+xs.length
  ·rw[if_pos h1,if_pos (by omega),show k-(off+n)=(k-(off+(n+1)))+1 by omega,List.getElem?_cons_succ]
  ·rw[if_neg h1]
   by_cases h2:k=off+n
   ·subst h2
    rw[if_pos (by omega),Nat.sub_self,List.getElem?_cons_zero,Array.getElem?_setIfInBounds_self_of_lt (by omega)]
   ·rw[if_neg (by omega),Array.getElem?_setIfInBounds_ne (by omega)]
theorem QG(xs cells:Array Value)(h:xs.size=cells.size):xs.zipIdx.foldl (fun cs (x:Value×Nat)=>cs.setIfInBounds (0+x.2) x.1) cells=xs:=by
 have e:xs.zipIdx.foldl (fun cs (x:Value×Nat)=>cs.setIfInBounds (0+x.2) x.1) cells=(xs.toList.zipIdx 0).foldl (fun cs (x:Value×Nat)=>cs.setIfInBounds (0+x.2) x.1) cells:=by
  rw[←Array.foldl_toList];simp
 rw[e];apply Array.ext_getElem?;intro k;rw[QF 0 xs.toList 0 cells k (by simp;omega)];by_cases hk:k<xs.size
 ·rw[if_pos (by simp;omega)];simp
 ·rw[if_neg (by simp;omega),bF (by omega),bF (by omega)]
set_option maxRecDepth 20000 in
theorem IOx{E:El}(H:E.Ok){ops:Array Oper}{rest:List Oper}{o:Oper}{a:Act}{w:World}{Q:Exit→Act→World→Prop}(hg:o.guard=none)(x:Operand)(ho:o.op=.buildSlice E.slice 1 #[(0,x)])(cs:Array Value)(hcs:cs.size=E.size)(hx:a.eval x=.agg cs)
  (h:wpList aA ops Q rest (a.put o.dst (.slice (some ⟨w.heap.size,0,none⟩) 1 1)) (w.alloc (.cells cs E.elem))):wpList aA ops Q (o::rest) a w:=by
 obtain⟨ie,hie,hz,hs,_⟩:=H.info;refine wpList_buildSlice hg E.slice E.elem 1 _ ho cs ie (.agg E.zero) H.hs hie hz (by rw[hs];have:=H.hn;omega) (by rw[hs];have:=H.hp;omega) ?_ h;simp only[bU,List.map_cons,List.map_nil,hx,Instr.fill,hs,Nat.zero_mul,bR,hcs];rw[if_neg (by simp)];congr 1;exact QG _ _ (by rw[hcs];simp)
theorem H9{E:El}(H:E.Ok){α:Type}(enc:α→Array Value){ops:Array Oper}{rest:List Oper}{o:Oper}{a:Act}{w:World}{Q:Exit→Act→World→Prop}(hgd:o.guard=none)(s x:Operand)(ho:o.op=.call {callee:=.builtin .append,args:=#[s,x],argTypes:=#[E.slice,E.slice]})
  (base:Nat) (v:Value) (C:List α) (c:α) (hf:Mz E (enc c)) (hs:a.eval s=v) (hown:w.ownsRow base E.elem E.size v C.length (Bh enc C)) (g cap:Nat) (hx:a.eval x=.slice (some ⟨g,0,none⟩) 1 cap) (hg:w.heap[g]?=some (.cells (enc c) E.elem (0,0)))
  (hn:C.length≤1000000) (hbase:base≤w.heap.size)
  (h:∀v' w',w'.ownsRow base E.elem E.size v' (C++[c]).length (Bh enc (C++[c]))→w.grownBy w' v.ownBlock→(v'.ownBlock=v.ownBlock∨v'.ownBlock=some w.heap.size)→wpList aA ops Q rest (a.put o.dst v') w'):wpList aA ops Q (o::rest) a w:=by
 obtain⟨i0,hi,hz0,hz1,hz2⟩:=H.info;have hb:=H.hb;refine wpList_append_own_at _ hgd s x E.slice ho base E.elem i0 (.agg E.zero) E.size E.bytes H.hs hi hz0 hz1 hz2 (by simpa[bR] using H.hz) H.hp v _ _ hs hown ⟨g,0,none⟩ 1 cap (enc c).toList hx (by rw[aI,hf.1,Nat.one_mul]) (fun j y hy=> ?_) (fun u hu=> ?_) (by unfold maxLen;omega) ?_ hbase ?_
 ·have hadd:(⟨g,0,none⟩:Addr).add j=⟨g,j,none⟩:=by unfold Addr.add;split <;> simp_all
  rw[hadd,cell_of_row w g j _ _ _ hg, ←hy];simp
 ·exact(Array.all_eq_true_iff_forall_mem.1 hf.2) u (by simpa using hu)
 ·exact Nat.le_trans (Nat.mul_le_mul (show C.length+1≤1000001 by omega) hb) (by decide)
 ·intro v' w' h5 h6 _ h7;refine h v' w' ?_ h6 h7;rw[List.length_append,Ja,OW];exact h5
def EC{α:Type}(E:El)(enc:α→Array Value)(w:World)(v:Value)(C:List α):Prop:=
 ∃(o:Option Addr) (cap:Nat),v=.slice o C.length cap∧C.length≤cap∧cap≤maxLen∧∀(i:Nat) (hi:i<C.length),∃g off cur t fr,o=some ⟨g,off,none⟩∧w.heap[g]?=some (.cells cur t fr)∧∀j,j<E.size→cur[off+i*E.size+j]?=(enc C[i])[j]?
theorem EC.below{α:Type}{E:El}{enc:α→Array Value}{w w':World}{v:Value}{C:List α}(h:EC E enc w v C)(hb:Below w.heap.size w w'):EC E enc w' v C:=by
 obtain⟨o,cap,rfl,h1,h2,h3⟩:=h;refine⟨o,cap,rfl,h1,h2,fun i hi=> ?_⟩;obtain⟨g,off,cur,t,fr,h4,h5,h6⟩:=h3 i hi;exact⟨g,off,cur,t,fr,h4,(hb.block g (gS h5)).trans h5,h6⟩
theorem EC.slice{α:Type}{E:El}{enc:α→Array Value}{w:World}{v:Value}{C:List α}(h:EC E enc w v C):∃(o:Option Addr) (cap:Nat),v=.slice o C.length cap∧C.length≤cap∧cap≤maxLen:=by
 obtain⟨o,cap,h1,h2,h3,_⟩:=h;exact⟨o,cap,h1,h2,h3⟩
theorem EC.at{α:Type}{E:El}{enc:α→Array Value}{w:World}{o:Option Addr}{n cap:Nat}{C:List α}(h:EC E enc w (.slice o n cap) C)(k:Nat)(hk:k<n):
  ∃g off cur t fr,∃c:α,o=some ⟨g,off,none⟩∧w.heap[g]?=some (.cells cur t fr)∧(∀j,j<E.size→cur[off+k*E.size+j]?=(enc c)[j]?)∧C[k]?=some c:=by
 obtain⟨o',cap',h1,_,_,h3⟩:=h;simp only[Value.slice.injEq] at h1;obtain⟨rfl,rfl,rfl⟩:=h1;obtain⟨g,off,cur,t,fr,h4,h5,h6⟩:=h3 k hk;exact⟨g,off,cur,t,fr,C[k],h4,h5,h6,aO hk⟩
theorem OV{α:Type}{E:El}{enc:α→Array Value}{w:World}{B:Nat}{v:Value}{C:List α}(h:w.ownsRow B E.elem E.size v C.length (Bh enc C))(hC:∀c∈C,(enc c).size=E.size):EC E enc w v C:=by
 obtain⟨h1,⟨rfl,h2⟩ | ⟨g,cap,cur,rfl,hB,hcur,h5,h6,_,h4⟩⟩:=h
 ·exact⟨none,0,by rw[h2],by omega,bS _,fun i hi=>by omega⟩
 ·refine⟨_,cap,rfl,h5,h6,fun i hi=>⟨g,0,cur,_,_,rfl,hcur,fun j hj=> ?_⟩⟩
  have hlt:E.size*i+j<C.length*E.size:=by
   have:E.size*(i+1)≤E.size*C.length:=Nat.mul_le_mul_left _ hi;rw[Nat.mul_add,Nat.mul_one] at this;rw[Nat.mul_comm C.length];omega
  rw[←IS enc E.size C hC i hi j hj, ←h4,bC hlt,aQ,Nat.mul_comm];simp
theorem Lr{w:World}{B:Nat}{e:TypeId}{s:Nat}{v:Value}{n:Nat}{xs:List Value}(h:w.ownsRow B e s v n xs):∃o cap,v=.slice o n cap:=by
 obtain⟨_,⟨rfl,rfl⟩ | ⟨g,cap,cur,rfl,_⟩⟩:=h
 ·exact⟨none,0,rfl⟩
 ·exact⟨_,cap,rfl⟩
theorem Jk{w w':World}{B:Nat}{e:TypeId}{s:Nat}{v:Value}{n:Nat}{xs:List Value}(h:w.ownsRow B e s v n xs)(hb:Below w.heap.size w w'):w'.ownsRow B e s v n xs:=by
 obtain⟨h1,h2 | ⟨g,cap,cur,rfl,hB,hcur,h3⟩⟩:=h
 ·exact⟨h1,.inl h2⟩
 ·exact⟨h1,.inr ⟨g,cap,cur,rfl,hB,(hb.block g (gS hcur)).trans hcur,h3⟩⟩
theorem QE{w:World}{B B':Nat}{e:TypeId}{s:Nat}{v:Value}{n:Nat}{xs:List Value}(h:w.ownsRow B e s v n xs)(hB':B'≤B):w.ownsRow B' e s v n xs:=by
 obtain⟨h1,h2 | ⟨g',cap,cur,rfl,hB,h3⟩⟩:=h
 ·exact⟨h1,.inl h2⟩
 ·exact⟨h1,.inr ⟨g',cap,cur,rfl,by omega,h3⟩⟩
theorem Af1(s:ByteArray)(k:Nat)(hk:k<s.size):s.data.toList[k]?=some s[k]:=by
 rw[aO (by simpa using hk)];rfl
def AZ(p:Prop):Prop:=p
theorem Aw{p:Prop}(h:AZ p):p:=h
theorem Bu {P : Program} (w : World) {d : Nat} {xs ys : Array Value} {f : Field} {fs : List Field} {a b : Value} {r R : Bool} (hn : f.name ≠ "_") (ha : (part f.type xs f.offset).run P w = .ok a w) (hb : (part f.type ys f.offset).run P w = .ok b w)
  (he:(bK d f.type a b).run P w=.ok r w) (h:(bG d xs ys fs).run P w=.ok R w):(bG d xs ys (f::fs)).run P w=.ok (r&&R) w:=by
 simp only[bG,if_pos hn,aC,ha,hb,he,aB]
 cases r
 ·simp
 ·simpa using h
theorem Bi{P:Program}(w:World){t:TypeId}{xs:Array Value}{k:Nat}{v:Value}(ha:(isAgg t).run P w=.ok false w)(hx:xs[k]?=some v):(part t xs k).run P w=.ok v w:=by
 simp[part,ha,hx,aC]
theorem J9{w:World}{g k:Nat}{cs:Array Value}{t:TypeId}{fr:Nat×Nat}(h:w.heap[g]?=some (.cells cs t fr))(hf:fr=(0,0)):w.frozen? ⟨g,k,none⟩=false:=by
 subst hf;simp[World.frozen?,h]
structure AN where
 order:Int
 cube:List Int×List Int
 action:Int
def D0(r:AN):Prop:=Ax r.cube.1∧Ax r.cube.2
def AE(r:AN):Array Value:=#[.int .i64 r.order]++(cv r.cube.1 r.cube.2++#[.int .i64 r.action])
def Dh:El:=⟨174,155,28,48,#[.int .i64 0]++(Az++#[.int .i64 0])⟩
theorem Fg:Dh.Ok:=⟨Tryz.underlying155,⟨_,Tryz.underlying174,rfl⟩,by kernel_rfl,by decide,by decide,by decide,by decide⟩
theorem Ek{r:AN}(h:D0 r):(AE r).size=28:=by
 unfold AE;simp[AO _ _ h.1.1 h.2.1]
theorem GC{r:AN}(h:D0 r):Mz Dh (AE r):=by
 refine⟨Ek h,?_⟩;unfold AE;rw[bW,bW,FL];simp[Value.oneCell']
theorem JJ{V:List Int}(h:V.length=13):∃a b c d e f g i j k l m n,V=[a,b,c,d,e,f,g,i,j,k,l,m,n]:=by
 match V,h with
 | [a,b,c,d,e,f,g,i,j,k,l,m,n],_=>exact⟨a,b,c,d,e,f,g,i,j,k,l,m,n,rfl⟩
theorem Hv{r:AN}(h:D0 r):(AE r)[0]?=some (.int .i64 r.order)∧(∀j,j<26→(AE r)[1+j]?=(cv r.cube.1 r.cube.2)[j]?)∧(AE r)[27]?=some (.int .i64 r.action):=by
 have hs:=AO _ _ h.1.1 h.2.1;unfold AE;refine⟨?_,fun j hj=> ?_,?_⟩
 ·rw[aY (by simp)];rfl
 ·rw[aM (by simp),aY (by simp[hs];omega)];simp
 ·rw[aM (by simp),aM (by simp[hs])];simp[hs]
theorem PY:Dh.zero=AE ⟨0,(Z,Z),0⟩:=by
 unfold Dh AE;rw[←Hh]
set_option maxRecDepth 100000 in
theorem VF(n a:Int)(V M:List Int)(hV:V.length=13)(hM:M.length=13)(W:World):(Instr.build 174 #[(0,.int .i64 n),(1,.agg (cv V M)),(2,.int .i64 a)]).run aA W=.ok (.agg (AE ⟨n,(V,M),a⟩)) W:=by
 obtain⟨a0,a1,a2,a3,a4,a5,a6,a7,a8,a9,a10,a11,a12,rfl⟩:=JJ hV;obtain⟨b0,b1,b2,b3,b4,b5,b6,b7,b8,b9,b10,b11,b12,rfl⟩:=JJ hM;kernel_rfl
theorem Wd{ops:Array Oper}{rest:List Oper}{o:Oper}{a:Act}{w:World}{Q:Exit→Act→World→Prop}(hgd:o.guard=none)(x y z:Operand)(ho:o.op=.build 174 #[(0,x),(1,y),(2,z)])(n:Int)(V M:List Int)(c:Int)(hV:V.length=13)(hM:M.length=13)
  (hx:a.eval x=.int .i64 n) (hy:a.eval y=.agg (cv V M)) (hz:a.eval z=.int .i64 c) (h:wpList aA ops Q rest (a.put o.dst (.agg (AE ⟨n,(V,M),c⟩))) w):wpList aA ops Q (o::rest) a w:=by
 refine wpList_plain hgd fun _ hK=> ?_;unfold aZ execOp;simp only[ho,aC,bU,List.map_cons,List.map_nil,hx,hy,hz,VF n c V M hV hM,aB,aD];exact hK _ _ h
theorem Aex(V M V' M':List Int)(hV:V.length=13)(hM:M.length=13)(hV':V'.length=13)(hM':M'.length=13)(w:World):
  (bK 9999 25 (.agg (cv V M)) (.agg (cv V' M'))).run aA w=.ok (V==V'&&M==M') w:=by
 have eH:∀A B:List Int,A.length=13→B.length=13→∀w,(bK 9998 23 (.agg (hv A)) (.agg (hv B))).run aA w=.ok (A==B) w:=fun A B hA hB w=>by
  have z5:(sizeOf 5).run aA w=.ok 1 w:=by kernel_rfl
  rw[show(9998:Nat)=9997+1 from rfl,bK];simp only[aC,run_underlying bP,aB,z5];simp only[Std.Legacy.Range.forIn_eq_forIn_range',Std.Legacy.Range.size,Nat.sub_zero,Nat.add_sub_cancel,Nat.div_one];rw[←Mw A B hA hB];exact Ri 9996 A B hA hB w _ rfl rfl (List.range' 0 13) (fun i hi=>by simp at hi;omega)
 rw [show (9999 : Nat) = 9998 + 1 from rfl, run_equalIn_struct w 9998 25 _ _ (by kernel_rfl) (by kernel_rfl)]; rw [show (aA.fieldsOf 25).toList = [{ name := "Value", type := 23, offset := 0, embedded := false, tag := "", pkgPath := "", byteOffset := 0 }, { name := "Mask", type := 23, offset := 13, embedded := false, tag := "", pkgPath := "", byteOffset := 13 }] from by kernel_rfl]; simp only [bG, ne_eq, String.reduceEq, not_false_eq_true, if_true, aC]; simp only [GD V M hV, GD V' M' hV', aB, eH V V' hV hV']
 cases hA:(V==V')
 ·simp
 ·simp only[Bool.not_true,Bool.false_eq_true,if_false,aC,FN V M hV hM,FN V' M' hV' hM',aB,eH M M' hM hM']
  cases hB:(M==M') <;> simp
theorem egR(op:BinOp)(x y:Operand)(xs ys:Array Value)(w:World):(eqGuard op 174 x y (.agg xs) (.agg ys)).run aA w=.ok () w:=
 run_eqGuard_agg w op 174 x y xs ys (by kernel_rfl)
theorem SG{w:World}{g off:Nat}{cur:Array Value}{t:TypeId}{fr:Nat×Nat}{V M:List Int}(hV:V.length=13)(hM:M.length=13)(hg:w.heap[g]?=some (.cells cur t fr))(hc:∀j,j<26→cur[off+j]?=(cv V M)[j]?):
  (loadVar 25 ⟨g,off,none⟩).run aA w=.ok (.agg (cv V M)) w:=by
 have hl:(loadCells ⟨g,off,none⟩ (cv V M).toList.length).run aA w=.ok (cv V M).toList.toArray w:=
  run_loadCells_list (P:=aA) w ⟨g,off,none⟩ (cv V M).toList (fun j v hv=>by
   have hadd:(⟨g,off,none⟩:Addr).add j=⟨g,off+j,none⟩:=by unfold Addr.add;split <;> simp_all
   have hj:j<26:=by
    have:=(aN.1 hv).1;rw[aI,AO V M hV hM] at this;omega
   rw[hadd,cell_of_row w g (off+j) cur t fr hg,hc j hj];simpa using hv)
 have hz:∀w,(sizeOf 25).run aA w=.ok 26 w:=fun w=>by kernel_rfl
 have ha:∀w,(isAgg 25).run aA w=.ok true w:=fun w=>by kernel_rfl
 rw[aI,AO V M hV hM,bJ] at hl;simp[loadVar,aC,ha,hz,hl]
theorem LR{ops:Array Oper}{rest:List Oper}{o:Oper}{a:Act}{w:World}{Q:Exit→Act→World→Prop}(hw:aG o (yielded ops a.tmps)=true)(x:Operand)(ho:o.op=.load 25 x)
  (g off:Nat) (hx:a.eval x=.pointer (some ⟨g,off,none⟩)) (cur:Array Value) (t:TypeId) (fr:Nat×Nat) (V M:List Int) (hV:V.length=13) (hM:M.length=13) (hg:w.heap[g]?=some (.cells cur t fr)) (hc:∀j,j<26→cur[off+j]?=(cv V M)[j]?)
  (h:wpList aA ops Q rest (a.put o.dst (.agg (cv V M))) w):wpList aA ops Q (o::rest) a w:=by
 refine wpList_step fun K hK=> ?_;rw[if_pos hw];unfold aZ execOp;simp only[ho,hx,aL,aK,aC,aD,aB,SG hV hM hg hc];exact hK _ _ h
theorem US{K:World→Prop}{ops:Array Oper}{Q:Act→Prop}{rest:List Oper}{o:Oper}{a:Act}(hw:aG o (yielded ops a.tmps)=true)(x:Operand)(ho:o.op=.load 25 x)
  (g off:Nat) (hx:a.eval x=.pointer (some ⟨g,off,none⟩)) (cur:Array Value) (t:TypeId) (fr:Nat×Nat) (V M:List Int) (hV:V.length=13) (hM:M.length=13) (hg:∀w',K w'→w'.heap[g]?=some (.cells cur t fr)) (hc:∀j,j<26→cur[off+j]?=(cv V M)[j]?)
  (h:wpQuiet aA ops K Q rest (a.put o.dst (.agg (cv V M)))):wpQuiet aA ops K Q (o::rest) a:=by
 refine aP hw fun K' hK=>⟨.agg (cv V M),fun w hC=> ?_,hK _ h⟩;unfold bA execOp;simp only[ho,hx,aL,aK,aC,aD,aB,SG hV hM (hg w hC) hc];exact⟨rfl,rfl⟩
def has(V M H:List Int):Bool:=(List.range 104).all fun i=> !(bt M i) || (bt V i==bt H i)
theorem Ju(V M H:List Int):has V M H=true↔ ∀i,i<104→bt M i=true→bt V i=bt H i:=by
 unfold has;simp only[bX,cD,cA,bQ,beq_iff_eq];constructor
 ·intro h i hi hm;rcases h i hi with h' | h'
  ·rw[h'] at hm;cases hm
  ·exact h'
 ·intro h i hi
  cases hm:bt M i
  ·exact .inl rfl
  ·exact .inr (h i hi hm)
theorem Sp(v h m:Int)(hv:0≤v∧v<256)(hh:0≤h∧h<256)(hm:0≤m∧m<256):bits .and .u8 (bits .xor .u8 v h) m=0↔ ∀j,j<8→yb m j=true→yb v j=yb h j:=by
 rw[PZ _ (EB _ _ _)];constructor
 ·intro g j hj hmj;have:=g j hj;rw[J0 _ _ (EB _ _ _) hm,NU _ _ hv hh,hmj] at this;simpa using this
 ·intro g j hj;rw[J0 _ _ (EB _ _ _) hm,NU _ _ hv hh]
  cases hmj:yb m j
  ·simp
  ·rw[g j hj hmj];simp
theorem Ad7(V M H:List Int)(hV:Ax V)(hM:Ax M)(hH:Ax H)(h:∀k,k<13→bits .and .u8 (bits .xor .u8 (V.getD k 0) (H.getD k 0)) (M.getD k 0)=0):has V M H=true:=
 (Ju V M H).2 fun i hi hm=>(Sp _ _ _ (hV.2 _) (hH.2 _) (hM.2 _)).1 (h (i/8) (by omega)) (i%8) (by omega) hm
theorem Ad6(V M H:List Int)(hV:Ax V)(hM:Ax M)(hH:Ax H)(k:Nat)(hk:k<13)(h:bits .and .u8 (bits .xor .u8 (V.getD k 0) (H.getD k 0)) (M.getD k 0)≠0):has V M H=false:=by
 cases e:has V M H
 ·rfl
 ·refine absurd ((Sp _ _ _ (hV.2 _) (hH.2 _) (hM.2 _)).2 fun j hj hm=> ?_) h;have:=(Ju V M H).1 e (8*k+j) (by omega);unfold bt at this;rw[show(8*k+j)/8=k by omega,show(8*k+j)%8=j by omega] at this;exact this hm
theorem Uj(V M H:List Int)(hV:Ax V)(hM:Ax M)(hH:Ax H)(w:World):
  Calls aA 122 #[.agg (cv V M),.agg (hv H)] w fun e w'=>e=.returned (.bool (has V M H))∧Below w.heap.size w w':=by
 have hVl:=hV.1;have hMl:=hM.1;have hHl:=hH.1;have HV:Hid _:=hV;have HM:Hid _:=hM;have HH:Hid _:=hH;clear hV hM hH;go_enter Tryz.func122,Tryz.ntmps122;go_wp2;go_loopw [6] (fun i wr=> ∃k:Nat,k≤13∧i=.int .i64 k∧(∀j,j<k→bits .and .u8 (bits .xor .u8 (V.getD j 0) (H.getD j 0)) (M.getD j 0)=0)∧wr.heap[w.heap.size]?=some (.cells (cv V M) 25 (0,0))∧wr.heap[w.heap.size+1]?=some (.cells (hv H) 23 (0,0))∧Below w.heap.size w wr) (fun i _=>13-(intOf i).toNat)
 case atStart=>exact⟨0,bS _,rfl,fun j hj=>by omega,Af _ _ _ _ (Ac _ _ _ rfl),Ac _ _ _ (by simp),((Below.refl _ _).alloc (aV _) _).alloc (by simp) _⟩
 case round=>
  obtain⟨k,hk,rfl,hUj,g0,g1,hb⟩:=hrel;by_cases hlt:k<13
  ·obtain⟨x,hx,hxe⟩:∃x,(cv V M)[k]?=some (.int .u8 x)∧x=V.getD k 0:=⟨_,IU V M hVl k hlt,rfl⟩;obtain⟨y,hy,hye⟩:∃y,(cv V M)[13+k]?=some (.int .u8 y)∧y=M.getD k 0:=⟨_,Gj V M hVl hMl k hlt,rfl⟩;obtain⟨z,hz,hze⟩:∃z,(hv H)[k]?=some (.int .u8 z)∧z=H.getD k 0:=⟨_,IL H hHl k hlt,rfl⟩;have hx0:=F5 g0 hx;have hy0:=F5 g0 hy;have hz0:=F5 g1 hz;have HUJ:Hid _:=hUj;have HX:Hid _:=hxe;have HY:Hid _:=hye;have HZ:Hid _:=hze;have ne1:=Al.ne wr;clear hUj hxe hye hx hy hz hze;by_cases hc:bits .and .u8 (bits .xor .u8 x z) y=0
   ·have HC:Hid _:=hc;have hne:(bits .and .u8 (bits .xor .u8 x z) y !=0)=false:=by simp[hc]
    clear hc;go_wp2_with fail;refine rL ?_
    repeat go_big_quiet_step (fail)
    refine wpQuiet_nil ?_;rintro w' ⟨u,rfl⟩;go_wp2_with fail;go_roundw
    case rel=>
     refine⟨k+1,by omega,by go_num,fun j hj=> ?_,Ai g0 _ ⟨u,rfl⟩,Ai g1 _ ⟨u,rfl⟩,hb.trans (u.below.mono hb.size)⟩;by_cases e:j=k
     ·subst e;rw[←HX.out, ←HY.out, ←HZ.out];exact HC.out
     ·exact HUJ.out j (by omega)
    case measure=>simp[intOf];omega
   ·have HC:Hid _:=hc;have hne:(bits .and .u8 (bits .xor .u8 x z) y !=0)=true:=by simp[hc]
    clear hc;go_wp2_with fail;refine rL ?_
    repeat go_big_quiet_step (fail)
    refine wpQuiet_nil ?_;rintro w' ⟨u,rfl⟩;go_wp2_with fail;go_ret;refine⟨Ef ?_,hb.trans (u.below.mono hb.size)⟩;have hn:=HC.out;rw[HX.out,HY.out,HZ.out] at hn;rw[Ad6 V M H HV.out HM.out HH.out k hlt hn]
  ·obtain rfl:k=13:=by omega
   have HUJ:Hid _:=hUj;clear hUj;go_wp2_with fail;go_ret;exact⟨Ef (Ad7 V M H HV.out HM.out HH.out HUJ.out).symm,hb⟩
def Ip(o:Oper):Bool:=
 match o.op with
 | .move _ | .load _ _ | .binOp _ _ _ _ _ | .indexAddr _ _ _ | .extract _ _ | .assign _ | .fieldAddr _ _ _ | .slice _ _ _ _ _ | .nilCheck _=>true
 | _=>false
theorem UP{P:Program}{ρ:Operand→Value}{o:Oper}(h:Ip o=true)(w:World)(nx:Next)(w':World)(hr:(execOp ρ o).run P w=.ok nx w'):∃u,nx=.value u:=by
 unfold Ip at h;unfold execOp at hr;split at h
 ·rename_i x e;simp only[e,aD,aH] at hr;exact⟨_,hr.1.symm⟩
 ·rename_i t x e;simp only[e,aC,aD] at hr;revert hr;generalize (aL t (ρ x)).run P w=r;intro hr
  cases r with
  | ok a w1=>simp only[aB,aH] at hr;exact⟨_,hr.1.symm⟩
  | halt x w1=>simp[aJ] at hr
 ·rename_i op t x y z e;simp only[e,aC,aD] at hr;revert hr;generalize ((eqGuard op t x y (ρ x) (ρ y)).run P w).andThen (fun _ w'=>(binOp op t (ρ x) (ρ y)).run P w')=r;intro hr
  cases r with
  | ok a w1=>simp only[aB,aH] at hr;exact⟨_,hr.1.symm⟩
  | halt x w1=>simp[aJ] at hr
 ·rename_i t x y e;simp only[e,aC,aD] at hr;revert hr;generalize (Instr.indexAt t (ρ x) (ρ y)).run P w=r;intro hr
  cases r with
  | ok a w1=>simp only[aB,aH] at hr;exact⟨_,hr.1.symm⟩
  | halt x w1=>simp[aJ] at hr
 ·rename_i x i e;simp only[e,aC,aD] at hr;revert hr;generalize (Instr.extract (ρ x) i).run P w=r;intro hr
  cases r with
  | ok a w1=>simp only[aB,aH] at hr;exact⟨_,hr.1.symm⟩
  | halt x w1=>simp[aJ] at hr
 ·rename_i x e;simp only[e,aD,aH] at hr;exact⟨_,hr.1.symm⟩
 ·rename_i t x i e;simp only[e,aC,aD] at hr;revert hr;generalize (Instr.fieldAt t (ρ x) i).run P w=r;intro hr
  cases r with
  | ok a w1=>simp only[aB,aH] at hr;exact⟨_,hr.1.symm⟩
  | halt x w1=>simp[aJ] at hr
 ·rename_i t x lo hi mx e;simp only[e,aC,aD] at hr;revert hr;generalize (Instr.sliceAt t (ρ x) (lo.map ρ) (hi.map ρ) (mx.map ρ)).run P w=r;intro hr
  cases r with
  | ok a w1=>simp only[aB,aH] at hr;exact⟨_,hr.1.symm⟩
  | halt x w1=>simp[aJ] at hr
 ·rename_i x e;simp only[e] at hr;split at hr
  case h_4=>
   split at hr
   case h_2=>
    rename_i nm cap0 q t0 w0 _;simp only[aC] at hr;revert hr;generalize (program.run P w:Result Program)=r0;intro hr
    cases r0 with
    | halt x w1=>simp[aJ] at hr
    | ok a w1=>
     rw[aB] at hr;revert hr;generalize (nilAhead (a.types.size+Made.depth) t0 w0 _).run P w1=r1;intro hr
     cases r1 with
     | halt x w2=>simp[aJ] at hr
     | ok b w2=>
      rw[aB] at hr;split at hr
      ·simp[unsupported,go_sem] at hr
      ·simp only[aD,aH] at hr;exact⟨_,hr.1.symm⟩
   all_goals first
    | (simp only[aD,aH] at hr;exact⟨_,hr.1.symm⟩)
    | (simp[runtimePanic,go_sem] at hr;done)
  all_goals first
   | (simp only[aD,aH] at hr;exact⟨_,hr.1.symm⟩)
   | (simp[runtimePanic,go_sem] at hr;done)
 ·cases h
theorem KD{P:Program}{ops:Array Oper}{S:World→Prop}{o:Oper}{v:Value}{a:Act}(h:Ip o=true)(hy:YieldsIn P ops S o v a):YieldsIf P ops S o v a:=by
 rcases hy with ⟨hw,hv⟩ | hn
 ·refine .inl ⟨hw,fun w hS=> ?_⟩;have hq:=hv w hS;unfold bA at hq
  cases hr:(execOp a.eval o).run P w with
  | ok nx w'=>
   obtain⟨u,rfl⟩:=UP h w nx w' hr;rw[hr] at hq;obtain⟨rfl,rfl⟩:=hq;rfl
  | halt x w'=>rw[hr] at hq;exact hq.elim
 ·exact .inr hn
def JQ(md:aW)(ops:Array Oper):Nat→Nat→Array Bool→Bool
 | 0,_,_=>true
 | f+1,k,listed=>(bD md ops listed).contains k&&Region.free md ops listed k&&JQ md ops f (k+1) (listed.setIfInBounds k true)
def GR:Nat→Nat→Array Bool→Array Bool
 | 0,_,l=>l
 | f+1,k,l=>GR f (k+1) (l.setIfInBounds k true)
theorem Oo{P:Program}{md:aW}{ops:Array Oper}{Q:Exit→Act→World→Prop}{S:World→Prop}{g:Nat}(hs:bE ops=true)(hQ:∀d v c a w,Q (.panic c) (Act.put a d v) w→Q (.panic c) a w)(w:World)(hS:S w):
  ∀(l:List Oper) (k:Nat) (listed:Array Bool) (a:Act),(∀j,j<l.length→l[j]?=ops[k+j]?)→JQ md ops l.length k listed=true→l.all Ip=true→
   wpQuiet P ops S (fun a'=>wpAnyH P md ops Q S g (GR l.length k listed) a' w) l a→wpAnyH P md ops Q S (l.length+g) listed a w
 | [],_,_,_,_,_,_,h=>by simpa[wpQuiet,GR] using h
 | o::l,k,listed,a,hl,hB,hr,h=>by
  have h0:ops[k]?=some o:=by simpa using(hl 0 (by simp)).symm
  simp only[bB,JQ,bY] at hB
  simp only[List.all_cons,bY] at hr
  have hst:qOp P ops S k (wpQuiet P ops S (fun a'=>wpAnyH P md ops Q S g (GR (o::l).length k listed) a' w) l) a:=by
   unfold qOp;simp only[h0];exact h
  obtain⟨v,hy,hK⟩:=yieldsIn_of_qOp h0 hst
  have ih:=Oo hs hQ w hS l (k+1) (listed.setIfInBounds k true) (a.put o.dst v) (fun j hj=>by
   have:=hl (j+1) (by simp;omega);simpa[Nat.add_assoc,Nat.add_comm 1 j] using this) hB.2 hr.2 hK
  rw[show(o::l).length+g=(l.length+g)+1 by simp;omega];exact wpAnyH_take h0 hs hB.1.2 hB.1.1 (fun c a w=>hQ o.dst v c a w) (KD hr.1 hy) hS ih
theorem JH{P:Program}{id:Nat}{Q:Exit→Act→World→Prop}{a:Act}{w:World}{lo:List Oper}(n:Nat)(hn:lo.length=n)(hm:P.follows .mixedOrders=true)
  (h:wpAnyH P .any lo.toArray Q (fun w'=> ∃u:Al w,w'=u.world) n (cB n false) a w.drew):(Code.region id lo.toArray true).wp P Q a w:=by
 refine wp_region_held (S:=fun w'=> ∃u:Al w,w'=u.world) hm ?_;rw[show lo.toArray.size=n by simpa using hn];exact h
theorem BJ{P:Program}{id:Nat}{Q:Exit→Act→World→Prop}{a:Act}{w:World}{lo:List Oper}(S:World→Prop)(n:Nat)(hn:lo.length=n)(hm:P.follows .mixedOrders=true)
  (h:wpAnyH P .any lo.toArray Q S n (cB n false) a w.drew):(Code.region id lo.toArray true).wp P Q a w:=by
 refine wp_region_held (S:=S) hm ?_;rw[show lo.toArray.size=n by simpa using hn];exact h
theorem AJ{P:Program}{Q:Exit→Act→World→Prop}{S:World→Prop}{a:Act}{w:World}{lo:List Oper}{listed:Array Bool}(k n g:Nat)(hl:((lo.drop k).take n).length=n)(hs:bE lo.toArray=true)
  (hB:JQ .any lo.toArray n k listed=true) (hr:((lo.drop k).take n).all Ip=true) (hQ:∀d v c a w,Q (.panic c) (Act.put a d v) w→Q (.panic c) a w) (hS:S w)
  (h:wpQuiet P lo.toArray S (fun a'=>wpAnyH P .any lo.toArray Q S g (GR n k listed) a' w) ((lo.drop k).take n) a):wpAnyH P .any lo.toArray Q S (n+g) listed a w:=by
 have:=Oo (P:=P) (md:=.any) (Q:=Q) (g:=g) hs hQ w hS ((lo.drop k).take n) k listed a (fun j hj=>by
  rw[hl] at hj;rw[bC hj,List.getElem?_drop];simp) (by rw[hl];exact hB) hr (by rw[hl];exact h)
 rwa [hl] at this
theorem En{P:Program}{c:Code}{Q:Exit→Act→World→Prop}{a:Act}{w:World}(F:Act→Act→World→Prop)(h1:c.wp P (fun e a' w'=>e=.normal∧F a a' w') a w)(h2:∀a' w',F a a' w'→Q .normal a' w'):c.wp P Q a w:=
 Code.wp_mono (by rintro e a' w' ⟨rfl,h⟩;exact h2 a' w' h) h1
theorem Gf{P:Program}{ops:Array Oper}{Q:Exit→Act→World→Prop}{i:Nat}{o:Oper}{K:Act→World→Prop}{a:Act}{w:World}(hi:ops[i]?=some o)(hw:aG o (yielded ops a.tmps)=true)(h:o.wp P a w K Q):wpOp P ops Q i K a w:=by
 unfold Go.wpOp;simp only[hi,hw,if_true];exact .inl h
theorem Bp{ops:Array Oper}{Q:Exit→Act→World→Prop}{i:Nat}{o:Oper}{K:Act→World→Prop}{a:Act}{w:World}(hi:ops[i]?=some o)(hw:aG o (yielded ops a.tmps)=true)(f:FuncId)(xs:Array Operand)
  (hf:∀(b:Act) (w:World),(execOp b.eval o).run aA w=.ok (.enter f (xs.map b.eval)) w) (vs:Array Value) (hvs:xs.toList.map a.eval=vs.toList)
  (D:Value→World→Prop) (h:Calls aA f vs w fun e w'=> ∃v,e=.returned v∧D v w') (d:Option Tmp) (hd:o.dst=d) (hK:∀v w',D v w'→K (a.put d v) w'):wpOp aA ops Q i K a w:=by
 subst hd;refine Gf hi hw ?_;unfold aZ;rw[hf a w,show xs.map a.eval=vs from Array.ext' (by rw[Array.toList_map];exact hvs)];refine h.mono ?_;rintro e w' ⟨v,rfl,hc⟩;exact hK v w' hc
theorem S8{ops:Array Oper}{Q:Exit→Act→World→Prop}{i:Nat}{o:Oper}{K:Act→World→Prop}{a:Act}{w:World}(hi:ops[i]?=some o)(hw:aG o (yielded ops a.tmps)=true)(x y:Operand)(ho:o.op=.store 25 x y)
  (g:Nat) (V M:List Int) (hx:a.eval x=.pointer (some ⟨g,0,none⟩)) (hy:a.eval y=.agg (cv V M)) (old:Array Value) (hg:w.heap[g]?=some (.cells old 25 (0,0))) (hold:old.size=26) (hV:V.length=13) (hM:M.length=13) (d:Option Tmp) (hd:o.dst=d)
  (hK:K (a.put d undef) (w.setRow g (cv V M))):wpOp aA ops Q i K a w:=by
 subst hd;exact Gf hi hw (wp_store_row 25 x y ho g (cv V M) hx hy 25 old hg (Ka V M hV hM) (by rw[AO V M hV hM,hold]) (FL V M) hK)
theorem Kt{P:Program}{ops:Array Oper}{Q:Exit→Act→World→Prop}{i:Nat}{o:Oper}{K:Act→World→Prop}{a:Act}{w:World}(hi:ops[i]?=some o)(hw:aG o (yielded ops a.tmps)=true)(x:Operand)(ho:o.op=.assign x)(v:Value)(hx:a.eval x=v)(d:Option Tmp)(hd:o.dst=d)
  (hK:K (a.put d v) w):wpOp P ops Q i K a w:=by
 subst hd hx;refine Gf hi hw ?_;unfold aZ execOp;simp only[ho,aD];exact hK
theorem rD{P:Program}{md:aW}{ops:Array Oper}{Q:Exit→Act→World→Prop}{S:World→Prop}{listed:Array Bool}{a:Act}{w:World}{g:Nat}(h:Q .normal a w)(hr:bD md ops listed=[]:=by kernel_rfl):wpAnyH P md ops Q S g listed a w:=wpAnyH_done hr h _
theorem rA{P:Program}{md:aW}{ops:Array Oper}{Q:Exit→Act→World→Prop}{S:World→Prop}{g:Nat}{listed:Array Bool}{a:Act}{w:World}(i j:Nat)(h1:wpOp P ops Q i (fun a' w'=>S w'∧wpAnyH P md ops Q S g (listed.setIfInBounds i true) a' w') a w)(h2:wpOp P ops Q j (fun a' w'=>S w'∧wpAnyH P md ops Q S g (listed.setIfInBounds j true) a' w') a w)(hr:bD md ops listed=[i,j]:=by kernel_rfl):wpAnyH P md ops Q S (g+1) listed a w:=wpAnyH_all hr (by simp) fun k hk=>by simp only[List.mem_cons,List.not_mem_nil,or_false] at hk;rcases hk with rfl | rfl;exact h1;exact h2
theorem rO{P:Program}{Q:Exit→Act→World→Prop}{S:World→Prop}{a:Act}{w:World}{ops:Array Oper}{md:aW}{listed:Array Bool}{g:Nat}(k:Nat)(h:wpOp P ops Q k (fun a' w'=>S w'∧wpAnyH P md ops Q S g (listed.setIfInBounds k true) a' w') a w)(hr:bD md ops listed=[k]:=by kernel_rfl):wpAnyH P md ops Q S (g+1) listed a w:=wpAnyH_all hr (by simp) fun i hi=>by obtain rfl:=List.mem_singleton.1 hi;exact h
theorem rE{P:Program}{Q:Exit→Act→World→Prop}{S:World→Prop}{a:Act}{w:World}{lo:List Oper}{listed:Array Bool}(k n g:Nat)(hS:S w)(h:wpQuiet P lo.toArray S (fun a'=>wpAnyH P .any lo.toArray Q S g (GR n k listed) a' w) ((lo.drop k).take n) a)(hl:((lo.drop k).take n).length=n:=by rfl)(hs:bE lo.toArray=true:=by kernel_rfl)(hB:JQ .any lo.toArray n k listed=true:=by kernel_rfl)(hr:((lo.drop k).take n).all Ip=true:=by kernel_rfl)(hQ:∀d v c a w,Q (.panic c) (Act.put a d v) w→Q (.panic c) a w:=by intro d v c a w h;exact absurd h.1 (by simp)):wpAnyH P .any lo.toArray Q S (n+g) listed a w:=AJ k n g hl hs hB hr hQ hS h
theorem Kc{fn:Func}{R:Ending→World→Prop}{a:Act}{w:World}{p u:Tmp}(hr:fn.results=#[.cell p 25,.tmp u])(hd:a.defers=[])(g:Nat)(hp:a.tmps.getD p undef=.pointer (some ⟨g,0,none⟩))(V M:List Int)(hV:V.length=13)(hM:M.length=13)
  (hg:w.heap[g]?=some (.cells (cv V M) 25 (0,0))) (v:Value) (hu:a.tmps.getD u undef=v) (h:R (.returned (.tuple #[.agg (cv V M),v])) w):bodyPost aA fn R .ret a w:=by
 refine bodyPost_ret (v:=.tuple #[.agg (cv V M),v]) ?_ hd h;rw[results_cell_tmp hr,hp,hu];simp[asAddr,run_loadVar_row w g 25 25 (cv V M) (0,0) _ hg Tryz.underlying25 rfl (Ka V M hV hM)]
def Cz(V M V' M':List Int):Bool:=(List.range 104).all fun i=> !(bt M i&&bt M' i) || (bt V i==bt V' i)
def OK(V M V' M':List Int):List Int:=mk fun i=>(bt V i&&bt M i) || (bt V' i&&bt M' i)
def OL(M M':List Int):List Int:=mk fun i=>bt M i || bt M' i
theorem H4(V M V' M':List Int):Cz V M V' M'=true↔ ∀i,i<104→bt M i=true→bt M' i=true→bt V i=bt V' i:=by
 unfold Cz;simp only[bX,cD,cA,bQ,beq_iff_eq];constructor
 ·intro h i hi hm hm';rcases h i hi with h' | h'
  ·rw[hm,hm'] at h';cases h'
  ·exact h'
 ·intro h i hi
  cases hm:bt M i
  ·exact .inl rfl
  ·cases hm':bt M' i
   ·exact .inl rfl
   ·exact .inr (h i hi hm hm')
theorem Pb(v m v' m':Int)(hv:0≤v∧v<256)(hm:0≤m∧m<256)(hv':0≤v'∧v'<256)(hm':0≤m'∧m'<256):bits .and .u8 (bits .and .u8 (bits .xor .u8 v v') m) m'=0↔ ∀j,j<8→yb m j=true→yb m' j=true→yb v j=yb v' j:=by
 rw[PZ _ (EB _ _ _)];constructor
 ·intro g j hj hmj hmj';have:=g j hj;rw[J0 _ _ (EB _ _ _) hm',J0 _ _ (EB _ _ _) hm,NU _ _ hv hv',hmj,hmj'] at this;simpa using this
 ·intro g j hj;rw[J0 _ _ (EB _ _ _) hm',J0 _ _ (EB _ _ _) hm,NU _ _ hv hv']
  cases hmj:yb m j
  ·simp
  ·cases hmj':yb m' j
   ·simp
   ·rw[g j hj hmj hmj'];simp
theorem Dj(V M:List Int):Ax (AH V M):=Ik _
theorem GJ(V M:List Int)(i:Nat)(hi:i<104):bt (AH V M) i=(bt V i&&bt M i):=OJ _ i hi
theorem Xh(V M V' M':List Int):Ax (OK V M V' M'):=Ik _
theorem Xi(M M':List Int):Ax (OL M M'):=Ik _
theorem Xg(V M V' M':List Int)(hM:Ax M)(hM':Ax M')(h:∀k,k<13→bits .and .u8 (bits .and .u8 (bits .xor .u8 ((AH V M).getD k 0) ((AH V' M').getD k 0)) (M.getD k 0)) (M'.getD k 0)=0):Cz V M V' M'=true:=
 (H4 V M V' M').2 fun i hi hm hm'=>by
  have:=(Pb _ _ _ _ ((Dj V M).2 _) (hM.2 _) ((Dj V' M').2 _) (hM'.2 _)).1 (h (i/8) (by omega)) (i%8) (by omega) hm hm'
  rw[←Jn, ←Jn,GJ _ _ i hi,GJ _ _ i hi,hm,hm'] at this
  simpa using this
theorem Xf(V M V' M':List Int)(hM:Ax M)(hM':Ax M')(k:Nat)(hk:k<13)(h:bits .and .u8 (bits .and .u8 (bits .xor .u8 ((AH V M).getD k 0) ((AH V' M').getD k 0)) (M.getD k 0)) (M'.getD k 0)≠0):Cz V M V' M'=false:=by
 cases e:Cz V M V' M'
 ·rfl
 ·refine absurd ((Pb _ _ _ _ ((Dj V M).2 _) (hM.2 _) ((Dj V' M').2 _) (hM'.2 _)).2 fun j hj hm hm'=> ?_) h;have ed:(8*k+j)/8=k:=by omega
  have em:(8*k+j)%8=j:=by omega
  have hb:∀L:List Int,yb (L.getD k 0) j=bt L (8*k+j):=fun L=>by unfold bt;rw[ed,em]
  rw[hb] at hm hm' ⊢;rw[hb,GJ _ _ _ (by omega),GJ _ _ _ (by omega),hm,hm',(H4 V M V' M').1 e _ (by omega) hm hm']
def MP(V M V' M':List Int):Value:=.tuple #[.agg (if Cz V M V' M' then cv (OK V M V' M') (OL M M') else cv Z Z),.bool (Cz V M V' M')]
theorem Qu(V M V' M':List Int)(h:Cz V M V' M'=true):MP V M V' M'=.tuple #[.agg (cv (OK V M V' M') (OL M M')),.bool true]:=by unfold MP;rw[h];rfl
theorem Sa(V M V' M':List Int)(h:Cz V M V' M'=false):MP V M V' M'=.tuple #[.agg (cv Z Z),.bool false]:=by unfold MP;rw[h];rfl
theorem Zd(V M V' M':List Int)(hV:Ax V)(hM:Ax M)(hV':Ax V')(hM':Ax M')(w:World):
  Calls aA 148 #[.agg (cv V M),.agg (cv V' M')] w fun e w'=>e=.returned (MP V M V' M')∧Below w.heap.size w w':=by
 have hVl:=hV.1;have hMl:=hM.1;have hVl':=hV'.1;have hMl':=hM'.1;have C1:Hid (∀W,Calls aA 112 #[.agg (cv V M)] W fun e w'=>e=.returned (.agg (cv (AH V M) M))∧Below W.heap.size W w'):=FP V M hV hM;have C2:Hid (∀W,Calls aA 112 #[.agg (cv V' M')] W fun e w'=>e=.returned (.agg (cv (AH V' M') M'))∧Below W.heap.size W w'):=FP V' M' hV' hM';have HM:Hid _:=hM;have HM':Hid _:=hM';have hAl:(AH V M).length=13:=(Dj V M).1;have hBl:(AH V' M').length=13:=(Dj V' M').1;clear hV hM hV' hM';go_enter Tryz.func148,Tryz.ntmps148;go_wp2_with fail;obtain⟨W,hW⟩:=eX (((w.alloc (.cells (cv V M) 25)).alloc (.cells (cv V' M') 25)).alloc (.cells Az 25));have g0:W.heap[w.heap.size]?=some (.cells (cv V M) 25 (0,0)):=by rw[hW];exact Af _ _ _ _ (Af _ _ _ _ (Ac _ _ _ rfl))
 have g1:W.heap[w.heap.size+1]?=some (.cells (cv V' M') 25 (0,0)):=by rw[hW];exact Af _ _ _ _ (Ac _ _ _ (by simp))
 have g2:W.heap[w.heap.size+2]?=some (.cells Az 25 (0,0)):=by rw[hW];exact Ac _ _ _ (by simp)
 have hb:Below w.heap.size w W:=by rw[hW];exact(((Below.refl _ _).alloc (aV _) _).alloc (by simp) _).alloc (by simp;omega) _
 have hsz:=hb.size;rw[←hW];clear hW;have ne1:=Al.ne W;refine Ca 4 (by kernel_rfl) (by kernel_rfl) ?_;simp only[aR,bH,aT,bI];refine RT rfl _ rfl w.heap.size rfl V M g0 hVl hMl ?_;simp only[pU];go_big_quiet_want;go_big_quiet_op;refine⟨_,fun u=>Calls.later_of (C1.out u.world),?_⟩;go_big_quiet_on;refine RT rfl _ rfl (w.heap.size+1) rfl V' M' g1 hVl' hMl' ?_;simp only[pU];go_big_quiet_want;go_big_quiet_op;refine⟨_,fun u=>Calls.later_of (C2.out u.world),?_⟩;go_big_quiet_on;refine wpQuiet_nil ?_;rintro w1 ⟨u,rfl⟩;obtain⟨W1,hW1⟩:=eX u.world;have k0:W1.heap[w.heap.size]?=some (.cells (cv V M) 25 (0,0)):=by rw[hW1];exact Ai g0 _ ⟨u,rfl⟩
 have k1:W1.heap[w.heap.size+1]?=some (.cells (cv V' M') 25 (0,0)):=by rw[hW1];exact Ai g1 _ ⟨u,rfl⟩
 have k2:W1.heap[w.heap.size+2]?=some (.cells Az 25 (0,0)):=by rw[hW1];exact Ai g2 _ ⟨u,rfl⟩
 have hb1:Below w.heap.size w W1:=by rw[hW1];exact hb.trans (u.below.mono hsz)
 rw[←hW1];clear hW1 g0 g1 g2 hb C1 C2;have m0:(W1.setRow w.heap.size (cv (AH V M) M)).heap[w.heap.size]?=some (.cells (cv (AH V M) M) 25 (0,0)):=setRow_heap _ _ _ _ _ _ k0;have m1:(W1.setRow w.heap.size (cv (AH V M) M)).heap[w.heap.size+1]?=some (.cells (cv V' M') 25 (0,0)):=(setRow_other W1 _ _ _ (by omega)).trans k1;have m2:(W1.setRow w.heap.size (cv (AH V M) M)).heap[w.heap.size+2]?=some (.cells Az 25 (0,0)):=(setRow_other W1 _ _ _ (by omega)).trans k2;have hb2:=Ak hb1 (aV _) (cv (AH V M) M);obtain⟨W2,hW2⟩:=eX (W1.setRow w.heap.size (cv (AH V M) M));have n0:(W2.setRow (w.heap.size+1) (cv (AH V' M') M')).heap[w.heap.size]?=some (.cells (cv (AH V M) M) 25 (0,0)):=by rw[hW2];exact(setRow_other _ _ _ _ (by omega)).trans m0
 have n1:(W2.setRow (w.heap.size+1) (cv (AH V' M') M')).heap[w.heap.size+1]?=some (.cells (cv (AH V' M') M') 25 (0,0)):=by rw[hW2];exact setRow_heap _ _ _ _ _ _ m1
 have n2:(W2.setRow (w.heap.size+1) (cv (AH V' M') M')).heap[w.heap.size+2]?=some (.cells Az 25 (0,0)):=by rw[hW2];exact(setRow_other _ _ _ _ (by omega)).trans m2
 have hb3:Below w.heap.size w (W2.setRow (w.heap.size+1) (cv (AH V' M') M')):=by rw[hW2];exact Ak hb2 (by omega) _
 rw[←hW2] at m1;refine Bq rfl _ _ rfl w.heap.size (AH V M) M rfl rfl _ k0 (AO _ _ hVl hMl) hAl hMl _ hW2.symm ?_;simp only[Act.put];refine Bq rfl _ _ rfl (w.heap.size+1) (AH V' M') M' rfl rfl _ m1 (AO _ _ hVl' hMl') hBl hMl' _ rfl ?_;simp only[Act.put];obtain⟨W3,hW3⟩:=eX (W2.setRow (w.heap.size+1) (cv (AH V' M') M'));rw[←hW3] at n0 n1 n2 hb3 ⊢;clear m0 m1 m2 hb2 k0 k1 k2 hb1 hW2 hW3;go_wp2_with fail
 go_loopw [11] (fun i wr=> ∃k:Nat,k≤13∧i=.int .i64 k∧∃U N:List Int,Ax U∧Ax N∧(∀j,j<13→U.getD j 0=if j<k then bits .or .u8 ((AH V M).getD j 0) ((AH V' M').getD j 0) else (AH V M).getD j 0)∧(∀j,j<13→N.getD j 0=if j<k then bits .or .u8 (M.getD j 0) (M'.getD j 0) else M.getD j 0)
  ∧(∀j,j<k→bits .and .u8 (bits .and .u8 (bits .xor .u8 ((AH V M).getD j 0) ((AH V' M').getD j 0)) (M.getD j 0)) (M'.getD j 0)=0)
  ∧wr.heap[w.heap.size]?=some (.cells (cv U N) 25 (0,0))∧wr.heap[w.heap.size+1]?=some (.cells (cv (AH V' M') M') 25 (0,0))∧wr.heap[w.heap.size+2]?=some (.cells Az 25 (0,0))∧Below w.heap.size w wr) (fun i _=>13-(intOf i).toNat)
 case atStart=>exact⟨0,bS _,rfl,AH V M,M,Dj V M,HM.out,fun j _=>by simp,fun j _=>by simp,fun j hj=>by omega,n0,n1,n2,hb3⟩
 case round=>
  clear n0 n1 n2 hb3;obtain⟨k,hk,rfl,U,N,hU,hN,hUj,hNj,hno,g0,g1,g2,hb⟩:=hrel;have hUl:=hU.1;have hNl:=hN.1;have HU:Hid _:=hU;have HN:Hid _:=hN;have HUJ:Hid _:=hUj;have HNJ:Hid _:=hNj;have HNO:Hid _:=hno;clear hU hN hUj hNj hno;by_cases hlt:k<13
  ·obtain⟨x,hx,hxe⟩:∃x,(cv U N)[k]?=some (.int .u8 x)∧x=(AH V M).getD k 0:=⟨_,IU U N hUl k hlt,by rw[HUJ.out k hlt,if_neg (by omega)]⟩;obtain⟨y,hy,hye⟩:∃y,(cv U N)[13+k]?=some (.int .u8 y)∧y=M.getD k 0:=⟨_,Gj U N hUl hNl k hlt,by rw[HNJ.out k hlt,if_neg (by omega)]⟩;obtain⟨x',hx',hxe'⟩:∃x,(cv (AH V' M') M')[k]?=some (.int .u8 x)∧x=(AH V' M').getD k 0:=⟨_,IU _ M' hBl k hlt,rfl⟩;obtain⟨y',hy',hye'⟩:∃y,(cv (AH V' M') M')[13+k]?=some (.int .u8 y)∧y=M'.getD k 0:=⟨_,Gj _ M' hBl hMl' k hlt,rfl⟩;have hx0:=F5 g0 hx;have hy0:=F5 g0 hy;have hx1:=F5 g1 hx';have hy1:=F5 g1 hy';have HX:Hid _:=hxe;have HY:Hid _:=hye;have HX':Hid _:=hxe';have HY':Hid _:=hye';have ne2:=Al.ne wr;clear hxe hye hxe' hye';by_cases hc:bits .and .u8 (bits .and .u8 (bits .xor .u8 x x') y) y'=0
   ·have HC:Hid _:=hc;have hne:(bits .and .u8 (bits .and .u8 (bits .xor .u8 x x') y) y' !=0)=false:=by simp[hc]
    clear hc;go_wp2_with fail;refine rL ?_
    repeat go_big_quiet_step (fail)
    refine wpQuiet_nil ?_;rintro w' ⟨u,rfl⟩;obtain⟨W4,hW4⟩:=eX u.world;have k0:W4.heap[w.heap.size]?=some (.cells (cv U N) 25 (0,0)):=by rw[hW4];exact Ai g0 _ ⟨u,rfl⟩
    have k1:W4.heap[w.heap.size+1]?=some (.cells (cv (AH V' M') M') 25 (0,0)):=by rw[hW4];exact Ai g1 _ ⟨u,rfl⟩
    have k2:W4.heap[w.heap.size+2]?=some (.cells Az 25 (0,0)):=by rw[hW4];exact Ai g2 _ ⟨u,rfl⟩
    have hb4:Below w.heap.size w W4:=by rw[hW4];exact hb.trans (u.below.mono hb.size)
    rw[←hW4];clear hW4 g0 g1 g2 hb hx0 hy0 hx1 hy1 ne2;have cx:W4.cell? ⟨w.heap.size,k,none⟩=some (.int .u8 x):=by rw[cell_of_row W4 _ _ _ _ _ k0];exact hx
    have cx':W4.cell? ⟨w.heap.size+1,k,none⟩=some (.int .u8 x'):=by rw[cell_of_row W4 _ _ _ _ _ k1];exact hx'
    have cf:W4.frozen? ⟨w.heap.size,k,none⟩=false:=frozen_of_row W4 _ _ _ _ k0;go_wp2_with fail;refine E8 11 (by kernel_rfl) (by kernel_rfl) ?_;simp only[aR,bH,aT,bI]
    repeat go_big_quiet_step (fail)
    refine wpQuiet_nil ?_;have l0:((W4.setCell ⟨w.heap.size,k,none⟩ (.int .u8 (bits .or .u8 x x'))).drew).heap[w.heap.size]?=some (.cells (cv (U.set k (bits .or .u8 x x')) N) 25 (0,0)):=by rw[←O7 U N hUl k hlt];exact heap_setCell_same W4 _ _ _ _ _ k0
    have l1:((W4.setCell ⟨w.heap.size,k,none⟩ (.int .u8 (bits .or .u8 x x'))).drew).heap[w.heap.size+1]?=some (.cells (cv (AH V' M') M') 25 (0,0)):=(heap_setCell_other W4 ⟨w.heap.size,k,none⟩ (w.heap.size+1) _ (by simp)).trans k1;have l2:((W4.setCell ⟨w.heap.size,k,none⟩ (.int .u8 (bits .or .u8 x x'))).drew).heap[w.heap.size+2]?=some (.cells Az 25 (0,0)):=(heap_setCell_other W4 ⟨w.heap.size,k,none⟩ (w.heap.size+2) _ (by simp)).trans k2;have hb5:Below w.heap.size w ((W4.setCell ⟨w.heap.size,k,none⟩ (.int .u8 (bits .or .u8 x x'))).drew):=(hb4.setCell (aV _) _).drew;obtain⟨W5,hW5⟩:=eX ((W4.setCell ⟨w.heap.size,k,none⟩ (.int .u8 (bits .or .u8 x x'))).drew);have hUl2:(U.set k (bits .or .u8 x x')).length=13:=by rw[List.length_set];exact hUl
    go_wp2_with fail;rw[←hW5] at l0 l1 l2 hb5 ⊢;clear hW5 k0 k1 k2 hb4 cx cx' cf hx hx' hy hy';have cy:W5.cell? ⟨w.heap.size,13+k,none⟩=some (.int .u8 y):=by rw[cell_of_row W5 _ _ _ _ _ l0,Gj _ N hUl2 hNl k hlt,HNJ.out k hlt,if_neg (by omega),HY.out]
    have cy':W5.cell? ⟨w.heap.size+1,13+k,none⟩=some (.int .u8 y'):=by rw[cell_of_row W5 _ _ _ _ _ l1,Gj _ M' hBl hMl' k hlt,HY'.out]
    have cf:W5.frozen? ⟨w.heap.size,13+k,none⟩=false:=frozen_of_row W5 _ _ _ _ l0;refine E8 11 (by kernel_rfl) (by kernel_rfl) ?_;simp only[aR,bH,aT,bI]
    repeat go_big_quiet_step (fail)
    refine wpQuiet_nil ?_;go_wp2_with fail;go_roundw
    case rel=>
     refine⟨k+1,by omega,by go_num,U.set k (bits .or .u8 x x'),N.set k (bits .or .u8 y y'),PQ U HU.out k _ hlt (EB _ _ _),PQ N HN.out k _ hlt (EB _ _ _),fun j hj=> ?_,fun j hj=> ?_,fun j hj=> ?_,?_,?_,?_,?_⟩
     ·rw[GH _ _ _ _ (by omega)];by_cases e:k=j
      ·subst e;rw[if_pos rfl,if_pos (by omega),HX.out,HX'.out]
      ·rw[if_neg e,HUJ.out j hj];by_cases h:j<k
       ·rw[if_pos h,if_pos (by omega)]
       ·rw[if_neg h,if_neg (by omega)]
     ·rw[GH _ _ _ _ (by omega)];by_cases e:k=j
      ·subst e;rw[if_pos rfl,if_pos (by omega),HY.out,HY'.out]
      ·rw[if_neg e,HNJ.out j hj];by_cases h:j<k
       ·rw[if_pos h,if_pos (by omega)]
       ·rw[if_neg h,if_neg (by omega)]
     ·by_cases e:j=k
      ·subst e;rw[←HX.out, ←HY.out, ←HX'.out, ←HY'.out];exact HC.out
      ·exact HNO.out j (by omega)
     ·rw[←TD _ N hUl2 k];exact heap_setCell_same W5 _ _ _ _ _ l0
     ·exact(heap_setCell_other W5 ⟨w.heap.size,13+k,none⟩ (w.heap.size+1) _ (by simp)).trans l1
     ·exact(heap_setCell_other W5 ⟨w.heap.size,13+k,none⟩ (w.heap.size+2) _ (by simp)).trans l2
     ·exact(hb5.setCell (aV _) _).drew
    case measure=>simp[intOf];omega
   ·have HC:Hid _:=hc;have hne:(bits .and .u8 (bits .and .u8 (bits .xor .u8 x x') y) y' !=0)=true:=by simp[hc]
    clear hc;go_wp2_with fail;refine rL ?_
    repeat go_big_quiet_step (fail)
    refine wpQuiet_nil ?_;rintro w' ⟨u,rfl⟩;have k2:=Ai g2 _ ⟨u,rfl⟩
    go_wp2_with (first
     | (refine Bq rfl _ _ rfl (w.heap.size+2) Z Z rfl (by rw[←Hh];rfl) _ k2 rfl AX.1 AX.1 _ rfl ?_))
    refine Kc (p:=4) (u:=5) rfl rfl (w.heap.size+2) rfl Z Z AX.1 AX.1 (setRow_heap _ _ _ _ _ _ k2) _ rfl ⟨?_,?_⟩
    ·have hn:=HC.out;rw[HX.out,HY.out,HX'.out,HY'.out] at hn;rw[Sa _ _ _ _ (Xf V M V' M' HM.out HM'.out k hlt hn)];rfl
    ·exact Ak (hb.trans (u.below.mono hb.size)) (by omega) _
  ·obtain rfl:k=13:=by omega
   go_wp2_with (first
    | (refine Cl rfl _ rfl w.heap.size rfl U N g0 hUl hNl ?_)
    | (refine Bq rfl _ _ rfl (w.heap.size+2) U N rfl rfl _ g2 rfl hUl hNl _ rfl ?_))
   have e1:U=OK V M V' M':=Ke U HU.out _ fun i hi=>by
    rw[Jn,HUJ.out _ (by omega),if_pos (by omega),Aaw _ _ ((Dj V M).2 _) ((Dj V' M').2 _), ←Jn, ←Jn,GJ _ _ _ hi,GJ _ _ _ hi]
   have e2:N=OL M M':=Ke N HN.out _ fun i hi=>by
    rw[Jn,HNJ.out _ (by omega),if_pos (by omega),Aaw _ _ (HM.out.2 _) (HM'.out.2 _), ←Jn, ←Jn]
   have e3:=Xg V M V' M' HM.out HM'.out HNO.out;subst e1 e2;refine Kc (p:=4) (u:=5) rfl rfl (w.heap.size+2) rfl (OK V M V' M') (OL M M') hUl hNl (setRow_heap _ _ _ _ _ _ g2) _ rfl ⟨?_,?_⟩
   ·rw[Qu _ _ _ _ e3];rfl
   ·exact Ak hb (by omega) _
theorem Xw:(aA.info? 23).map (·.size)=some 13:=by kernel_rfl
theorem Qx(w:World)(g off:Nat)(cs:Array Value)(t:TypeId)(fr:Nat×Nat)(L:List Int)(hL:L.length=13)(hg:w.heap[g]?=some (.cells cs t fr))(hc:∀j,j<13→cs[off+j]?=some (.int .u8 (L.getD j 0))):
  (loadVar 23 ⟨g,off,none⟩).run aA w=.ok (.agg (hv L)) w:=by
 have hl:(loadCells ⟨g,off,none⟩ ((L.map (aX .u8))).length).run aA w=.ok (L.map (aX .u8)).toArray w:=
  run_loadCells_list (P:=aA) w ⟨g,off,none⟩ (L.map (aX .u8)) (fun j v hv=>by
   have hadd:(⟨g,off,none⟩:Addr).add j=⟨g,off+j,none⟩:=by unfold Addr.add;split <;> simp_all
   have hj:j<13:=by
    have:=(aN.1 hv).1;simpa[hL] using this
   rw[hadd,cell_of_row w g (off+j) cs t fr hg,hc j hj];rw[List.getElem?_map,aO (by omega)] at hv;simpa[List.getD,hL,hj] using hv)
 have hi:=Xw
 cases hq:aA.info? 23 with
 | none=>simp[hq] at hi
 | some i=>
  have hs:i.size=13:=by simpa[hq] using hi
  have hagg:(isAgg 23).run aA w=.ok true w:=by
   unfold isAgg;rw[aC,run_underlying bP w];rfl
  rw[cC,hL] at hl;simp[loadVar,aC,hagg,sizeOf,typeInfo,hq,hs,hl,hv]
theorem MY{ops:Array Oper}{rest:List Oper}{o:Oper}{a:Act}{w:World}{Q:Exit→Act→World→Prop}(hw:aG o (yielded ops a.tmps)=true)(x:Operand)(ho:o.op=.load 23 x)
  (g off:Nat) (hx:a.eval x=.pointer (some ⟨g,off,none⟩)) (cs:Array Value) (t:TypeId) (fr:Nat×Nat) (L:List Int) (hL:L.length=13) (hg:w.heap[g]?=some (.cells cs t fr)) (hc:∀j,j<13→cs[off+j]?=some (.int .u8 (L.getD j 0)))
  (h:wpList aA ops Q rest (a.put o.dst (.agg (hv L))) w):wpList aA ops Q (o::rest) a w:=by
 refine wpList_step fun K hK=> ?_;rw[if_pos hw];unfold aZ execOp;simp only[ho,hx,aL,aK,aC,aD,aB,Qx w g off cs t fr L hL hg hc];exact hK _ _ h
theorem IA{ops:Array Oper}{rest:List Oper}{o:Oper}{a:Act}{w:World}{Q:Exit→Act→World→Prop}(hw:aG o (yielded ops a.tmps)=true)(x:Operand)(ho:o.op=.load 23 x)
  (g:Nat) (hx:a.eval x=.pointer (some ⟨g,13,none⟩)) (V M:List Int) (hg:w.heap[g]?=some (.cells (cv V M) 25 (0,0))) (hV:V.length=13) (hM:M.length=13)
  (h:wpList aA ops Q rest (a.put o.dst (.agg (hv M))) w):wpList aA ops Q (o::rest) a w:=
 MY hw x ho g 13 hx _ _ _ M hM hg (fun j hj=>Gj V M hV hM j hj) h
theorem Nk{ops:Array Oper}{rest:List Oper}{o:Oper}{a:Act}{w:World}{Q:Exit→Act→World→Prop}(hw:aG o (yielded ops a.tmps)=true)(x:Operand)(ho:o.op=.load 23 x)
  (g:Nat) (hx:a.eval x=.pointer (some ⟨g,0,none⟩)) (V M:List Int) (hg:w.heap[g]?=some (.cells (cv V M) 25 (0,0))) (hV:V.length=13)
  (h:wpList aA ops Q rest (a.put o.dst (.agg (hv V))) w):wpList aA ops Q (o::rest) a w:=
 MY hw x ho g 0 hx _ _ _ V hV hg (fun j hj=>by rw[aQ];exact IU V M hV j hj) h
theorem WM{W:World}{ops:Array Oper}{Q:Act→Prop}{rest:List Oper}{o:Oper}{a:Act}(hw:aG o (yielded ops a.tmps)=true)(x:Operand)(ho:o.op=.load 23 x)
  (g off:Nat) (hx:a.eval x=.pointer (some ⟨g,off,none⟩)) (cs:Array Value) (t:TypeId) (L:List Int) (hL:L.length=13) (hg:W.heap[g]?=some (.cells cs t (0,0))) (hc:∀j,j<13→cs[off+j]?=some (.int .u8 (L.getD j 0)))
  (h:wpQuiet aA ops (fun w'=> ∃u:Al W,w'=u.world) Q rest (a.put o.dst (.agg (hv L)))):wpQuiet aA ops (fun w'=> ∃u:Al W,w'=u.world) Q (o::rest) a:=by
 refine aP hw fun K hK=>⟨.agg (hv L),fun w hC=> ?_,hK _ h⟩;unfold bA execOp;simp only[ho,hx,aL,aK,aC,aD,aB,Qx w g off cs t (0,0) L hL (Ai hg w hC) hc];exact⟨rfl,rfl⟩
theorem qlM{W:World}{ops:Array Oper}{Q:Act→Prop}{rest:List Oper}{o:Oper}{a:Act}(hw:aG o (yielded ops a.tmps)=true)(x:Operand)(ho:o.op=.load 23 x)
  (g:Nat) (hx:a.eval x=.pointer (some ⟨g,13,none⟩)) (V M:List Int) (hg:W.heap[g]?=some (.cells (cv V M) 25 (0,0))) (hV:V.length=13) (hM:M.length=13)
  (h:wpQuiet aA ops (fun w'=> ∃u:Al W,w'=u.world) Q rest (a.put o.dst (.agg (hv M)))):wpQuiet aA ops (fun w'=> ∃u:Al W,w'=u.world) Q (o::rest) a:=
 WM hw x ho g 13 hx _ _ M hM hg (fun j hj=>Gj V M hV hM j hj) h
theorem qlV{W:World}{ops:Array Oper}{Q:Act→Prop}{rest:List Oper}{o:Oper}{a:Act}(hw:aG o (yielded ops a.tmps)=true)(x:Operand)(ho:o.op=.load 23 x)
  (g:Nat) (hx:a.eval x=.pointer (some ⟨g,0,none⟩)) (V M:List Int) (hg:W.heap[g]?=some (.cells (cv V M) 25 (0,0))) (hV:V.length=13)
  (h:wpQuiet aA ops (fun w'=> ∃u:Al W,w'=u.world) Q rest (a.put o.dst (.agg (hv V)))):wpQuiet aA ops (fun w'=> ∃u:Al W,w'=u.world) Q (o::rest) a:=
 WM hw x ho g 0 hx _ _ V hV hg (fun j hj=>by rw[aQ];exact IU V M hV j hj) h
theorem UD(w:World)(g off:Nat)(cs:Array Value)(t:TypeId)(L:List Int)(hL:L.length=13)(hg:w.heap[g]?=some (.cells cs t (0,0)))(hs:off+13≤cs.size):
  (storeVar 23 ⟨g,off,none⟩ (.agg (hv L))).run aA w=.ok () (w.setRow g (cs.toList.take off++L.map (aX .u8)++cs.toList.drop (off+13)).toArray):=by
 have hst:=run_storeCells_at aA g off t (L.map (aX .u8)) 0 cs w hg (by simp[hL];omega) (fun v hv=>by
  obtain⟨z,_,rfl⟩:=List.mem_map.1 hv;rfl)
 have hi:=Xw
 cases hq:aA.info? 23 with
 | none=>simp[hq] at hi
 | some i=>
  have hs':i.size=13:=by simpa[hq] using hi
  rw[Nat.add_zero,cC,hL] at hst;simp[storeVar,sizeOf,typeInfo,hq,bR,hs',hv,hL,hst]
theorem LO{ops:Array Oper}{rest:List Oper}{o:Oper}{a:Act}{w:World}{Q:Exit→Act→World→Prop}(hgd:o.guard=none)(x y:Operand)(ho:o.op=.store 23 x y)
  (g off:Nat) (hx:a.eval x=.pointer (some ⟨g,off,none⟩)) (cs:Array Value) (t:TypeId) (L:List Int) (hy:a.eval y=.agg (hv L)) (hL:L.length=13) (hg:w.heap[g]?=some (.cells cs t (0,0))) (hs:off+13≤cs.size)
  (cs':Array Value) (hcs':(cs.toList.take off++L.map (aX .u8)++cs.toList.drop (off+13)).toArray=cs')
  (h:wpList aA ops Q rest (a.put o.dst undef) (w.setRow g cs')):wpList aA ops Q (o::rest) a w:=
 wpList_plain hgd fun _ hK=>by
  unfold aZ execOp
  simp only[ho,hx,hy,Instr.storeAt,aK,aC,aD,aB,UD w g off cs t L hL hg hs,hcs']
  exact hK _ _ h
theorem LP{ops:Array Oper}{rest:List Oper}{o:Oper}{a:Act}{w:World}{Q:Exit→Act→World→Prop}(hgd:o.guard=none)(x y:Operand)(ho:o.op=.store 23 x y)
  (g:Nat) (hx:a.eval x=.pointer (some ⟨g,13,none⟩)) (V M L:List Int) (hy:a.eval y=.agg (hv L)) (hV:V.length=13) (hM:M.length=13) (hL:L.length=13) (hg:w.heap[g]?=some (.cells (cv V M) 25 (0,0)))
  (w':World) (hw':w.setRow g (cv V L)=w')
  (h:wpList aA ops Q rest (a.put o.dst undef) w'):wpList aA ops Q (o::rest) a w:=
 LO hgd x y ho g 13 hx _ _ L hy hL hg (by rw[AO V M hV hM];omega) (cv V L) (by unfold cv hv;simp[hV,hM]) (by rw[hw'];exact h)
theorem P5{ops:Array Oper}{rest:List Oper}{o:Oper}{a:Act}{w:World}{Q:Exit→Act→World→Prop}(hgd:o.guard=none)(x y:Operand)(ho:o.op=.store 23 x y)
  (g:Nat) (hx:a.eval x=.pointer (some ⟨g,0,none⟩)) (V M L:List Int) (hy:a.eval y=.agg (hv L)) (hV:V.length=13) (hM:M.length=13) (hL:L.length=13) (hg:w.heap[g]?=some (.cells (cv V M) 25 (0,0)))
  (w':World) (hw':w.setRow g (cv L M)=w')
  (h:wpList aA ops Q rest (a.put o.dst undef) w'):wpList aA ops Q (o::rest) a w:=
 LO hgd x y ho g 0 hx _ _ L hy hL hg (by rw[AO V M hV hM];omega) (cv L M) (by unfold cv hv;simp[hV]) (by rw[hw'];exact h)
end
end Go.Proofs.YtbhkoipcpcoooabGreat
