import Derived.Test.YtbhkoipcpcoooaaGreatJ10
import Derived.Laws.AppendOwnNone
import Derived.Test.YtbhkoipcpcoooaaGreatJ7
import Derived.Test.YtbhkoipcpcoooaaGreatJ3
import Derived.Test.YtbhkoipcpcoooaaGreatJ1
import Derived.Test.YtbhkoipcpcoooaaGreatJ2
import Derived.Lib.UnsafeStr
import Derived.Laws.AppendOwn
import Derived.Laws.OwnMore
import Derived.Laws.BytesArg
import Derived.Maps.AppendAt
namespace Go.Proofs.YtbhkoipcpcoooaaGreat
set_option maxRecDepth 20000
set_option maxHeartbeats 64000000
open Go
open _root_.Array renaming getD_eq_getD_getElem? → aA, getElem?_eq_getElem → aD, getElem?_eq_none → aG, getElem?_setIfInBounds_self_of_lt → aN, all_eq_true_iff_forall_mem → aT, replicate → bB, getElem?_toList → bC, mem_toList_iff → bD, any_eq_true' → bI, getElem_mem → bO
open _root_.Option.some renaming inj → aB, injEq → aJ
open Go.Proofs.Tryz renaming prog → aC, underlying70 → aK, underlying5 → aY, underlying9 → aZ, underlying62 → bK
open _root_.List renaming getElem?_eq_some_iff → aH, getElem?_eq_getElem → aQ, eq_nil_of_length_eq_zero → aV, getElem?_take_of_lt → aX, length_append → bF, count_pos_iff → bH, count_append → bN, all_eq_true → bR, append_nil → bT, count_cons → bU
open Go.Instr renaming fieldAt → aI, loadAt → bJ
open _root_.Nat renaming lt_or_ge → aL, le_refl → aO, zero_le → bQ
open Go.RowKit.Below renaming refl → aM
open Go.Region renaming binds → aP, ready → bG, wanted → bW
open Go.Lib renaming byteCells → aR, byteCells_length → bE
open Go.Value.slice renaming injEq → aW
open _root_.Option renaming map_some → bA
section
open Go.RowKit
theorem Yu{E:El}(H:E.Ok){α:Type}(enc:α→Array Value)(hE:∀x,PB E (enc x)){ops:Array Oper}{rest:List Oper}{o:Oper}{a:Act}{w:World}{Q:Exit→Act→World→Prop}(hgd:o.guard=none)(s x:Operand)(ho:o.op=.call {callee:=.builtin .append,args:=#[s,x],argTypes:=#[E.slice,E.slice]})
  (base base':Nat) (v u:Value) (C D:List α) (hs:a.eval s=v) (hown:w.ownsRow base E.elem E.size v C.length (BC enc C)) (hx:a.eval x=u) (hu:w.ownsRow base' E.elem E.size u D.length (BC enc D))
  (hn:C.length+D.length≤1000000) (hbase:base≤w.heap.size)
  (h:∀v' w',w'.ownsRow base E.elem E.size v' (C++D).length (BC enc (C++D))→w.grownBy w' v.ownBlock→(v'.ownBlock=v.ownBlock∨v'.ownBlock=some w.heap.size)→wpList aC ops Q rest (a.put o.dst v') w'):wpList aC ops Q (o::rest) a w:=by
 obtain⟨i0,hi,hz0,hz1,hz2⟩:=H.info;have hb:=H.hb;have hu0:=hu;have hl:(BC enc D).length=D.length*E.size:=hu.1;obtain⟨_,⟨rfl,h0⟩ | ⟨g,cap,cur,rfl,hB,hcur,h1,h2,h3,h4⟩⟩:=hu
 ·have hD0:D=[]:=aV h0;subst hD0;refine wpList_append_own_none hgd s x E.slice ho base E.elem i0 E.size H.hs hi v _ _ hs hown hx (h v w ?_ ?_ (.inl rfl))
  ·rw[bT];exact hown
  ·exact⟨rfl,rfl,rfl,aO _,fun k _ _=>rfl⟩
 ·refine wpList_append_own_at w hgd s x E.slice ho base E.elem i0 (.agg E.zero) E.size E.bytes H.hs hi hz0 hz1 hz2 (by simpa[Value.cells] using H.hz) H.hp v _ _ hs hown ⟨g,0,none⟩ D.length cap (BC enc D) hx hl (fun j y hy=> ?_) (fun y hy=> ?_) (by unfold maxLen;omega) ?_ hbase ?_
  ·have hj:j<D.length*E.size:=by rw[←hl];exact(aH.1 hy).1
   have hadd:(⟨g,0,none⟩:Addr).add j=⟨g,j,none⟩:=by unfold Addr.add;split <;> simp_all
   rw[hadd,cell_of_row w g j _ _ _ hcur, ←hy, ←h4,aX hj,bC]
  ·unfold BC at hy;obtain⟨c,_,hc⟩:=List.mem_flatMap.1 hy;exact(aT.1 (hE c).2) y (by simpa using hc)
  ·exact Nat.le_trans (Nat.mul_le_mul (show C.length+D.length≤1000000 by omega) hb) (by decide)
  ·intro v' w' h5 h6 _ h7;refine h v' w' ?_ h6 h7;rw[bF,J4];exact h5
theorem Ah7{ops:Array Oper}{rest:List Oper}{o:Oper}{a:Act}{w:World}{Q:Exit→Act→World→Prop}(hgd:o.guard=none)(s x:Operand)(ho:o.op=.call {callee:=.builtin .append,args:=#[s,x],argTypes:=#[62,62]})
  (B B':Nat) (v u:Value) (C D:List AN) (hs:a.eval s=v) (hown:AU B w v C) (hx:a.eval x=u) (hu:AU B' w u D) (hn:C.length+D.length≤1000000) (hB:B≤w.heap.size)
  (h:∀v' w',AU B w' v' (C++D)→w.grownBy w' v.ownBlock→(v'.ownBlock=v.ownBlock∨v'.ownBlock=some w.heap.size)→wpList aC ops Q rest (a.put o.dst v') w'):wpList aC ops Q (o::rest) a w:=
 Yu (E:=Js) Lh AD Ly hgd s x ho B B' v u C D hs hown hx hu hn hB h
theorem Ant(o:Option Addr)(n c:Nat)(w:World):(binOp .eql 62 (.slice o n c) (.slice none 0 0)).run aC w=.ok (.bool o.isNone) w:=by
 simp only[binOp];simp[run_equal_slice_nil w 62 112 o n c bK]
theorem Rr(now:Int)(w:World):Calls aC 111 #[.int .i64 now] w fun e w'=>e=.returned (.int .i64 (EH now))∧w'=w:=by
 unfold EH;obtain⟨m,hm⟩:=eX (max now 0);obtain⟨q,hq⟩:=eX (min m 1099511627776);rw[←hm, ←hq];have HM:Hid _:=hm;have HQ:Hid _:=hq;clear hm hq;go_enter Tryz.func111,Tryz.ntmps111
 go_wp2_with (first
  | (refine QC rfl (.tmp 3) _ rfl now 0 m rfl rfl HM.out ?_)
  | (refine Zk rfl (.tmp 4) _ rfl m 1099511627776 q rfl rfl HQ.out ?_))
 go_ret;exact⟨rfl,rfl⟩
def TK(room tries time:Int):Prop:=1≤room∧room≤64∧0≤tries∧tries≤8∧1≤time∧time≤1000
theorem Aer(room tries time:Int)(h:TK room tries time)(w:World):
  Calls aC 40 #[.int .i64 room,.int .i64 tries,.int .i64 time] w fun e w'=>e=.returned (.tuple #[.pointer (some ⟨w.heap.size,0,none⟩),.int .i64 0])∧Dt w.heap.size w' w.heap.size ⟨room,tries,time,[],0⟩ (.slice none 0 0)∧Below w.heap.size w w':=by
 have HN:Hid (Dt w.heap.size (w.alloc (.cells (MQ ⟨room,tries,time,[],0⟩ (.slice none 0 0)) 157)) w.heap.size ⟨room,tries,time,[],0⟩ (.slice none 0 0)):=⟨Ab _ _ _ rfl,AU.nil _ _,aO _⟩;obtain⟨h1,h2,h3,h4,h5,h6⟩:=h;have d1:¬room<1:=by omega
 have d2:¬room>64:=by omega
 have d3:¬tries<0:=by omega
 have d4:¬tries>8:=by omega
 have d5:¬time<1:=by omega
 have d6:¬time>1000:=by omega
 clear h1 h2 h3 h4 h5 h6;go_enter Tryz.func40,Tryz.ntmps40;go_wp2_with fail;go_ret2;exact⟨rfl,HN.out,(aM _ _).alloc (aO _) _⟩
theorem Ac8(B:Nat)(C:List AN)(v:Value)(w:World)(hv:AU B w v C)(hn:C.length≤1000000):
  Calls aC 103 #[v] w fun e w'=>(∃u,e=.returned u∧AU w.heap.size w' u C)∧Below w.heap.size w w':=by
 have hv0:=hv;have EQ:=Ant;obtain⟨h1,⟨rfl,h2⟩ | ⟨g,cap,cur,rfl,hB,hcur,h3,h4,h5,h6⟩⟩:=hv
 ·have hC:C=[]:=aV h2;subst hC;go_enter Tryz.func103,Tryz.ntmps103;go_wp2_with fail;go_ret;exact⟨⟨_,rfl,AU.nil _ _⟩,aM _ _⟩
 ·have B0:Hid (Below w.heap.size w (w.alloc (.cells #[] 112))):=(aM _ _).alloc (aO _) _;have HV:Hid (AU B (w.alloc (.cells #[] 112)) (.slice (some ⟨g,0,none⟩) C.length cap) C):=hv0.below B0.out;have S0:Hid (AU w.heap.size (w.alloc (.cells #[] 112)) (.slice (some ⟨w.heap.size,0,none⟩) 0 0) []):=Aqy w;clear hv0 hcur h6 h1 h5;generalize hcl:C.length=n at HV h3 ⊢;have HCL:Hid _:=hcl;clear hcl;go_enter Tryz.func103,Tryz.ntmps103;go_wp2_with (first|((with_reducible refine Aoi rfl ?_);refine Aa6 rfl rfl ?_;try rw[Je])|(at_builtin;refine Ak ?_));unfold AA;refine Ah7 rfl _ _ rfl w.heap.size B _ _ [] C rfl S0.out rfl HV.out (by simpa using hn) (by simp) ?_;intro v' w3 hown3 hgr3 _;have B3:Hid (Below w.heap.size w w3):=B0.out.trans ((aM _ _).grown hgr3 (by simp) fun k hk=>by have h9:some w.heap.size=some k:=hk;simp only[aJ] at h9;omega);have O3:Hid _:=hown3;clear hown3 hgr3;simp only[pU];go_wp2_with fail;go_ret;exact⟨⟨_,rfl,O3.out⟩,B3.out⟩
theorem U8(B:Nat)(w:World)(g:Nat)(m:Be)(v:Value)(h:Dt B w g m v)(hm:Ga m):
  Calls aC 63 #[.pointer (some ⟨g,0,none⟩)] w fun e w'=>(∃u,e=.returned u∧AU w.heap.size w' u m.l)∧Below w.heap.size w w':=by
 have HC:=Ac8 B m.l v w h.own (by have:=hm.len;omega);have c4:=h.f.c4;obtain⟨o,cap,e,_,_⟩:=h.own.slice;obtain⟨q,hq⟩:=eX m.l.length;rw[←hq] at e;clear h hq;subst e;go_enter Tryz.func63,Tryz.ntmps63;go_wp2_with (go_at_call 103;refine HC.mono ?_;rintro e w1 ⟨⟨u,rfl,hu⟩,hb1⟩;have HU:Hid _:=hu;have HB:Hid _:=hb1;clear hu hb1);go_ret;exact⟨⟨_,rfl,HU.out⟩,HB.out⟩
theorem Ac9(B:Nat)(w:World)(g:Nat)(m:Be)(v:Value)(h:Dt B w g m v):
  Calls aC 90 #[.pointer (some ⟨g,0,none⟩)] w fun e w'=>e=.returned v∧AU B w' v m.l∧Dt B w' g (Ij m) (.slice none 0 0)∧FQ (EO g v) (EO g (.slice none 0 0)) w w':=by
 have c4:=h.f.c4;have fz:=h.f.fz 4
 have HZ:Hid (AU B (w.setCell ⟨g,4,none⟩ (.slice none 0 0)) v m.l∧Dt B (w.setCell ⟨g,4,none⟩ (.slice none 0 0)) g (Ij m) (.slice none 0 0)∧FQ (EO g v) (EO g (.slice none 0 0)) w (w.setCell ⟨g,4,none⟩ (.slice none 0 0))):=by
  have hp:=h.put (m':=Ij m) (u:=.slice none 0 0) (As.refl _ _) (AU.nil _ _) (.inr fun k e=>by cases e) rfl;have hK2:As (Cq g) w (w.setCell ⟨g,4,none⟩ (.slice none 0 0)):=⟨rfl,rfl,rfl,by simp[World.setCell],fun k' _ e=>heap_setCell_other w ⟨g,4,none⟩ k' _ e⟩;exact⟨h.own.kept hK2 fun q e e'=>by unfold Cq at e';subst e';exact JC h.own h.blk (by decide) e,hp⟩
 obtain⟨o,cap,e,_,_⟩:=h.own.slice;obtain⟨q,hq⟩:=eX m.l.length;rw[←hq] at e;clear h hq;subst e;go_enter Tryz.func90,Tryz.ntmps90;go_wp2_with fail;go_ret;exact⟨rfl,HZ.out⟩
structure Arz(ops:Array Oper)(V:Nat→Value→World→Prop)(D:List Nat)(a0:Act)(w0:World)(listed:Array Bool)(a:Act)(w:World):Prop where
 below:Below w0.heap.size w0 w
 size:a.tmps.size=a0.tmps.size
 defers:a.defers=a0.defers
 other:∀d,d∉D→a.eval (.tmp d)=a0.eval (.tmp d)
 has:∀j o d,ops[j]?=some o→o.dst=some d→listed.getD j false=true→V j (a.eval (.tmp d)) w
theorem Vs{ops:Array Oper}{D:List Nat}(hD:(ops.toList.filterMap (·.dst))=D)(hnd:D.Nodup){i j:Nat}{oi oj:Oper}{d:Nat}(hi:ops[i]?=some oi)(hj:ops[j]?=some oj)(di:oi.dst=some d)(dj:oj.dst=some d):i=j:=by
 subst hD;rw[List.nodup_iff_pairwise_ne,List.pairwise_filterMap] at hnd;rw[←bC] at hi hj;obtain⟨hi1,hi2⟩:=aH.1 hi;obtain⟨hj1,hj2⟩:=aH.1 hj;rw[List.pairwise_iff_getElem] at hnd;rcases Nat.lt_trichotomy i j with h | h | h
 ·exact absurd rfl (hnd i j hi1 hj1 h d (by rw[hi2];exact di) d (by rw[hj2];exact dj))
 ·exact h
 ·exact absurd rfl (hnd j i hj1 hi1 h d (by rw[hj2];exact dj) d (by rw[hi2];exact di))
theorem Ac0(l:Array Bool)(i:Nat)(h:l.getD i true=false):(l.setIfInBounds i true).toList.count false+1=l.toList.count false:=by
 have hi:i<l.size:=by
  rw[aA] at h;rcases aL i l.size with h1 | h1
  ·exact h1
  ·rw[aG h1] at h;simp at h
 have hv:l[i]=false:=by
  rw[aA,aD hi] at h;simpa using h
 rw[Array.toList_setIfInBounds];have hi':i<l.toList.length:=by simpa using hi
 have e:l.toList=l.toList.take i++false::l.toList.drop (i+1):=by
  have:=List.drop_eq_getElem_cons hi';rw[show l.toList[i]=false by simpa using hv] at this;rw[←this,List.take_append_drop]
 rw[List.set_eq_take_append_cons_drop,if_pos hi',e];have e2:(l.toList.take i++false::l.toList.drop (i+1)).take i=l.toList.take i:=by rw[←e]
 have e3:(l.toList.take i++false::l.toList.drop (i+1)).drop (i+1)=l.toList.drop (i+1):=by rw[←e]
 rw[e2,e3,bN,bN,bU,bU];simp;omega
theorem Aam{md:Region.Mode}{ops:Array Oper}{l:Array Bool}(h:l.toList.count false=0):bG md ops l=[]:=by
 rw[List.eq_nil_iff_forall_not_mem];intro j hj;have h1:=(mem_ready.1 hj).1;rw[aA] at h1;rcases aL j l.size with h2 | h2
 ·rw[aD h2] at h1;have h3:l[j]=false:=by simpa using h1
  have:false∈l.toList:=by rw[←h3];exact bD.2 (bO h2)
  have:=bH.2 this;omega
 ·rw[aG h2] at h1;simp at h1
theorem Anh{l:Array Bool}{j:Nat}(h:l.getD j true=false):l.getD j false=false:=by
 rw[aA] at h ⊢;rcases aL j l.size with h2 | h2
 ·rw[aD h2] at h ⊢;simpa using h
 ·rw[aG h2];rfl
theorem G0{l:Array Bool}{i j:Nat}(h:i≠j)(b c:Bool):(l.setIfInBounds i b).getD j c=l.getD j c:=by
 rw[aA,aA,Array.getElem?_setIfInBounds_ne h]
theorem Aal{ops:Array Oper}{l:Array Bool}(hs:l.size=ops.size)(hdag:∀(i:Nat) (o:Oper),ops[i]?=some o→∀e∈o.after,e.on<i):∀j,l.getD j true=false→bG .any ops l≠[]:=by
 intro j;induction j using Nat.strongRecOn with
 | ind j ih=>
  intro hj hr
  have hjl:j<l.size:=by
   rw[aA] at hj;rcases aL j l.size with h1 | h1
   ·exact h1
   ·rw[aG h1] at hj;simp at hj
  have ho:ops[j]?=some (ops[j]'(by omega)):=aD (by omega);by_cases hall:∀e∈(ops[j]'(by omega)).after,aP .any e=true→l.getD e.on false=true
  ·have:j∈bG .any ops l:=mem_ready.2 ⟨hj,_,ho,hall⟩;rw[hr] at this;simp at this
  ·simp only[Classical.not_forall] at hall;obtain⟨e,he,hb,hl⟩:=hall;have hlt:=hdag j _ ho e he;refine ih e.on hlt ?_ hr;rw[aA,aD (by omega)] at hl ⊢;simpa using hl
theorem Cf{ops:Array Oper}{Q:Exit→Act→World→Prop}{V:Nat→Value→World→Prop}{i:Nat}{o:Oper}{a:Act}{w:World}(hi:ops[i]?=some o)(hw:bW o (yielded ops a.tmps)=true)(v:Value)
  (hx:(execOp a.eval o).run aC w=.ok (.value v) w) (hv:V i v w):wpOp aC ops Q i (fun a' w'=> ∃v,a'=a.put o.dst v∧Below w.heap.size w w'∧∀d,o.dst=some d→V i v w') a w:=
 FF hi hw v hx o.dst rfl ⟨v,rfl,aM _ _,fun _ _=>hv⟩
theorem An4{ops:Array Oper}{Q:Exit→Act→World→Prop}{V:Nat→Value→World→Prop}{i:Nat}{o:Oper}{a:Act}{w:World}(hi:ops[i]?=some o)(hw:bW o (yielded ops a.tmps)=true)(f:FuncId)(vs:Array Value)
  (hf:(execOp a.eval o).run aC w=.ok (.enter f vs) w) (h:Calls aC f vs w fun e w'=> ∃v,e=.returned v∧Below w.heap.size w w'∧V i v w'):wpOp aC ops Q i (fun a' w'=> ∃v,a'=a.put o.dst v∧Below w.heap.size w w'∧∀d,o.dst=some d→V i v w') a w:=
 Aa3 hi hw f vs hf _ h o.dst rfl (fun v w' hD=>by
  obtain⟨u,hu,hb,hv⟩:=hD
  obtain rfl:v=u:=by simpa using hu
  exact⟨v,rfl,hb,fun _ _=>hv⟩) (fun ch w' hD=>by obtain⟨u,hu,_⟩:=hD;cases hu) (fun w' hD=>by obtain⟨u,hu,_⟩:=hD;cases hu)
theorem Uh{ops:Array Oper}{Q:Exit→Act→World→Prop}{V:Nat→Value→World→Prop}{i:Nat}{o:Oper}{a:Act}{w:World}(hi:ops[i]?=some o)
  (h:wpList aC ops (fun e a' w'=>match e with | .normal=>(∃v,a'=a.put o.dst v∧Below w.heap.size w w'∧∀d,o.dst=some d→V i v w') | e=>Q e a' w') [o] a w):wpOp aC ops Q i (fun a' w'=> ∃v,a'=a.put o.dst v∧Below w.heap.size w w'∧∀d,o.dst=some d→V i v w') a w:=
 Et hi h
def JB(D:List Nat)(y:Nat→Value)(a:Act):Act:=D.foldl (fun b d=>b.put (some d) (y d)) a
theorem SP(y:Nat→Value):∀(D:List Nat) (a:Act),(JB D y a).tmps.size=a.tmps.size∧(JB D y a).defers=a.defers
 | [],a=>⟨rfl,rfl⟩
 | d::D,a=>by
  have:=SP y D (a.put (some d) (y d))
  exact⟨this.1.trans (OG _ _ _),this.2.trans rfl⟩
theorem SQ(y:Nat→Value):∀(D:List Nat) (a:Act),(∀d∈D,d<a.tmps.size)→∀k,(JB D y a).eval (.tmp k)=if k∈D then y k else a.eval (.tmp k)
 | [],a,_,k=>by simp[JB]
 | d::D,a,h,k=>by
  show(JB D y (a.put (some d) (y d))).eval (.tmp k)=_
  rw[SQ y D _ (fun e he=>by rw[OG];exact h e (by simp[he])) k]
  by_cases hk:k∈D
  ·rw[if_pos hk,if_pos (by simp[hk])]
  ·rw[if_neg hk,Kd _ _ _ _ (h d (by simp))]
   by_cases hkd:k=d
   ·rw[if_pos hkd,if_pos (by simp[hkd]),hkd]
   ·rw[if_neg hkd,if_neg (by simp[hk,hkd])]
theorem Aoc{a b:Act}(hs:a.tmps.size=b.tmps.size)(hd:a.defers=b.defers)(he:∀k,a.eval (.tmp k)=b.eval (.tmp k)):a=b:=by
 obtain⟨ta,da⟩:=a;obtain⟨tb,db⟩:=b;simp only at hs hd;subst hd;congr 1;refine Array.ext hs fun k h1 h2=> ?_;have:=he k;simp only[Act.eval,aA] at this;rw[aD h1,aD h2] at this;simpa using this
theorem PX{D:List Nat}{a a0:Act}(hs:a.tmps.size=a0.tmps.size)(hd:a.defers=a0.defers)(ho:∀d,d∉D→a.eval (.tmp d)=a0.eval (.tmp d))(hD:∀d∈D,d<a0.tmps.size):a=JB D (fun d=>a.eval (.tmp d)) a0:=by
 obtain⟨h1,h2⟩:=SP (fun d=>a.eval (.tmp d)) D a0;refine Aoc (hs.trans h1.symm) (hd.trans h2.symm) fun k=> ?_;rw[SQ _ _ _ hD];split
 ·rfl
 ·rename_i h;exact ho k h
structure Arg(ops:Array Oper)(V:Nat→Value→World→Prop)(D:List Nat)(I:Bool→World→Prop)(m:Nat)(a0:Act)(listed:Array Bool)(a:Act)(w:World):Prop where
 wld:I (listed.getD m false) w
 size:a.tmps.size=a0.tmps.size
 defers:a.defers=a0.defers
 other:∀d,d∉D→a.eval (.tmp d)=a0.eval (.tmp d)
 has:∀j o d,ops[j]?=some o→o.dst=some d→listed.getD j false=true→V j (a.eval (.tmp d)) w
structure AtM(ops:Array Oper)(V:Nat→Value→World→Prop)(D:List Nat)(I:Bool→World→Prop)(b:Bool)(a0:Act)(o:Oper)(a:Act)(w:World):Prop where
 wld:I b w
 size:a.tmps.size=a0.tmps.size
 defers:a.defers=a0.defers
 other:∀d,d∉D→a.eval (.tmp d)=a0.eval (.tmp d)
 has:∀e∈o.after,aP .any e=true→∀oj d,ops[e.on]?=some oj→oj.dst=some d→V e.on (a.eval (.tmp d)) w
theorem NU{P:Program}{id:Nat}{Q:Exit→Act→World→Prop}{a0:Act}{w0:World}{lo:List Oper}(n m:Nat)(V:Nat→Value→World→Prop)(I:Bool→World→Prop)(D:List Nat)(hm:P.follows .mixedOrders=true)(hmn:m<n)
  (hn:lo.length=n+1) (hD:(lo.filterMap (·.dst))=D) (hnd:D.Nodup) (hsz:∀d∈D,d<a0.tmps.size) (hdag:(lo.zipIdx.all fun x=>x.1.after.all fun e=>decide (e.on<x.2))=true)
  (hlast:(lo[n]?).map (fun o=>(List.range n).all fun j=>o.after.any fun e=>aP .any e&&(e.on==j || ((lo[e.on]?).map fun o'=>o'.after.any fun e'=>e'.on==j&&aP .any e').getD false))=some true)
  (hV:∀j v w w',V j v w→Below w.heap.size w w'→V j v w') (hI:∀b w w',I b w→Below w.heap.size w w'→I b w') (hI0:I false w0.drew)
  (hop:∀i o,lo[i]?=some o→i<n→i≠m→∀b a w,AtM lo.toArray V D I b a0 o a w→wpOp P lo.toArray Q i (fun a' w'=> ∃v,a'=a.put o.dst v∧Below w.heap.size w w'∧∀d,o.dst=some d→V i v w') a w)
  (hmid:∀o,lo[m]?=some o→∀a w,AtM lo.toArray V D I false a0 o a w→wpOp P lo.toArray Q m (fun a' w'=> ∃v,a'=a.put o.dst v∧I true w'∧(∀j u,j≠m→V j u w→V j u w')∧∀d,o.dst=some d→V m v w') a w)
  (hend:∀a w,I true w→a.tmps.size=a0.tmps.size→a.defers=a0.defers→(∀d,d∉D→a.eval (.tmp d)=a0.eval (.tmp d))→(∀j o d,j<n→lo[j]?=some o→o.dst=some d→V j (a.eval (.tmp d)) w)→wpOp P lo.toArray Q n (fun a' w'=>Q .normal a' w') a w):(Code.region id lo.toArray true).wp P Q a0 w0:=by
 refine wp_region_any hm ?_
 have hdag':∀(i:Nat) (o:Oper),lo.toArray[i]?=some o→∀e∈o.after,e.on<i:=fun i o ho e he=>by
  rw[bR] at hdag;have ho':lo[i]?=some o:=by simpa using ho
  obtain⟨hi,rfl⟩:=aH.1 ho';have:=hdag (lo[i],i) (List.mem_zipIdx_iff_getElem?.2 (aQ hi));simp only[aT] at this;simpa using this e he
 have hnd':=hnd;have hDa:(lo.toArray.toList.filterMap (·.dst))=D:=by simpa using hD
 have inD:∀(i:Nat) (o:Oper) (d:Nat),lo.toArray[i]?=some o→o.dst=some d→d∈D:=fun i o d ho hd=>by
  rw[←hD,List.mem_filterMap];exact⟨o,List.mem_of_getElem? (by simpa using ho),hd⟩
 have key:∀(f:Nat) (listed:Array Bool) (a:Act) (w:World),listed.toList.count false=f→listed.size=n+1→listed.getD n true=false→(∀(j:Nat) (oj:Oper),lo.toArray[j]?=some oj→listed.getD j false=true→∀e∈oj.after,aP .any e=true→listed.getD e.on false=true)→Arg lo.toArray V D I m a0 listed a w→wpAny P .any lo.toArray Q f listed a w:=by
  intro f;induction f with
  | zero=>
   intro listed a w hc hs hln hcl inv;exfalso
   have:false∈listed.toList:=by
    rw[aA,aD (by omega)] at hln;have h3:listed[n]'(by omega)=false:=by simpa using hln
    rw[←h3];exact bD.2 (bO (by omega))
   have:=bH.2 this;omega
  | succ f ih=>
   intro listed a w hc hs hln hcl inv;refine⟨fun hr=>absurd hr (Aal (by simpa[hn] using hs) hdag' n hln),fun i hi=> ?_⟩;obtain⟨hiu,o,ho,hdeps⟩:=mem_ready.1 hi
   have hil:i<listed.size:=by
    rw[aA] at hiu;rcases aL i listed.size with h1 | h1
    ·exact h1
    ·rw[aG h1] at hiu;simp at hiu
   have hcnt:=Ac0 listed i hiu
   have hup:∀k,listed.getD k false=true→(listed.setIfInBounds i true).getD k false=true:=fun k hk=>by
    by_cases hki:i=k
    ·subst hki;rw[aA,aN hil];rfl
    ·rw[G0 hki];exact hk
   have hcl':∀(j:Nat) (oj:Oper),lo.toArray[j]?=some oj→(listed.setIfInBounds i true).getD j false=true→∀e∈oj.after,aP .any e=true→(listed.setIfInBounds i true).getD e.on false=true:=fun j oj hoj hlj e he hb=>by
    by_cases hji:i=j
    ·subst hji;obtain rfl:oj=o:=aB (hoj.symm.trans ho);exact hup _ (hdeps e he hb)
    ·rw[G0 hji] at hlj;exact hup _ (hcl j oj hoj hlj e he hb)
   by_cases hin:i=n
   ·subst hin;have hol:lo[i]?=some o:=by simpa using ho
    have hall:∀j,j<i→listed.getD j false=true:=fun j hj=>by
     rw[hol] at hlast;simp only[bA,aJ,bR,List.mem_range] at hlast;have:=hlast j hj;rw[bI] at this;obtain⟨e,he,hb⟩:=this;rw[Bool.and_eq_true,Bool.or_eq_true] at hb;rcases hb.2 with h1 | h1
     ·rw[←beq_iff_eq.1 h1];exact hdeps e he hb.1
     ·cases hoe:lo[e.on]? with
      | none=>rw[hoe] at h1;simp at h1
      | some oe=>
       rw[hoe] at h1;simp only[bA,Option.getD_some] at h1;rw[bI] at h1;obtain⟨e',he',hb'⟩:=h1;rw[Bool.and_eq_true,beq_iff_eq] at hb';rw[←hb'.1];exact hcl e.on oe (by simpa using hoe) (hdeps e he hb.1) e' he' hb'.2
    refine wpOp_mono (fun a' w' hQ=> ?_) (hend a w (by have:=inv.wld;rwa [hall m hmn] at this) inv.size inv.defers inv.other (fun j oj d hj hoj hd=>inv.has j oj d (by simpa using hoj) hd (hall j hj)))
    have h0:(listed.setIfInBounds i true).toList.count false=0:=by
     rw[List.count_eq_zero];intro hmem;obtain⟨j,hj,hje⟩:=List.mem_iff_getElem.1 hmem;rw[Array.getElem_toList] at hje;have hj':j<listed.size:=by simpa using hj
     by_cases hji:i=j
     ·subst hji;rw[Array.getElem_setIfInBounds_self] at hje;simp at hje
     ·rw[Array.getElem_setIfInBounds_ne hj' hji] at hje;have:=hall j (by omega);rw[aA,aD hj'] at this;simp[hje] at this
    obtain rfl:f=0:=by omega
    exact⟨Aam h0,hQ⟩
   ·have hlt:i<n:=by omega
    have hol:lo[i]?=some o:=by simpa using ho
    by_cases him:i=m
    ·subst him;have hno:listed.getD i false=false:=Anh hiu;refine wpOp_mono (fun a' w' hK=> ?_) (hmid o hol a w ⟨by have:=inv.wld;rwa [hno] at this,inv.size,inv.defers,inv.other,fun e he hb oj d hoj hd=>inv.has e.on oj d hoj hd (hdeps e he hb)⟩);obtain⟨v,rfl,hIw,hst,hv⟩:=hK
     have hset:(listed.setIfInBounds i true).getD i false=true:=by
      rw[aA,aN hil];rfl
     refine ih _ _ _ (by omega) (by simpa using hs) (by rw[G0 hin];exact hln) hcl' ⟨by rw[hset];exact hIw,by rw[OG];exact inv.size,?_,fun d hd=> ?_,fun j oj d hoj hd hlj=> ?_⟩
     ·have:(a.put o.dst v).defers=a.defers:=by cases o.dst <;> rfl
      rw[this];exact inv.defers
     ·cases hdo:o.dst with
      | none=>exact inv.other d hd
      | some k=>
       rw[Kd _ _ _ _ (by rw[inv.size];exact hsz k (inD i o k ho hdo)),if_neg (fun h:d=k=>hd (by rw[h];exact inD i o k ho hdo))];exact inv.other d hd
     ·by_cases hji:j=i
      ·subst hji;obtain rfl:oj=o:=aB (hoj.symm.trans ho);rw[hd,Kd _ _ _ _ (by rw[inv.size];exact hsz d (inD j oj d ho hd)),if_pos rfl];exact hv d hd
      ·rw[G0 (Ne.symm hji)] at hlj;have h1:=hst _ _ hji (inv.has j oj d hoj hd hlj)
       cases hdo:o.dst with
       | none=>exact h1
       | some k=>
        have hkd:¬d=k:=fun h=>hji (Vs hDa hnd' hoj ho hd (by rw[h];exact hdo));rw[Kd _ _ _ _ (by rw[inv.size];exact hsz k (inD i o k ho hdo)),if_neg hkd];exact h1
    ·refine wpOp_mono (fun a' w' hK=> ?_) (hop i o hol hlt him (listed.getD m false) a w ⟨inv.wld,inv.size,inv.defers,inv.other,fun e he hb oj d hoj hd=>inv.has e.on oj d hoj hd (hdeps e he hb)⟩);obtain⟨v,rfl,hbw,hv⟩:=hK;refine ih _ _ _ (by omega) (by simpa using hs) (by rw[G0 hin];exact hln) hcl' ⟨by rw[G0 him];exact hI _ _ _ inv.wld hbw,by rw[OG];exact inv.size,?_,fun d hd=> ?_,fun j oj d hoj hd hlj=> ?_⟩
     ·have:(a.put o.dst v).defers=a.defers:=by cases o.dst <;> rfl
      rw[this];exact inv.defers
     ·cases hdo:o.dst with
      | none=>exact inv.other d hd
      | some k=>
       rw[Kd _ _ _ _ (by rw[inv.size];exact hsz k (inD i o k ho hdo)),if_neg (fun h:d=k=>hd (by rw[h];exact inD i o k ho hdo))];exact inv.other d hd
     ·by_cases hji:j=i
      ·subst hji;obtain rfl:oj=o:=aB (hoj.symm.trans ho);rw[hd,Kd _ _ _ _ (by rw[inv.size];exact hsz d (inD j oj d ho hd)),if_pos rfl];exact hv d hd
      ·rw[G0 (Ne.symm hji)] at hlj;have h1:=(fun h=>hV _ _ _ _ h hbw) (inv.has j oj d hoj hd hlj)
       cases hdo:o.dst with
       | none=>exact h1
       | some k=>
        have hkd:¬d=k:=fun h=>hji (Vs hDa hnd' hoj ho hd (by rw[h];exact hdo));rw[Kd _ _ _ _ (by rw[inv.size];exact hsz k (inD i o k ho hdo)),if_neg hkd];exact h1
 have hrep:(bB lo.toArray.size false).toList.count false=lo.toArray.size:=by simp
 refine key _ _ _ _ hrep (by simp[hn]) ?_ (fun j oj _ hl=> ?_) ⟨?_,rfl,rfl,fun _ _=>rfl,fun j o d _ _ hl=> ?_⟩
 ·rw[aA,aD (by simp[hn])];simp
 ·exfalso;rw[aA] at hl;rcases aL j (bB lo.toArray.size false).size with h1 | h1
  ·rw[aD h1] at hl;simp at hl
  ·rw[aG h1] at hl;simp at hl
 ·rw[aA,aD (by simp[hn];omega)];simpa using hI0
 ·exfalso;rw[aA] at hl;rcases aL j (bB lo.toArray.size false).size with h1 | h1
  ·rw[aD h1] at hl;simp at hl
  ·rw[aG h1] at hl;simp at hl
theorem GB{o:Oper}{x:Operand}(ho:o.op=.nilCheck x)(a:Act)(W:World)(ad:Addr)(hx:a.eval x=.pointer (some ad)):(execOp a.eval o).run aC W=.ok (.value (.pointer (some ad))) W:=by
  unfold execOp;simp only[ho,hx];simp[go_sem]
theorem Qe(W:World)(ad:Addr)(n:Int)(h:W.cell? ad=some (.int .i64 n)):(bJ 3 (.pointer (some ad))).run aC W=.ok (.int .i64 n) W:=by
  simp[go_sem,h]
theorem Af5{L:List Int}(hL:L.length=13)(W:World)(p:Nat)(h:W.heap[p]?=some (.cells (hv L) 35 (0,0))):(bJ 35 (.pointer (some ⟨p,0,none⟩))).run aC W=.ok (.agg (hv L)) W:=by
  simp only[bJ,Instr.sureAddr,Sem.run_bind,Sem.run_pure,Result.andThen_ok];exact run_loadVar_row W p 35 35 (hv L) (0,0) _ h Tryz.underlying35 rfl (KE L hL)
theorem Ahr{o:Oper}{x y:Operand}(ho:o.op=.binOp .add 3 x y 3)(a:Act)(W:World)(m n:Int)(hx:a.eval x=.int .i64 m)(hy:a.eval y=.int .i64 n)(hw:IntKind.i64.wrap (m+n)=m+n):(execOp a.eval o).run aC W=.ok (.value (.int .i64 (m+n))) W:=by
  unfold execOp;simp only[ho,hx,hy];simp[go_sem,hw]
theorem PV{o:Oper}{t:Nat}{ps:Array (Nat×Operand)}(ho:o.op=.build t ps)(a:Act)(W:World)(qs:Array (Nat×Value))(hq:(ps.map fun(i,x)=>(i,a.eval x))=qs)(v:Value)(h:(Instr.build t qs).run aC W=.ok v W):(execOp a.eval o).run aC W=.ok (.value v) W:=by
  unfold execOp;simp only[ho,Sem.run_bind,hq,h,Result.andThen_ok,Sem.run_pure]
def Aln:List Oper:=[
  { dst := some 29, op := .move (.tmp 0), type := 85, pos := "wait.go:41", after := #[], guard := none },
  { dst := some 30, op := .move (.tmp 0), type := 85, pos := "wait.go:41", after := #[], guard := none },
  { dst := some 31, op := .nilCheck (.tmp 30), type := 0, pos := "wait.go:41", after := #[{ on := 1, ground := .data }], guard := none },
  { dst := some 32, op := .fieldAddr 157 (.tmp 31) 4, type := 0, pos := "wait.go:41", after := #[{ on := 2, ground := .data }], guard := none },
  { dst := some 33, op := .load 62 (.tmp 32), type := 62, pos := "wait.go:41", after := #[{ on := 3, ground := .data }], guard := none },
  { dst := some 34, op := .move (.tmp 0), type := 85, pos := "wait.go:41", after := #[], guard := none },
  { dst := some 35, op := .nilCheck (.tmp 34), type := 0, pos := "wait.go:41", after := #[{ on := 5, ground := .data }], guard := none },
  { dst := some 36, op := .fieldAddr 157 (.tmp 35) 3, type := 0, pos := "wait.go:41", after := #[{ on := 6, ground := .data }], guard := none },
  { dst := some 37, op := .load 3 (.tmp 36), type := 3, pos := "wait.go:41", after := #[{ on := 7, ground := .data }], guard := none },
  { dst := some 38, op := .move (.tmp 1), type := 3, pos := "wait.go:41", after := #[], guard := none },
  { dst := some 39, op := .load 35 (.tmp 6), type := 35, pos := "wait.go:41", after := #[], guard := none },
  { dst := some 40, op := .move (.tmp 3), type := 3, pos := "wait.go:41", after := #[], guard := none },
  { dst := some 41, op := .call { callee := .value (.func 111), args := #[.tmp 40], argTypes := #[3] }, type := 3, pos := "wait.go:41", after := #[{ on := 11, ground := .data }], guard := none },
  { dst := some 42, op := .move (.tmp 0), type := 85, pos := "wait.go:41", after := #[], guard := none },
  { dst := some 43, op := .nilCheck (.tmp 42), type := 0, pos := "wait.go:41", after := #[{ on := 13, ground := .data }], guard := none },
  { dst := some 44, op := .fieldAddr 157 (.tmp 43) 2, type := 0, pos := "wait.go:41", after := #[{ on := 14, ground := .data }], guard := none },
  { dst := some 45, op := .load 3 (.tmp 44), type := 3, pos := "wait.go:41", after := #[{ on := 15, ground := .data }], guard := none },
  { dst := some 46, op := .binOp .add 3 (.tmp 41) (.tmp 45) 3, type := 3, pos := "wait.go:41", after := #[{ on := 12, ground := .data }, { on := 16, ground := .data }], guard := none },
  { dst := some 47, op := .build 112 #[(0, .tmp 37), (1, .tmp 38), (2, .tmp 39), (3, .const (.int .i64 1)), (4, .tmp 46)], type := 112, pos := "wait.go:41", after := #[{ on := 8, ground := .data }, { on := 9, ground := .data }, { on := 10, ground := .data }, { on := 17, ground := .data }], guard := none },
  { dst := some 48, op := .buildSlice 62 1 #[(0, .tmp 47)], type := 62, pos := "wait.go:41", after := #[{ on := 18, ground := .data }], guard := none },
  { dst := some 49, op := .call { callee := .builtin .append, args := #[.tmp 33, .tmp 48], argTypes := #[62, 62] }, type := 62, pos := "wait.go:41", after := #[{ on := 4, ground := .data }, { on := 19, ground := .data }, { on := 12, ground := .chain }], guard := none },
  { dst := some 50, op := .nilCheck (.tmp 29), type := 0, pos := "wait.go:41", after := #[{ on := 0, ground := .data }, { on := 0, ground := .phase }, { on := 1, ground := .phase }, { on := 2, ground := .phase }, { on := 3, ground := .phase }, { on := 4, ground := .phase }, { on := 5, ground := .phase }, { on := 6, ground := .phase }, { on := 7, ground := .phase }, { on := 8, ground := .phase }, { on := 9, ground := .phase }, { on := 10, ground := .phase }, { on := 11, ground := .phase }, { on := 12, ground := .phase }, { on := 13, ground := .phase }, { on := 14, ground := .phase }, { on := 15, ground := .phase }, { on := 16, ground := .phase }, { on := 17, ground := .phase }, { on := 18, ground := .phase }, { on := 19, ground := .phase }, { on := 20, ground := .phase }], guard := none },
  { dst := some 51, op := .fieldAddr 157 (.tmp 50) 4, type := 0, pos := "wait.go:41", after := #[{ on := 21, ground := .data }, { on := 0, ground := .phase }, { on := 1, ground := .phase }, { on := 2, ground := .phase }, { on := 3, ground := .phase }, { on := 4, ground := .phase }, { on := 5, ground := .phase }, { on := 6, ground := .phase }, { on := 7, ground := .phase }, { on := 8, ground := .phase }, { on := 9, ground := .phase }, { on := 10, ground := .phase }, { on := 11, ground := .phase }, { on := 12, ground := .phase }, { on := 13, ground := .phase }, { on := 14, ground := .phase }, { on := 15, ground := .phase }, { on := 16, ground := .phase }, { on := 17, ground := .phase }, { on := 18, ground := .phase }, { on := 19, ground := .phase }, { on := 20, ground := .phase }], guard := none },
  { dst := none, op := .store 62 (.tmp 51) (.tmp 49), type := 0, pos := "wait.go:41", after := #[{ on := 22, ground := .data }, { on := 20, ground := .data }, { on := 20, ground := .chain }, { on := 0, ground := .phase }, { on := 1, ground := .phase }, { on := 2, ground := .phase }, { on := 3, ground := .phase }, { on := 4, ground := .phase }, { on := 5, ground := .phase }, { on := 6, ground := .phase }, { on := 7, ground := .phase }, { on := 8, ground := .phase }, { on := 9, ground := .phase }, { on := 10, ground := .phase }, { on := 11, ground := .phase }, { on := 12, ground := .phase }, { on := 13, ground := .phase }, { on := 14, ground := .phase }, { on := 15, ground := .phase }, { on := 16, ground := .phase }, { on := 17, ground := .phase }, { on := 18, ground := .phase }, { on := 19, ground := .phase }, { on := 20, ground := .phase }], guard := none }]
def Ss:List Nat:=[29,30,31,32,33,34,35,36,37,38,39,40,41,42,43,44,45,46,47,48,49,50,51]
def QD(g B H:Nat)(L:List Int)(c:AN)(s i t:Int)(now cl:Int)(vv:Value)(C:List AN)(j:Nat)(v:Value)(w:World):Prop:=
  match j with
  | 0=>v=.pointer (some ⟨g,0,none⟩)
  | 1=>v=.pointer (some ⟨g,0,none⟩)
  | 2=>v=.pointer (some ⟨g,0,none⟩)
  | 3=>v=.pointer (some ⟨g,4,none⟩)
  | 4=>v=vv
  | 5=>v=.pointer (some ⟨g,0,none⟩)
  | 6=>v=.pointer (some ⟨g,0,none⟩)
  | 7=>v=.pointer (some ⟨g,3,none⟩)
  | 8=>v=.int .i64 s
  | 9=>v=.int .i64 i
  | 10=>v=.agg (hv L)
  | 11=>v=.int .i64 now
  | 12=>v=.int .i64 cl
  | 13=>v=.pointer (some ⟨g,0,none⟩)
  | 14=>v=.pointer (some ⟨g,0,none⟩)
  | 15=>v=.pointer (some ⟨g,2,none⟩)
  | 16=>v=.int .i64 t
  | 17=>v=.int .i64 (cl+t)
  | 18=>v=.agg (AD c)
  | 19=> ∃k,v=.slice (some ⟨k,0,none⟩) 1 1∧H≤k∧w.heap[k]?=some (.cells (AD c) 112 (0,0))
  | 20=>AU B w v (C++[c])∧(v.ownBlock=vv.ownBlock∨∀k,v.ownBlock=some k→H≤k)
  | 21=>v=.pointer (some ⟨g,0,none⟩)
  | 22=>v=.pointer (some ⟨g,4,none⟩)
  | _=>True
theorem Aha(g B H:Nat)(L:List Int)(c:AN)(s i t:Int)(now cl:Int)(vv:Value)(C:List AN):∀j v w w',QD g B H L c s i t now cl vv C j v w→Below w.heap.size w w'→QD g B H L c s i t now cl vv C j v w':=by
  intro j v w w' h hb;revert h;unfold QD
  split <;> intro h <;> first
    | exact h
    | (obtain⟨k,h1,h2,h3⟩:=h
       exact⟨k,h1,h2,(hb.block k (gS h3)).trans h3⟩)
    | exact⟨h.1.below hb,h.2⟩
theorem Aa8{id:Nat}{Q:Exit→Act→World→Prop}{a0:Act}{w0:World}(hs:56≤a0.tmps.size)(g p B:Nat)(L:List Int)(hL:L.length=13)(s i t now cl:Int)(c:AN)(hc:c=⟨s,i,L,1,cl+t⟩)(vv:Value)(C:List AN)(cs:Array Value)
    (ho0:a0.eval (.tmp 0)=.pointer (some ⟨g,0,none⟩)) (ho1:a0.eval (.tmp 1)=.int .i64 i) (ho3:a0.eval (.tmp 3)=.int .i64 now) (ho6:a0.eval (.tmp 6)=.pointer (some ⟨p,0,none⟩))
    (hg:w0.heap[g]?=some (.cells cs 157 (0,0))) (hc2:cs[2]?=some (.int .i64 t)) (hc3:cs[3]?=some (.int .i64 s)) (hc4:cs[4]?=some (vv)) (hp:w0.heap[p]?=some (.cells (hv L) 35 (0,0)))
    (hcl:∀W,Calls aC 111 #[.int .i64 now] W fun e w'=>e=.returned (.int .i64 cl)∧w'=W) (hwt:IntKind.i64.wrap (cl+t)=cl+t) (hrow:AU B w0 vv C) (hB:B≤w0.heap.size) (hlen:C.length≤100000)
    (hK:∀y w' u,As (BT vv) w0 w'→AU B w' u (C++[c])→(u.ownBlock=vv.ownBlock∨∀k,u.ownBlock=some k→w0.heap.size≤k)→Q .normal (JB Ss y a0) (w'.setCell ⟨g,4,none⟩ u)):(Code.region id Aln.toArray true).wp aC Q a0 w0:=by
  have hDs:∀d∈Ss,d<a0.tmps.size:=fun d hd=>by
    have:d<56:=by
      revert hd;unfold Ss;intro hd;simp only[List.mem_cons,List.not_mem_nil,or_false] at hd;omega
    omega
  have fa2:∀W,(aI 157 (.pointer (some ⟨g,0,none⟩)) 2).run aC W=.ok (.pointer (some ⟨g,2,none⟩)) W:=fun W=>by simp[go_sem]
  have fa3:∀W,(aI 157 (.pointer (some ⟨g,0,none⟩)) 3).run aC W=.ok (.pointer (some ⟨g,3,none⟩)) W:=fun W=>by simp[go_sem]
  have fa4:∀W,(aI 157 (.pointer (some ⟨g,0,none⟩)) 4).run aC W=.ok (.pointer (some ⟨g,4,none⟩)) W:=fun W=>by simp[go_sem]
  have cf:∀vs W,(callFunc 111 vs).run aC W=.ok (.enter 111 vs) W:=fun vs W=>by have hf:=Tryz.func111;simp[go_sem]
  have nrg:¬BT vv g:=JC hrow hg (by decide);have nrp:¬BT vv p:=JC hrow hp (by decide);have frm:∀w,As (BT vv) w0 w→w.heap[g]?=some (.cells cs 157 (0,0))∧w.heap[p]?=some (.cells (hv L) 35 (0,0))∧w0.heap.size≤w.heap.size:=fun w h=>⟨h.heap hg nrg,h.heap hp nrp,h.size⟩
  have frb:∀(b:Bool) (w:World),(if b then As (BT vv) w0 w else Below w0.heap.size w0 w)→As (BT vv) w0 w:=fun b w h=>by
    cases b with
    | true=>exact h
    | false=>exact As.of_below h
  refine NU 23 20 (QD g B w0.heap.size L c s i t now cl vv C) (fun b w=>if b then As (BT vv) w0 w else Below w0.heap.size w0 w) Ss (by kernel_rfl) (by decide) rfl (by kernel_rfl) (by decide) hDs (by kernel_rfl) (by kernel_rfl) (Aha g B w0.heap.size L c s i t now cl vv C) ?_ ?_ ?_ ?_ ?_
  · intro b w w' h hb
    cases b with
    | true=>exact As.add h hb
    | false=>exact Below.trans h (hb.mono (Below.size h))
  · exact(aM _ _).drew
  · intro j o ho hj hjm b a w h;have kw:=frm w (frb b w h.wld);have kws:=kw.2.2;rcases(show j=0∨j=1∨j=2∨j=3∨j=4∨j=5∨j=6∨j=7∨j=8∨j=9∨j=10∨j=11∨j=12∨j=13∨j=14∨j=15∨j=16∨j=17∨j=18∨j=19∨j=21∨j=22 by omega) with rfl | rfl | rfl | rfl | rfl | rfl | rfl | rfl | rfl | rfl | rfl | rfl | rfl | rfl | rfl | rfl | rfl | rfl | rfl | rfl | rfl | rfl
    · obtain rfl:=aB ho;have f0:a.eval (.tmp 0)=.pointer (some ⟨g,0,none⟩):=(h.other 0 (by decide)).trans ho0;exact Cf rfl rfl _ (EA rfl _ _ _ f0) rfl
    · obtain rfl:=aB ho;have f0:a.eval (.tmp 0)=.pointer (some ⟨g,0,none⟩):=(h.other 0 (by decide)).trans ho0;exact Cf rfl rfl _ (EA rfl _ _ _ f0) rfl
    · obtain rfl:=aB ho;have f0:a.eval (.tmp 30)=.pointer (some ⟨g,0,none⟩):=h.has ⟨1,.data⟩ (by simp) rfl _ 30 rfl rfl;exact Cf rfl rfl _ (GB rfl _ _ _ f0) rfl
    · obtain rfl:=aB ho;have f0:a.eval (.tmp 31)=.pointer (some ⟨g,0,none⟩):=h.has ⟨2,.data⟩ (by simp) rfl _ 31 rfl rfl;exact Cf rfl rfl _ (FSx rfl _ _ _ ((congrArg (fun y=>(aI 157 y 4).run aC w) f0).trans (fa4 w))) rfl
    · obtain rfl:=aB ho;have f0:a.eval (.tmp 32)=.pointer (some ⟨g,4,none⟩):=h.has ⟨3,.data⟩ (by simp) rfl _ 32 rfl rfl;exact Cf rfl rfl _ (GC rfl _ _ _ _ f0 (Nw (e:=112) bK _ _ _ (by rw[cell_of_row _ _ _ _ _ _ kw.1];exact hc4))) rfl
    · obtain rfl:=aB ho;have f0:a.eval (.tmp 0)=.pointer (some ⟨g,0,none⟩):=(h.other 0 (by decide)).trans ho0;exact Cf rfl rfl _ (EA rfl _ _ _ f0) rfl
    · obtain rfl:=aB ho;have f0:a.eval (.tmp 34)=.pointer (some ⟨g,0,none⟩):=h.has ⟨5,.data⟩ (by simp) rfl _ 34 rfl rfl;exact Cf rfl rfl _ (GB rfl _ _ _ f0) rfl
    · obtain rfl:=aB ho;have f0:a.eval (.tmp 35)=.pointer (some ⟨g,0,none⟩):=h.has ⟨6,.data⟩ (by simp) rfl _ 35 rfl rfl;exact Cf rfl rfl _ (FSx rfl _ _ _ ((congrArg (fun y=>(aI 157 y 3).run aC w) f0).trans (fa3 w))) rfl
    · obtain rfl:=aB ho;have f0:a.eval (.tmp 36)=.pointer (some ⟨g,3,none⟩):=h.has ⟨7,.data⟩ (by simp) rfl _ 36 rfl rfl;exact Cf rfl rfl _ (GC rfl _ _ _ _ f0 (Qe _ _ _ (by rw[cell_of_row _ _ _ _ _ _ kw.1];exact hc3))) rfl
    · obtain rfl:=aB ho;have f0:a.eval (.tmp 1)=.int .i64 i:=(h.other 1 (by decide)).trans ho1;exact Cf rfl rfl _ (EA rfl _ _ _ f0) rfl
    · obtain rfl:=aB ho;have f0:a.eval (.tmp 6)=.pointer (some ⟨p,0,none⟩):=(h.other 6 (by decide)).trans ho6;exact Cf rfl rfl _ (GC rfl _ _ _ _ f0 (Af5 hL _ _ kw.2.1)) rfl
    · obtain rfl:=aB ho;have f0:a.eval (.tmp 3)=.int .i64 now:=(h.other 3 (by decide)).trans ho3;exact Cf rfl rfl _ (EA rfl _ _ _ f0) rfl
    · obtain rfl:=aB ho;have f0:a.eval (.tmp 40)=.int .i64 now:=h.has ⟨11,.data⟩ (by simp) rfl _ 40 rfl rfl;exact An4 rfl rfl 111 #[.int .i64 now] (Aag rfl cf _ _ _ f0) ((hcl w).mono fun e w1 hh=>⟨_,hh.1,by rw[hh.2];exact aM _ _,rfl⟩)
    · obtain rfl:=aB ho;have f0:a.eval (.tmp 0)=.pointer (some ⟨g,0,none⟩):=(h.other 0 (by decide)).trans ho0;exact Cf rfl rfl _ (EA rfl _ _ _ f0) rfl
    · obtain rfl:=aB ho;have f0:a.eval (.tmp 42)=.pointer (some ⟨g,0,none⟩):=h.has ⟨13,.data⟩ (by simp) rfl _ 42 rfl rfl;exact Cf rfl rfl _ (GB rfl _ _ _ f0) rfl
    · obtain rfl:=aB ho;have f0:a.eval (.tmp 43)=.pointer (some ⟨g,0,none⟩):=h.has ⟨14,.data⟩ (by simp) rfl _ 43 rfl rfl;exact Cf rfl rfl _ (FSx rfl _ _ _ ((congrArg (fun y=>(aI 157 y 2).run aC w) f0).trans (fa2 w))) rfl
    · obtain rfl:=aB ho;have f0:a.eval (.tmp 44)=.pointer (some ⟨g,2,none⟩):=h.has ⟨15,.data⟩ (by simp) rfl _ 44 rfl rfl;exact Cf rfl rfl _ (GC rfl _ _ _ _ f0 (Qe _ _ _ (by rw[cell_of_row _ _ _ _ _ _ kw.1];exact hc2))) rfl
    · obtain rfl:=aB ho;have f0:a.eval (.tmp 41)=.int .i64 cl:=h.has ⟨12,.data⟩ (by simp) rfl _ 41 rfl rfl;have f1:a.eval (.tmp 45)=.int .i64 t:=h.has ⟨16,.data⟩ (by simp) rfl _ 45 rfl rfl;exact Cf rfl rfl _ (Ahr rfl _ _ _ _ f0 f1 hwt) rfl
    · obtain rfl:=aB ho;have b0:a.eval (.tmp 37)=.int .i64 s:=h.has ⟨8,.data⟩ (by simp) rfl _ 37 rfl rfl;have b1:a.eval (.tmp 38)=.int .i64 i:=h.has ⟨9,.data⟩ (by simp) rfl _ 38 rfl rfl;have b2:a.eval (.tmp 39)=.agg (hv L):=h.has ⟨10,.data⟩ (by simp) rfl _ 39 rfl rfl;have b4:a.eval (.tmp 46)=.int .i64 (cl+t):=h.has ⟨17,.data⟩ (by simp) rfl _ 46 rfl rfl;exact Cf rfl rfl _ (PV rfl _ _ #[(0,.int .i64 s),(1,.int .i64 i),(2,.agg (hv L)),(3,.int .i64 1),(4,.int .i64 (cl+t))] (by simp only[List.map_toArray,List.map_cons,List.map_nil,b0,b1,b2,b4];rfl) _ (by rw[hc];exact Ago s i (cl+t) hL w)) rfl
    · obtain rfl:=aB ho;have f0:a.eval (.tmp 47)=.agg (AD c):=h.has ⟨18,.data⟩ (by simp) rfl _ 47 rfl rfl;refine Uh rfl ?_;refine Ki (E:=Js) Lh rfl _ rfl (AD c) rfl f0 ?_;exact⟨_,rfl,(aM _ _).alloc (aO _) _,fun _ _=>⟨_,rfl,kws,Ab _ _ _ rfl⟩⟩
    · obtain rfl:=aB ho;have f0:a.eval (.tmp 29)=.pointer (some ⟨g,0,none⟩):=h.has ⟨0,.data⟩ (by simp) rfl _ 29 rfl rfl;exact Cf rfl rfl _ (GB rfl _ _ _ f0) rfl
    · obtain rfl:=aB ho;have f0:a.eval (.tmp 50)=.pointer (some ⟨g,0,none⟩):=h.has ⟨21,.data⟩ (by simp) rfl _ 50 rfl rfl;exact Cf rfl rfl _ (FSx rfl _ _ _ ((congrArg (fun y=>(aI 157 y 4).run aC w) f0).trans (fa4 w))) rfl
  · intro o ho a w h;obtain rfl:=aB ho;have hb:Below w0.heap.size w0 w:=h.wld;have g1:a.eval (.tmp 33)=vv:=h.has ⟨4,.data⟩ (by simp) rfl _ 33 rfl rfl;obtain⟨k,g2,g3,g4⟩:∃k,a.eval (.tmp 48)=.slice (some ⟨k,0,none⟩) 1 1∧w0.heap.size≤k∧w.heap[k]?=some (.cells (AD c) 112 (0,0)):=h.has ⟨19,.data⟩ (by simp) rfl _ 48 rfl rfl;have hown:AU B w vv C:=hrow.below hb;refine Et rfl ?_;refine Od rfl _ _ rfl B vv C c g1 hown k 1 g2 g4 (by omega) (Nat.le_trans hB hb.size) ?_;intro v' w3 hown3 hgr3 hq3;have k3:As (BT vv) w0 w3:=(As.of_below hb).trans (As.of_grown hgr3 fun k e=>e) fun k e=> .inl e;refine⟨v',rfl,k3,?_,fun _ _=>⟨hown3,?_⟩⟩
    · intro j z hj;unfold QD
      split <;> intro hz <;> first
        | exact hz
        | exact absurd rfl hj
        | (obtain⟨k,q1,q2,q3⟩:=hz
           exact⟨k,q1,q2,(hgr3.block k (gS q3) (fun hq=>by have:=(hrow.lt k hq.symm).2;omega)).trans q3⟩)
    · rcases hq3 with e | e
      · exact .inl e
      · exact .inr fun k e'=>by rw[e] at e';have:=aB e';have:=hb.size;omega
  · intro a w hI hsz hdf hot hh;have kw:As (BT vv) w0 w:=hI;have hvm:QD g B w0.heap.size L c s i t now cl vv C 20 (a.eval (.tmp 49)) w:=hh 20 _ 49 (by decide) rfl rfl;obtain⟨q1,q2⟩:=hvm;have q3:a.eval (.tmp 51)=.pointer (some ⟨g,4,none⟩):=hh 22 _ 51 (by decide) rfl rfl;obtain⟨v',hv'⟩:∃v',a.eval (.tmp 49)=v':=⟨_,rfl⟩;rw[hv'] at q1 q2;obtain⟨o3,cap3,hv3⟩:=Pi q1;have c3:w.cell? ⟨g,4,none⟩=some vv:=by rw[cell_of_row _ _ _ _ _ _ (frm w kw).1];exact hc4
    have hst:(Instr.storeAt 62 (.pointer (some ⟨g,4,none⟩)) v').run aC w=.ok () (w.setCell ⟨g,4,none⟩ v'):=OF (ty:=62) (fun W=>Tryz.sizeOf62 W) w ⟨g,4,none⟩ v' vv ⟨o3,_,cap3,hv3⟩ c3 (FZ (frm w kw).1 rfl);refine Gx (w':=w.setCell ⟨g,4,none⟩ v') rfl rfl (NT rfl _ _ _ _ _ q3 hv' hst) rfl ?_;show Q .normal a (w.setCell ⟨g,4,none⟩ v');rw[PX hsz hdf hot hDs];exact hK _ w v' kw q1 q2
def E6(p:Prop):Prop:=p
theorem Dk{p:Prop}(h:E6 p):p:=h
theorem Se(g off j:Nat):(⟨g,off,none⟩:Addr).add j=⟨g,off+j,none⟩:=by unfold Addr.add;split <;> simp_all
def Br(w:World)(v:Value)(L:List UInt8):Prop:=
 ∃(o:Option Addr) (cap:Nat),v=.slice o L.length cap∧L.length≤cap∧cap≤maxLen∧(o=none→cap=0)∧∀(i:Nat) (hi:i<L.length),∃g off cur t fr,o=some ⟨g,off,none⟩∧w.heap[g]?=some (.cells cur t fr)∧cur[off+i]?=some (.int .u8 (L[i].toNat:Int))
theorem Br.of_heap{w w':World}{v:Value}{L:List UInt8}(h:Br w v L)(hb:∀g o,w.heap[g]?=some o→v.ownBlock=some g→w'.heap[g]?=some o):Br w' v L:=by
 obtain⟨o,cap,rfl,h1,h2,h3,h4⟩:=h;refine⟨o,cap,rfl,h1,h2,h3,fun i hi=> ?_⟩;obtain⟨g,off,cur,t,fr,rfl,h5,h6⟩:=h4 i hi;exact⟨g,off,cur,t,fr,rfl,hb _ _ h5 rfl,h6⟩
theorem Br.below{w w':World}{v:Value}{L:List UInt8}(h:Br w v L)(hb:Below w.heap.size w w'):Br w' v L:=
 h.of_heap fun g _ hg _=>(hb.block g (gS hg)).trans hg
theorem Br.alloc{w:World}{v:Value}{L:List UInt8}(h:Br w v L)(x:Obj):Br (w.alloc x) v L:=
 h.of_heap fun _ _ hg _=>Ah _ _ _ _ hg
theorem Br.grown{w w':World}{v:Value}{L:List UInt8}(h:Br w v L){row:Option Nat}(hg:w.grownBy w' row)(hne:∀g,v.ownBlock=some g→row≠some g):Br w' v L:=
 h.of_heap fun g _ hq hv=>(hg.block g (gS hq) fun e=>hne g hv e.symm).trans hq
theorem Br.slice{w:World}{v:Value}{L:List UInt8}(h:Br w v L):∃o cap,v=.slice o L.length cap∧L.length≤cap∧cap≤maxLen:=by
 obtain⟨o,cap,rfl,h1,h2,_⟩:=h;exact⟨o,cap,rfl,h1,h2⟩
theorem Br.len{w:World}{o:Option Addr}{n cap:Nat}{L:List UInt8}(h:Br w (.slice o n cap) L):n=L.length:=by
 obtain⟨o',cap',h1,_⟩:=h;simp only[aW] at h1;exact h1.2.1
theorem Br.at{w:World}{o:Option Addr}{n cap:Nat}{L:List UInt8}(h:Br w (.slice o n cap) L)(k:Nat)(hk:k<n):
  ∃g off,∃c:UInt8,o=some ⟨g,off,none⟩∧w.cell? ⟨g,off+k,none⟩=some (.int .u8 (c.toNat:Int))∧L[k]?=some c:=by
 obtain⟨o',cap',h1,_,_,_,h3⟩:=h;simp only[aW] at h1;obtain⟨rfl,rfl,rfl⟩:=h1;obtain⟨g,off,cur,t,fr,h4,h5,h6⟩:=h3 k hk;exact⟨g,off,L[k],h4,by rw[cell_of_row _ _ _ _ _ _ h5];exact h6,aQ hk⟩
theorem Br.part{w:World}{o:Option Addr}{n cap:Nat}{L:List UInt8}(h:Br w (.slice o n cap) L)(g off p q cap':Nat)(ho:o=some ⟨g,off,none⟩)(hq:p+q≤n)(hc1:q≤cap')(hc2:cap'≤maxLen):Br w (.slice (some ⟨g,off+p,none⟩) q cap') ((L.drop p).take q):=by
 have hn:=h.len;obtain⟨o',cap0,h1,h2,h3,h4,h5⟩:=h;simp only[aW] at h1;obtain⟨rfl,rfl,rfl⟩:=h1;have hl:((L.drop p).take q).length=q:=by simp;omega
 refine⟨some ⟨g,off+p,none⟩,cap',by rw[hl],by omega,hc2,(fun e=>by cases e),fun i hi=> ?_⟩;rw[hl] at hi;obtain⟨g',off',cur,t,fr,e,h6,h7⟩:=h5 (p+i) (by omega);rw[ho] at e;simp only[aJ,Addr.mk.injEq,and_true] at e;obtain⟨rfl,rfl⟩:=e;refine⟨g,off+p,cur,t,fr,rfl,h6,?_⟩;rw[Nat.add_assoc,h7];simp[List.getElem_take,List.getElem_drop]
theorem Ao0(w:World):Br w (.slice none 0 0) []:=⟨none,0,rfl,aO _,bQ _,fun _=>rfl,fun i hi=>absurd hi (by simp)⟩
theorem X5(w:World)(a:Addr)(cap:Nat)(h:cap≤maxLen):Br w (.slice (some a) 0 cap) []:=⟨some a,cap,rfl,bQ _,h,(fun e=>by cases e),fun i hi=>absurd hi (by simp)⟩
def AB(B:Nat)(w:World)(v:Value)(L:List UInt8):Prop:=w.ownsRow B 5 1 v L.length (aR L)
theorem NJ(L:List UInt8)(i:Nat)(hi:i<L.length):(aR L)[i]?=some (.int .u8 (L[i].toNat:Int)):=by simp[aR,hi]
theorem AB.sl{B:Nat}{w:World}{v:Value}{L:List UInt8}(h:AB B w v L):Br w v L:=by
 obtain⟨h1,⟨rfl,h2⟩ | ⟨g,cap,cur,rfl,hB,hcur,h5,h6,_,h4⟩⟩:=h
 ·exact⟨none,0,by rw[h2],by omega,bQ _,fun _=>rfl,fun i hi=>by omega⟩
 ·refine⟨_,cap,rfl,h5,h6,(fun e=>by cases e),fun i hi=>⟨g,0,cur,_,_,rfl,hcur,?_⟩⟩;rw[←NJ L i hi, ←h4,Nat.mul_one,aX hi,Nat.zero_add];simp
theorem AB.nil(B:Nat)(w:World):AB B w (.slice none 0 0) []:=World.ownsRow_nil _ _ _ _
theorem AB.base{B B':Nat}{w:World}{v:Value}{L:List UInt8}(h:AB B w v L)(hB:B'≤B):AB B' w v L:=by
 obtain⟨h1,h2 | ⟨g',cap,cur,rfl,hB,h3⟩⟩:=h
 ·exact⟨h1,.inl h2⟩
 ·exact⟨h1,.inr ⟨g',cap,cur,rfl,by omega,h3⟩⟩
theorem AB.below{B:Nat}{w w':World}{v:Value}{L:List UInt8}(h:AB B w v L)(hb:Below w.heap.size w w'):AB B w' v L:=by
 obtain⟨h1,h2 | ⟨g,cap,cur,rfl,hB,hcur,h3⟩⟩:=h
 ·exact⟨h1,.inl h2⟩
 ·exact⟨h1,.inr ⟨g,cap,cur,rfl,hB,(hb.block g (gS hcur)).trans hcur,h3⟩⟩
theorem AB.ge{B:Nat}{w:World}{v:Value}{L:List UInt8}(h:AB B w v L):∀g,v.ownBlock=some g→B≤g∧g<w.heap.size:=fun g hg=>World.ownsRow.lt h g hg
theorem Al7:∃i,aC.info? 5=some i∧i.zero=some (.int .u8 0)∧i.size=1∧i.bytes=1:=by
 have h:(aC.info? 5).map (fun i=>(i.zero,i.size,i.bytes))=some (some (.int .u8 0),1,1):=by kernel_rfl
 cases hi:aC.info? 5 with
 | none=>rw[hi] at h;simp at h
 | some i=>
  rw[hi] at h;simp only[bA,aJ,Prod.mk.injEq] at h;exact⟨i,rfl,h.1,h.2.1,h.2.2⟩
theorem H9{ops:Array Oper}{rest:List Oper}{o:Oper}{a:Act}{w:World}{Q:Exit→Act→World→Prop}(hgd:o.guard=none)(s x:Operand)(ho:o.op=.call {callee:=.builtin .append,args:=#[s,x],argTypes:=#[70,70]})
  (B:Nat) (v u:Value) (L M:List UInt8) (hs:a.eval s=v) (hb:AB B w v L) (hx:a.eval x=u) (hM:Br w u M) (hn:L.length+M.length≤140737488355328) (hB:B≤w.heap.size)
  (h:∀v' w',AB B w' v' (L++M)→w.grownBy w' v.ownBlock→(v'.ownBlock=v.ownBlock∨v'.ownBlock=some w.heap.size)→wpList aC ops Q rest (a.put o.dst v') w'):wpList aC ops Q (o::rest) a w:=by
 obtain⟨i,hi,hz,h1,h2⟩:=Al7;obtain⟨oa,cap,rfl,hc1,hc2,hc3,hc4⟩:=hM
 cases oa with
 | none=>
  have h0:M=[]:=by
   cases M with
   | nil=>rfl
   | cons c M=>obtain⟨g,off,cur,t,fr,e,_⟩:=hc4 0 (by simp);cases e
  subst h0;obtain rfl:=hc3 rfl;refine wpList_append_own_none hgd s x 70 ho B 5 i 1 aK hi v _ _ hs hb hx ?_;refine h v w (by rw[bT];exact hb) ⟨rfl,rfl,rfl,aO _,fun _ _ _=>rfl⟩ (.inl rfl)
 | some ad=>
  refine wpList_append_own_at _ hgd s x 70 ho B 5 i (.int .u8 0) 1 1 aK hi hz h1 h2 rfl (by decide) v _ _ hs hb ad M.length cap (aR M) hx (by rw[bE];omega) ?_ ?_ (by unfold maxLen;omega) (by omega) hB ?_
  ·intro j c hj
   have hjl:j<M.length:=by
    have:=(aH.1 hj).1;rwa [bE] at this
   obtain⟨g,off,cur,t,fr,e,h5,h6⟩:=hc4 j hjl;obtain rfl:=aB e;rw[Se,cell_of_row _ _ _ _ _ _ h5,h6, ←hj,NJ M j hjl]
  ·intro c hc;unfold aR at hc;obtain⟨b,_,rfl⟩:=List.mem_map.1 hc;rfl
  ·intro v' w' hown hgr _ hat;refine h v' w' ?_ hgr hat;unfold AB;rw[bF,Lib.byteCells_append];exact hown
theorem Wz(w:World)(v:Value)(L:List UInt8)(h:Br w v L):(convert 70 9 v).run aC w=.ok (.string ⟨L.toArray⟩) w:=by
 obtain⟨o,cap,rfl,h1,h2,h3,h4⟩:=h
 cases L with
 | nil=>
  cases o with
  | none=>exact run_convert_bytes_nil w 70 5 aK aY _ _ 9 aZ
  | some a=>
   rw[run_convert_bytes_string w 70 9 5 _ _ _ aK aY aZ];exact run_bytesToString w a 0 cap [] rfl
 | cons c L=>
  obtain⟨g,off,_,_,_,rfl,_⟩:=h4 0 (by simp)
  have hx:∀i,i<(c::L).length→w.cell? ⟨g,off+i,none⟩=some (.int .u8 (((c::L).map fun b=>(b.toNat:Int)).getD i 0)):=fun i hi=>by
   obtain⟨g',off',cur,t,fr,e,h5,h6⟩:=h4 i hi;simp only[aJ,Addr.mk.injEq,and_true] at e;obtain⟨rfl,rfl⟩:=e;rw[cell_of_row _ _ _ _ _ _ h5,h6,List.getD_eq_getElem?_getD,List.getElem?_map,aQ hi];rfl
  rw[run_convert_bytes_arg w 70 5 aK aY g off _ cap ((c::L).map fun b=>(b.toNat:Int)) (by simp) hx 9 aZ];congr 2;unfold strOfNums;congr 1;rw[List.map_map];congr 1
  conv=>rhs;rw[←List.map_id (c::L)]
  refine List.map_congr_left fun b _=> ?_;simp
end
end Go.Proofs.YtbhkoipcpcoooaaGreat
