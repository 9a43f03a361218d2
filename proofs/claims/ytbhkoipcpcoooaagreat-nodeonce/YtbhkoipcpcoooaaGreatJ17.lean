import Derived.Test.YtbhkoipcpcoooaaGreatJ16
import Derived.Test.YtbhkoipcpcoooaaGreatJ9
import Derived.Test.YtbhkoipcpcoooaaGreatJ3
import Derived.BigQuiet
import Derived.Test.YtbhkoipcpcoooaaGreatJ12
import Derived.Test.YtbhkoipcpcoooaaGreatJ8
import Derived.Test.YtbhkoipcpcoooaaGreatJ2
import Derived.Test.YtbhkoipcpcoooaaGreatJ4
import Derived.Test.YtbhkoipcpcoooaaGreatJ11
import Derived.Test.YtbhkoipcpcoooaaGreatJ13
namespace Go.Proofs.YtbhkoipcpcoooaaGreat
set_option maxRecDepth 20000
set_option maxHeartbeats 64000000
open Go
open Go.Proofs.Tryz renaming prog → aA
open Go.World renaming drew → aB
open _root_.Nat renaming lt_of_lt_of_le → aC, le_refl → aD, zero_add → aI, lt_succ_self → aN
open Go.Instr renaming build → aG
open Go.RowKit.Below renaming refl → aH
open Go.Region renaming noSelect → aJ, ready → aQ
section
open Go.RowKit
def Akx:Ag:=⟨112,17⟩
theorem TP:Akx.Ok:=⟨⟨_,Tryz.underlying112,rfl⟩,by kernel_rfl⟩
theorem Vr:∀ {l:List AN},(l.Pairwise fun x y=>x.seq<y.seq)→∀ {i:Nat} {x:AN},l[i]?=some x→l.find? (KH x.seq)=some x∧(l.filter fun y=> !(KH x.seq y))=l.eraseIdx i
 | [],_,i,x,h=>by simp at h
 | a::l,hp,i,x,h=>by
  obtain⟨h1,h2⟩:=List.pairwise_cons.1 hp
  cases i with
  | zero=>
   obtain rfl:a=x:=by simpa using h
   have e:KH a.seq a=true:=by unfold KH;simp
   refine⟨by rw[List.find?_cons,e],?_⟩
   rw[List.filter_cons,e]
   simp only[Bool.not_true,Bool.false_eq_true,if_false,List.eraseIdx_cons_zero]
   exact List.filter_eq_self.2 fun y hy=>by unfold KH;have:=h1 y hy;simp;omega
  | succ i=>
   rw[List.getElem?_cons_succ] at h
   obtain⟨q1,q2⟩:=Vr h2 h
   have:=h1 x (List.mem_of_getElem? h)
   have e:KH x.seq a=false:=by unfold KH;simp;omega
   refine⟨by rw[List.find?_cons,e];exact q1,?_⟩
   rw[List.filter_cons,e,List.eraseIdx_cons_succ,q2]
   rfl
theorem Acr{m:Be}(hok:Dn m){i:Nat}{x:AN}(hx:m.l[i]?=some x){s:Int}(hs:x.seq=s):BH m s=({m with l:=m.l.eraseIdx i},some x):=by
 subst hs;obtain⟨h1,h2⟩:=Vr hok.rise hx;unfold BH Ac4;rw[h1,h2]
theorem Zh{m:Be}{s:Int}(h:∀(j:Nat) (x:AN),m.l[j]?=some x→x.seq≠s):BH m s=(m,none):=by
 have:m.l.find? (KH s)=none:=List.find?_eq_none.2 fun x hx=>by
  obtain⟨j,hj⟩:=List.getElem?_of_mem hx;have:=h j x hj;unfold KH;simpa using this
 unfold BH;rw[this]
theorem Rt(B:Nat)(w:World)(g:Nat)(m:Be)(v:Value)(h:Dt B w g m v)(hm:Ga m)(s:Int):
  Calls aA 112 #[.pointer (some ⟨g,0,none⟩),.int .i64 s] w fun e w'=>e=.returned (.tuple #[.agg (AD ((BH m s).2.getD C9)),.bool (BH m s).2.isSome])∧Nh B w w' g (BH m s).1 v:=by
 obtain⟨w0,hw0⟩:=eX (w.alloc (.cells (AD C9) 112));have B0:Below w.heap.size w w0:=by rw[hw0];exact(aH _ _).alloc (aD _) _
 obtain⟨p,hp⟩:=eX w.heap.size;have Z0:w0.heap[p]?=some (.cells (AD C9) 112 (0,0)):=by rw[hw0,hp];exact Ab _ _ _ rfl
 have hgp:g≠p:=by have:=h.foot_in g (.inl rfl);omega
 have h0:=h.below B0;obtain⟨o,cap,hv,hc1,hc2⟩:=h.own.slice;have hl64:=hm.len;obtain⟨q,hq⟩:=eX m.l.length;rw[←hq] at hv hc1 hl64;have HQ:Hid _:=hq
 have HF:Hid (∀W,Below w0.heap.size w0 W→W.cell? ⟨g,4,none⟩=some v∧W.frozen? ⟨g,4,none⟩=false∧Ee Js AD W v m.l∧W.heap[p]?=some (.cells (AD C9) 112 (0,0))):=fun W hb=>
  ⟨(h0.below hb).f.c4,(h0.below hb).f.fz _,(h0.below hb).own.sl,(hb.block p (gS Z0)).trans Z0⟩
 have HN:Hid ((∀(j:Nat) (x:AN),m.l[j]?=some x→x.seq≠s)→BH m s=(m,none)):=fun e=>Zh e;have HS:Hid (∀W,Below w0.heap.size w0 W→Dt B W g m v∧Below w.heap.size w W):=fun W hb=>⟨h0.below hb,B0.trans (hb.mono B0.size)⟩;have HY:Hid (∀(i:Nat) (x:AN),m.l[i]?=some x→x.seq=s→BH m s=({m with l:=m.l.eraseIdx i},some x)):=fun i x e1 e2=>Acr hm.ok e1 e2
 have HD:Hid (∀W (i:Nat),Below w0.heap.size w0 W→i<q→Calls aA 143 #[v,.int .i64 (i:Int),.int .i64 ((i:Int)+1)] W fun e w'=> ∃u,e=.returned u∧AU B w' u (m.l.eraseIdx i)∧u.ownBlock=v.ownBlock∧As (BT v) W w'):=fun W i hb hi=>
  Y8 B W v _ (h0.below hb).own i (by rw[←hq];exact hi) (by rw[←hq];omega)
 have HX:Hid (∀W W' u (i:Nat),Below w0.heap.size w0 W→AU B W' u (m.l.eraseIdx i)→u.ownBlock=v.ownBlock→As (BT v) W W'→W'.cell? ⟨g,4,none⟩=some v∧W'.frozen? ⟨g,4,none⟩=false∧(∀k ob,W.heap[k]?=some (.cells (AD ob) 112 (0,0))→w.heap.size≤k→(W'.setCell ⟨g,4,none⟩ u).heap[k]?=some (.cells (AD ob) 112 (0,0)))∧∀W2,(As (Cq p) (W'.setCell ⟨g,4,none⟩ u) W2)→Nh B w W2 g {m with l:=m.l.eraseIdx i} v):=fun W W' u i hb hu hq1 hk=>by
  have hW:=h0.below hb;have hbW:Below w.heap.size w W:=B0.trans (hb.mono B0.size);have hgx:¬BT v g:=JC hW.own hW.blk (by decide);have hf:=Wj (hk.heap hW.blk hgx);have hp1:=hW.put (m':={m with l:=m.l.eraseIdx i}) hk hu (.inl hq1) rfl;refine⟨hf.c4,hf.fz _,fun k ob e hk1=> ?_,fun W2 h2=>⟨u,hp1.1.kept h2 fun k e e'=> ?_,?_⟩⟩
  ·have e1:¬BT v k:=fun e'=>by have:=(h.own.lt k e').2;omega
   have e2:k≠g:=fun e'=>by have:=(h.foot_in g (.inl rfl)).2;omega
   rw[heap_setCell_other W' ⟨g,4,none⟩ k _ e2];exact hk.heap e e1
  ·unfold Cq at e';subst e';rcases e with e | e
   ·exact hgp e.symm
   ·rw[hq1] at e;have:=(h.own.lt _ e).2;omega
  ·have k1:=(FQ.of_below (F:=EO g v) hbW).trans hp1.2;exact⟨k1.kept.trans h2 fun k e=> .inr (by unfold Cq at e;omega),k1.foot⟩
 have HPW:Hid _:=hp;have HFT:Hid (¬EO g v w.heap.size):=fun e=>by have:=(h.foot_in _ e).2;omega
 have HIL:Hid (∀(i:Nat) (W':World) u,AU B W' u (m.l.eraseIdx i)→∃o q c,u=.slice o q c):=fun i W' u hu=>by
  obtain⟨o,cap,e,_⟩:=hu.slice;exact⟨o,_,cap,e⟩
 unfold maxLen at hc2;rw[hp] at hgp;clear h h0 hm hq B0 Z0;subst hv;subst hp;go_enter Tryz.func112,Tryz.ntmps112;go_wp2_with (first|(((with_reducible refine Ad2 rfl ?_);refine UH rfl rfl ?_;try rw[Je]);refine Ak ?_));unfold AA;rw[←hw0];have HW0:Hid _:=hw0;clear hw0;have HB0:Hid (Below w0.heap.size w0 w0):=aH _ _;obtain⟨c4,fz4,_,_⟩:=HF.out w0 HB0.out;go_wp2_with fail;go_loopw [16] (fun s16 wr=> ∃k:Nat,k≤q∧s16=.int .i64 (k:Int)∧(∀(j:Nat) (x:AN),j<k→m.l[j]?=some x→x.seq≠s)∧Below w0.heap.size w0 wr) (fun s16 _=>q-(intOf s16).toNat)
 case atStart=>exact⟨0,Nat.zero_le _,rfl,fun j x hj=>by omega,HB0.out⟩
 case round=>
  obtain⟨k,hk,rfl,hno,hb⟩:=hrel;have HNO:Hid _:=hno;have HB:Hid _:=hb;obtain⟨c4,fz4,hgs,Z⟩:=HF.out wr hb;obtain⟨o0,cap0,hv0,hcp0,hcm0⟩:=hgs.slice;by_cases hlt:k<q
  ·have hlt':(k:Int)<(q:Int):=by omega
   obtain⟨g',off,cur,ty,fr,x,rfl,hg,hcc,hxk⟩:=hgs.at k hlt;have LD:(loadVar 112 ⟨g',off+k*17,none⟩).run aA wr=.ok (.agg (AD x)) wr:=On hg hcc;obtain⟨w1,hw1⟩:=eX (wr.alloc (.cells (AD x) 112));have B1:Hid (Below w0.heap.size w0 w1):=by show Below _ _ _;rw[hw1];exact HB.out.alloc HB.out.size _
   have A1:w1.heap[wr.heap.size]?=some (.cells (AD x) 112 (0,0)):=by rw[hw1];exact Ab _ _ _ rfl
   have f0:=(FO A1).c0;have HA1:Hid _:=A1;have HXK:Hid _:=hxk;have SR:(wr.alloc (.cells (AD C9) 112)).setRow wr.heap.size (AD x)=w1:=by rw[hw1];exact Bo _ _ _ _ _ rfl
   clear hno hb hgs hg hcc hxk hv0 A1 hw1
   go_wp2_with (first
    | ((with_reducible refine IJ _ rfl ?_);refine GS rfl _ rfl g' (off+k*17) rfl x LD ?_)
    | (((with_reducible refine Oc _ _ rfl ?_);refine Kg rfl _ _ rfl wr.heap.size x C9 rfl rfl (Ab _ _ _ rfl) _ SR ?_);refine Ak ?_))
   unfold AA;clear LD SR;obtain⟨c4,fz4,_,_⟩:=HF.out w1 B1.out;obtain⟨sx,hsx⟩:=eX x.seq;have HSX:Hid _:=hsx;rw[←hsx] at f0;clear hsx;by_cases e1:sx=s
   ·subst e1;have hcall:=HD.out w1 k B1.out hlt;have hwr:IntKind.i64.wrap ((k:Int)+1)=(k:Int)+1:=by rw[IntKind.wrap_i64];omega
    go_wp2_with (go_at_call 143;refine hcall.mono ?_;rintro e w2 ⟨u,rfl,q1,q2,q3⟩;refine Ak ?_);unfold AA;obtain⟨o2,n2,p2,rfl⟩:=HIL.out k w2 u q1;obtain⟨f1,f2,f3,f4⟩:=HX.out w1 w2 _ k B1.out q1 q2 q3;have F4:Hid _:=f4;have LX:=Lt (f3 wr.heap.size x HA1.out (Nat.le_trans (by rw[HW0.out];simp) HB.out.size));have ZX:=f3 w.heap.size C9 ((HF.out w1 B1.out).2.2.2) (aD _);have HA:Hid (BH m sx=({m with l:=m.l.eraseIdx k},some x)):=HY.out k x HXK.out HSX.out.symm;have HZW:Hid (As (Cq w.heap.size) (w2.setCell ⟨g,4,none⟩ (.slice o2 n2 p2)) ((w2.setCell ⟨g,4,none⟩ (.slice o2 n2 p2)).setRow w.heap.size (AD x))∧((w2.setCell ⟨g,4,none⟩ (.slice o2 n2 p2)).setRow w.heap.size (AD x)).heap[w.heap.size]?=some (.cells (AD x) 112 (0,0))):=⟨⟨rfl,rfl,rfl,by simp,fun k _ hk=>setRow_other _ _ k _ hk⟩,setRow_heap _ _ _ _ _ _ ZX⟩;clear q1 q2 q3 f3 f4 hcall
    go_wp2_with (first
     | ((with_reducible refine IJ _ rfl ?_);refine GS rfl _ rfl wr.heap.size 0 rfl x LX ?_)
     | (((with_reducible refine Oc _ _ rfl ?_);refine Kg rfl _ _ rfl w.heap.size x C9 rfl rfl ZX _ rfl ?_)))
    refine GE (E:=Akx) TP rfl rfl w.heap.size rfl (AD x) rfl HZW.out.2 (.bool true) rfl ?_;rw[HA.out];exact⟨rfl,F4.out _ HZW.out.1⟩
   ·have d1:(sx==s)=false:=by simpa using e1
    go_wp2_with fail;go_roundw
    case rel=>
     refine⟨k+1,by omega,by go_num,fun j y hj hy=> ?_,B1.out⟩;by_cases hjk:j=k
     ·subst hjk;rw[HXK.out] at hy;obtain rfl:=Option.some.inj hy;rw[←HSX.out];exact e1
     ·exact HNO.out j y (by omega) hy
    case measure=>simp[intOf];omega
  ·have hlt':¬(k:Int)<(q:Int):=by omega
   have HA:Hid (BH m s=(m,none)):=HN.out fun j x e=>hno j x (by have:=(List.getElem?_eq_some_iff.1 e).1;rw[←HQ.out] at this;omega) e;have HZW:Hid (As (Cq w.heap.size) wr (wr.setRow w.heap.size (AD C9))∧(wr.setRow w.heap.size (AD C9)).heap[w.heap.size]?=some (.cells (AD C9) 112 (0,0))):=⟨⟨rfl,rfl,rfl,by simp,fun k _ hk=>setRow_other _ _ k _ hk⟩,setRow_heap _ _ _ _ _ _ Z⟩;clear hno hb hgs hv0
   go_wp2_with (first
    | ((with_reducible refine Aoh rfl ?_);refine Ad4 rfl rfl ?_)
    | (((with_reducible refine Oc _ _ rfl ?_);refine Kg rfl _ _ rfl w.heap.size C9 C9 rfl rfl Z _ rfl ?_)))
   refine GE (E:=Akx) TP rfl rfl w.heap.size rfl (AD C9) rfl HZW.out.2 (.bool false) rfl ?_;rw[HA.out];obtain⟨t1,t2⟩:=HS.out wr HB.out;refine⟨rfl,_,t1.kept HZW.out.1 fun k e e'=> ?_,(As.of_below t2).trans HZW.out.1 fun k e=> .inr (by unfold Cq at e;omega),fun k e=> .inl e⟩;unfold Cq at e';subst e';exact HFT.out e
theorem Ey{P:Program}{c:Code}{Q:Exit→Act→World→Prop}{a:Act}{w:World}(h:c.wp P (fun e a' w'=>e=.normal∧Q .normal a' w') a w):c.wp P Q a w:=
 Code.wp_mono (by rintro e a' w' ⟨rfl,h⟩;exact h) h
def Tg(md:Region.Mode)(ops:Array Oper):List Nat→Array Bool→Bool
 | [],_=>true
 | k::ks,listed=>(aQ md ops listed).contains k&&Region.free md ops listed k&&Tg md ops ks (listed.setIfInBounds k true)
def MA:List Nat→Array Bool→Array Bool
 | [],l=>l
 | k::ks,l=>MA ks (l.setIfInBounds k true)
def P9 : Oper := { dst := none, op := .move (.tmp 0), type := 0, pos := "", after := #[], guard := none }
def J2(lo:List Oper)(ks:List Nat):List Oper:=ks.map fun k=>(lo.drop k).headD P9
theorem Rb{P:Program}{md:Region.Mode}{ops:Array Oper}{Q:Exit→Act→World→Prop}{S:World→Prop}{g:Nat}(hs:aJ ops=true)(hQ:∀d v c a w,Q (.panic c) (Act.put a d v) w→Q (.panic c) a w)(w:World)(hS:S w)(get:Nat→Oper):
  ∀(ks:List Nat) (listed:Array Bool) (a:Act),(∀k∈ks,ops[k]?=some (get k))→Tg md ops ks listed=true→(ks.all fun k=>KY (get k))=true→
   wpQuiet P ops S (fun a'=>wpAnyH P md ops Q S g (MA ks listed) a' w) (ks.map get) a→wpAnyH P md ops Q S (ks.length+g) listed a w
 | [],_,_,_,_,_,h=>by simpa[wpQuiet,MA] using h
 | k::ks,listed,a,hl,hB,hr,h=>by
  have h0:ops[k]?=some (get k):=hl k List.mem_cons_self
  simp only[Tg,Bool.and_eq_true] at hB
  simp only[List.all_cons,Bool.and_eq_true] at hr
  have hst:qOp P ops S k (wpQuiet P ops S (fun a'=>wpAnyH P md ops Q S g (MA (k::ks) listed) a' w) (ks.map get)) a:=by
   unfold qOp;simp only[h0];exact h
  obtain⟨v,hy,hK⟩:=yieldsIn_of_qOp h0 hst;have ih:=Rb hs hQ w hS get ks (listed.setIfInBounds k true) (a.put (get k).dst v) (fun j hj=>hl j (List.mem_cons_of_mem _ hj)) hB.2 hr.2 hK;rw[show(k::ks).length+g=(ks.length+g)+1 by simp;omega];exact wpAnyH_take h0 hs hB.1.2 hB.1.1 (fun c a w=>hQ (get k).dst v c a w) (Ob hr.1 hy) hS ih
theorem Fx{P:Program}{Q:Exit→Act→World→Prop}{S:World→Prop}{a:Act}{w:World}{lo:List Oper}{listed:Array Bool}(ks:List Nat)(n g:Nat)(hn:ks.length=n)(hs:aJ lo.toArray=true)
  (hl:(ks.all fun k=>decide (k<lo.length))=true) (hB:Tg .any lo.toArray ks listed=true) (hr:(ks.all fun k=>KY ((lo.drop k).headD P9))=true) (hQ:∀d v c a w,Q (.panic c) (Act.put a d v) w→Q (.panic c) a w) (hS:S w)
  (h:wpQuiet P lo.toArray S (fun a'=>wpAnyH P .any lo.toArray Q S g (MA ks listed) a' w) (J2 lo ks) a):wpAnyH P .any lo.toArray Q S (n+g) listed a w:=by
 have:=Rb (P:=P) (md:=.any) (Q:=Q) (g:=g) hs hQ w hS (fun k=>(lo.drop k).headD P9) ks listed a (fun k hk=>by
  rw[List.all_eq_true] at hl;have hk':k<lo.length:=of_decide_eq_true (hl k hk);show lo.toArray[k]?=_;rw[List.getElem?_toArray,List.getElem?_eq_getElem hk',List.drop_eq_getElem_cons hk'];rfl) hB hr h
 rwa [hn] at this
theorem JA{P:Program}{Q:Exit→Act→World→Prop}{S:World→Prop}{a:Act}{w:World}{lo:List Oper}{listed:Array Bool}{g:Nat}(k:Nat)(hr:aQ .any lo.toArray listed=[k])
  (h:wpOp P lo.toArray Q k (fun a' w'=>S w'∧wpAnyH P .any lo.toArray Q S g (listed.setIfInBounds k true) a' w') a w):wpAnyH P .any lo.toArray Q S (g+1) listed a w:=
 wpAnyH_all hr (by simp) fun i hi=>by obtain rfl:=List.mem_singleton.1 hi;exact h
theorem Kz{ops:Array Oper}{Q:Exit→Act→World→Prop}{i:Nat}{o:Oper}{K:Act→World→Prop}{a:Act}{w:World}(hi:ops[i]?=some o)(hw:Region.wanted o (yielded ops a.tmps)=true)(t:Nat)(ps:Array (Nat×Operand))(ho:o.op=.build t ps)(qs:Array (Nat×Value))(hq:(ps.toList.map fun p=>(p.1,a.eval p.2))=qs.toList)(v:Value)
  (h:(aG t qs).run aA w=.ok v w) (d:Option Tmp) (hd:o.dst=d) (hK:K (a.put d v) w):wpOp aA ops Q i K a w:=by
 have hq':(ps.map fun(i,x)=>(i,a.eval x))=qs:=Array.ext' (by rw[Array.toList_map];exact hq);exact FF hi hw v (by unfold execOp;simp only[ho,Sem.run_bind,hq',h,Result.andThen_ok,Sem.run_pure]) d hd hK
theorem rR{P:Program}{Q:Exit→Act→World→Prop}{S:World→Prop}{a:Act}{w:World}{lo:List Oper}{listed:Array Bool}(ks:List Nat)(n g:Nat)(hS:S w)(h:wpQuiet P lo.toArray S (fun a'=>wpAnyH P .any lo.toArray Q S g (MA ks listed) a' w) (J2 lo ks) a)(hn:ks.length=n:=by rfl)(hs:aJ lo.toArray=true:=by kernel_rfl)(hl:(ks.all fun k=>decide (k<lo.length))=true:=by decide)(hB:Tg .any lo.toArray ks listed=true:=by kernel_rfl)(hr:(ks.all fun k=>KY ((lo.drop k).headD P9))=true:=by kernel_rfl)(hQ:∀d v c a w,Q (.panic c) (Act.put a d v) w→Q (.panic c) a w:=by intro d v c a w h;exact absurd h.1 (by simp)):wpAnyH P .any lo.toArray Q S (n+g) listed a w:=Fx ks n g hn hs hl hB hr hQ hS h
theorem pk:(∀(lo:List Oper) (k:Nat) (ks:List Nat),J2 lo (k::ks)=(lo.drop k).headD P9::J2 lo ks)∧(∀lo:List Oper,J2 lo []=[])∧(∀(a:Oper) (l:List Oper) (n:Nat),(a::l).drop (n+1)=l.drop n)∧(∀l:List Oper,l.drop 0=l)∧∀(a b:Oper) (l:List Oper),(a::l).headD b=a:=⟨fun _ _ _=>rfl,fun _=>rfl,fun _ _ _=>rfl,fun _=>rfl,fun _ _ _=>rfl⟩
structure Av(B:Nat)(w W:World)(g gt gh gw:Nat)(R:Rm)(n':Af Aq)(r:D0)(O:Nat→Prop):Prop where
 ex:∃u,Cb B W g gt gh gw R n' u∧FQ (DL g gt gh gw r) (DL g gt gh gw u) w W∧∀k,O k→¬DL g gt gh gw u k∧w.heap.size≤k∧k<W.heap.size
section
variable {B:Nat} {w W W':World} {g gt gh gw:Nat} {R:Rm} {n n':Af Aq} {r:D0} {O:Nat→Prop}
theorem Av.begin(h:Cb B w g gt gh gw R n r)(hb:Below w.heap.size w W)(hO:∀k,O k→w.heap.size≤k∧k<W.heap.size):Av B w W g gt gh gw R n r O:=
 ⟨r,h.below hb,FQ.of_below hb,fun k hk=>⟨fun e=>by have:=(h.foot_in k e).2;have:=(hO k hk).1;omega,hO k hk⟩⟩
theorem Av.to(a:Av B w W g gt gh gw R n' r O):Dl B w W g gt gh gw R n' r:=by
 obtain⟨u,h1,h2,_⟩:=a;exact⟨u,h1,h2⟩
theorem Av.below(a:Av B w W g gt gh gw R n' r O)(hb:Below W.heap.size W W'):Av B w W' g gt gh gw R n' r O:=by
 obtain⟨u,h1,h2,h3⟩:=a;exact⟨u,h1.below hb,h2.add hb,fun k hk=>⟨(h3 k hk).1,(h3 k hk).2.1,aC (h3 k hk).2.2 hb.size⟩⟩
theorem Av.more{O':Nat→Prop}(a:Av B w W g gt gh gw R n' r O)(hb:Below W.heap.size W W')(hO:∀k,O' k→O k∨W.heap.size≤k∧k<W'.heap.size):Av B w W' g gt gh gw R n' r O':=by
 obtain⟨u,h1,h2,h3⟩:=a;refine⟨u,h1.below hb,h2.add hb,fun k hk=> ?_⟩;rcases hO k hk with e | e
 ·exact⟨(h3 k e).1,(h3 k e).2.1,aC (h3 k e).2.2 hb.size⟩
 ·exact⟨fun e'=>by have:=(h1.foot_in k e').2;omega,Nat.le_trans h2.kept.size e.1,e.2⟩
theorem Av.own(a:Av B w W g gt gh gw R n' r O){X:Nat→Prop}(hX:∀k,X k→O k)(hK:As X W W'):Av B w W' g gt gh gw R n' r O:=by
 obtain⟨u,h1,h2,h3⟩:=a;refine⟨u,h1.kept hK fun k hk hx=>(h3 k (hX k hx)).1 hk,⟨h2.kept.trans hK fun k hk=> .inr (h3 k (hX k hk)).2.1,h2.foot⟩,fun k hk=>⟨(h3 k hk).1,(h3 k hk).2.1,aC (h3 k hk).2.2 hK.size⟩⟩
theorem Av.row(a:Av B w W g gt gh gw R n' r O){p:Nat}(hp:O p)(cs:Array Value):Av B w (W.setRow p cs) g gt gh gw R n' r O:=
 a.own (X:=Cq p) (fun k e=>by obtain rfl:k=p:=e;exact hp) ⟨rfl,rfl,rfl,by simp[World.setRow],fun k _ e=>setRow_other _ _ _ _ e⟩
theorem Av.cell(a:Av B w W g gt gh gw R n' r O){p:Nat}(hp:O p)(j:Nat)(v:Value):Av B w (W.setCell ⟨p,j,none⟩ v) g gt gh gw R n' r O:=
 a.own (X:=Cq p) (fun k e=>by obtain rfl:k=p:=e;exact hp) ⟨rfl,rfl,rfl,by simp[World.setCell],fun k _ e=>heap_setCell_other W ⟨p,j,none⟩ k _ e⟩
def Ec(O:Nat→Prop)(W W':World):Prop:=∀k,O k→W'.heap[k]?=W.heap[k]?
theorem Av.step(a:Av B w W g gt gh gw R n' r O){n'':Af Aq}(ht:∀u,Cb B W g gt gh gw R n' u→Dl B W W' g gt gh gw R n'' u):Av B w W' g gt gh gw R n'' r O∧Ec O W W':=by
 obtain⟨u,h1,h2,h3⟩:=a;obtain⟨x,h4,h5⟩:=ht u h1;refine⟨⟨x,h4,h2.trans h5,fun k hk=>⟨fun e=> ?_,(h3 k hk).2.1,aC (h3 k hk).2.2 h5.kept.size⟩⟩,fun k hk=>h5.kept.block k (h3 k hk).2.2 (h3 k hk).1⟩;rcases h5.foot k e with e | e
 ·exact(h3 k hk).1 e
 ·have:=(h3 k hk).2.2;omega
theorem Av.call(a:Av B w W g gt gh gw R n' r O){n'':Af Aq}{f:FuncId}{args:Array Value}{P:Ending→World→Prop}(hc:∀u,Cb B W g gt gh gw R n' u→Calls aA f args W fun e w'=>P e w'∧Dl B W w' g gt gh gw R n'' u):
  Calls aA f args W fun e w'=>P e w'∧Av B w w' g gt gh gw R n'' r O∧Ec O W w':=by
 obtain⟨u,h1,h2,h3⟩:=a;refine(hc u h1).mono fun e w' h=>⟨h.1,?_⟩;obtain⟨x,h4,h5⟩:=h.2;refine⟨⟨x,h4,h2.trans h5,fun k hk=>⟨fun e=> ?_,(h3 k hk).2.1,aC (h3 k hk).2.2 h5.kept.size⟩⟩,fun k hk=>h5.kept.block k (h3 k hk).2.2 (h3 k hk).1⟩;rcases h5.foot k e with e | e
 ·exact(h3 k hk).1 e
 ·have:=(h3 k hk).2.2;omega
theorem Av.ask(a:Av B w W g gt gh gw R n' r O){f:FuncId}{args:Array Value}{P:Ending→World→Prop}(hc:∀u,Cb B W g gt gh gw R n' u→Calls aA f args W P):Calls aA f args W P:=by
 obtain⟨u,h1,_⟩:=a;exact hc u h1
theorem Av.ndV(a:Av B w W g gt gh gw R n' r O):∃u,Cb B W g gt gh gw R n' u:=by
 obtain⟨u,h1,_⟩:=a;exact⟨u,h1⟩
end
structure Fu(g gt gh gw:Nat)(nu le be:Int)(X:World→Prop) where
 world:World
 blk:∃(n:Af Aq) (r:D0),world.heap[g]?=some (.cells (ndV n gt gh gw r) 91 (0,0))∧n.num=nu∧n.lease=le∧n.beat=be
 x:X world
section
variable {g gt gh gw:Nat} {nu le be:Int} {X:World→Prop}
theorem Fu.c4(z:Fu g gt gh gw nu le be X):z.world.cell? ⟨g,4,none⟩=some (.pointer (some ⟨gt,0,none⟩)):=by obtain⟨n,r,h,_⟩:=z.blk;exact(S6 h).c4
theorem Fu.c5(z:Fu g gt gh gw nu le be X):z.world.cell? ⟨g,5,none⟩=some (.pointer (some ⟨gh,0,none⟩)):=by obtain⟨n,r,h,_⟩:=z.blk;exact(S6 h).c5
theorem Fu.c6(z:Fu g gt gh gw nu le be X):z.world.cell? ⟨g,6,none⟩=some (.pointer (some ⟨gw,0,none⟩)):=by obtain⟨n,r,h,_⟩:=z.blk;exact(S6 h).c6
abbrev DN(g gt gh gw:Nat)(nu le be:Int)(X:World→Prop)(w:World):Prop:=∃z:Fu g gt gh gw nu le be X,w=z.world
theorem Av.inN{B:Nat}{w W:World}{R:Rm}{n':Af Aq}{r:D0}{O:Nat→Prop}(a:Av B w W g gt gh gw R n' r O)(h1:n'.num=nu)(h2:n'.lease=le)(h3:n'.beat=be)(hx:X W):DN g gt gh gw nu le be X W:=by
 obtain⟨u,h,_⟩:=a;exact⟨⟨W,⟨n',u,h.blk,h1,h2,h3⟩,hx⟩,rfl⟩
end
theorem Kf.bank20{n:Nat}{R:Rm}{S:Aq}(h:Kf n R S):∀b,∀x∈Bv S b,Oy GK n (b:Int) x:=fun b x hx=>by
 unfold Bv at hx
 split at hx
 ·rename_i e;subst e;exact h.inv.c x hx
 ·split at hx
  ·rename_i e;subst e;exact h.inv.a x hx
  ·split at hx
   ·rename_i e;subst e;exact h.inv.p x hx
   ·simp at hx
theorem Cb.cL{B:Nat}{W:World}{g gt gh gw:Nat}{R:Rm}{n:Af Aq}{r:D0}{M:Nat}(h:Cb B W g gt gh gw R n r)(hi:Kf M R n.tab)(hM:M≤1000000)(hd:List Int)(hH:AK hd)(now e:Int):
  Calls aA 129 #[.pointer (some ⟨gt,0,none⟩),.int .i64 now,.int .i64 e,.agg (hv hd)] W fun q w'=>q=.returned (.tuple #[.agg (Ac ((Al R).look n.tab now e hd).2.1),.bool ((Al R).look n.tab now e hd).2.2])∧Dl B W w' g gt gh gw R (AX n ((Al R).look n.tab now e hd).1) r:=by
 refine(Ab3 B W gt R n.tab r.v1 r.v2 r.v3 h.tab now e hd hH hi.ord (fun b x hx=> ?_)).mono fun e w' q=>⟨q.1,h.setTab q.2⟩;obtain⟨q1,q2,q3,_,_,_,_,q8⟩:=hi.bank20 b x hx;exact⟨q8,q1,q2,by unfold Gu;omega⟩
theorem Iu{E:Ag}(H:E.Ok){ops:Array Oper}{Q:Exit→Act→World→Prop}{i:Nat}{o:Oper}{K:Act→World→Prop}{a:Act}{w:World}(hi:ops[i]?=some o)(hgd:o.guard=none)(x y:Operand)(ho:o.op=.store E.elem x y)
  (g:Nat) (cs:Array Value) (hf:cs.size=E.size∧cs.all (·.oneCell')=true) (hx:a.eval x=.pointer (some ⟨g,0,none⟩)) (hy:a.eval y=.agg cs) (old:Array Value) (hg:w.heap[g]?=some (.cells old E.elem (0,0))) (hold:old.size=E.size) (d:Option Tmp) (hd:o.dst=d)
  (hK:K (a.put d undef) (w.setRow g cs)):wpOp aA ops Q i K a w:=by
 subst hd;exact Et hi (BP H hgd x y ho g cs hf hx hy old hg hold _ rfl hK)
theorem Hs{E:El}(H:E.Ok){ops:Array Oper}{rest:List Oper}{o:Oper}{a:Act}{w:World}{Q:Exit→Act→World→Prop}(hg:o.guard=none)(ho:o.op=.alloc E.elem)
  (h:wpList aA ops Q rest (a.put o.dst (.pointer (some ⟨w.heap.size,0,none⟩))) (w.alloc (.cells E.zero E.elem))):wpList aA ops Q (o::rest) a w:=by
 obtain⟨ie,h1,h2,_,_⟩:=H.info;refine Great.wpList_allocTo hg o.dst rfl _ _ ?_ h;unfold execOp;simp only[ho];simp[go_sem,Instr.alloc,zeroValue,typeInfo,h1,h2,Value.cells]
theorem J8{E:El}(H:E.Ok){ops:Array Oper}{Q:Exit→Act→World→Prop}{i:Nat}{o:Oper}{K:Act→World→Prop}{a:Act}{w:World}(hi:ops[i]?=some o)(hgd:o.guard=none)(ho:o.op=.alloc E.elem)(d:Option Tmp)(hd:o.dst=d)
  (hK:K (a.put d (.pointer (some ⟨w.heap.size,0,none⟩))) (w.alloc (.cells E.zero E.elem))):wpOp aA ops Q i K a w:=by
 subst hd;exact Et hi (Hs H hgd ho hK)
def SlG:Ag:=⟨102,36⟩
theorem TG:SlG.Ok:=⟨⟨_,Tryz.underlying102,rfl⟩,by kernel_rfl⟩
theorem Nv(B:Nat)(w:World)(g gt gh gw:Nat)(R:Rm)(n:Af Aq)(r:D0)(h:Cb B w g gt gh gw R n r)(hn:Gl n.hold)(now:Int):
  Calls aA 59 #[.pointer (some ⟨g,0,none⟩),.int .i64 now] w fun e w'=>e=.returned (.bool (EC n now))∧Below w.heap.size w w':=by
 have c1:∀u:Am w,u.world.cell? ⟨g,1,none⟩=some (.int .i64 n.lease):=fun u=>(h.below u.below).f.c1;have c5:∀u:Am w,u.world.cell? ⟨g,5,none⟩=some (.pointer (some ⟨gh,0,none⟩)):=fun u=>(h.below u.below).f.c5;have C:∀u:Am w,Calls aA 102 #[.pointer (some ⟨gh,0,none⟩),.int .i64 now,.int .i64 n.lease] u.world fun e w'=>e=.returned (.bool (EC n now))∧w'=u.world:=fun u=>Ait u.world gh n.hold (h.below u.below).hold hn.ok hn.b now n.lease;have ne9:=Am.ne w;obtain⟨b,hb⟩:=eX (EC n now);obtain⟨le,hle⟩:=eX n.lease;rw[←hb] at C ⊢;rw[←hle] at C c1;clear hb hle h hn;go_enter Tryz.func59,Tryz.ntmps59;go_wp2_with fail;refine rL ?_
 iterate 9 (go_big_quiet_step (fail))
 go_big_quiet_want;go_big_quiet_op;refine⟨_,fun u=>Calls.later_sameT (C u),?_⟩;go_big_quiet_on;go_big_quiet_step (fail);refine wpQuiet_nil ?_;rintro w' ⟨uL,rfl⟩;go_wp2_with fail;go_ret;exact⟨rfl,uL.below⟩
theorem Tb(B:Nat)(w:World)(g gt gh gw:Nat)(R:Rm)(n:Af Aq)(r:D0)(h:Cb B w g gt gh gw R n r){M:Nat}(hi:Kf M R n.tab)(hM:M≤1000000)(hd:List Int)(hH:AK hd)(now:Int):
  Calls aA 83 #[.pointer (some ⟨g,0,none⟩),.agg (hv hd),.int .i64 now] w fun e w'=>e=.returned (.tuple #[.agg (Ac ((Al R).look n.tab now n.hold.use hd).2.1),.bool ((Al R).look n.tab now n.hold.use hd).2.2])∧Dl B w w' g gt gh gw R (AX n ((Al R).look n.tab now n.hold.use hd).1) r:=by
 obtain⟨w0,hw0⟩:=eX ((w.alloc (.cells (hv hd) 35)).alloc (.cells (Ac AJ) 102));have hHl:=hH.1;obtain⟨O2,hO2⟩:∃O2:Nat→Prop,O2=fun k=>k=w.heap.size∨k=w.heap.size+1:=⟨_,rfl⟩;have B0:Below w.heap.size w w0:=by rw[hw0];exact((aH _ _).alloc (aD _) _).alloc (by rw[Bf];exact Nat.le_succ _) _
 have Zs:w0.heap.size=w.heap.size+1+1:=by rw[hw0,Bf,Bf]
 have Z0:Hid (w0.heap[w.heap.size]?=some (.cells (hv hd) 35 (0,0))):=by
  show _=_;rw[hw0];exact(((aH (w.heap.size+1) (w.alloc (.cells (hv hd) 35))).alloc (by rw[Bf];exact aD _) (.cells (Ac AJ) 102)).block _ (aN _)).trans (Ab _ _ _ rfl)
 have Z1:Hid (w0.heap[w.heap.size+1]?=some (.cells (Ac AJ) 102 (0,0))):=by show _=_;rw[hw0];exact Ab _ _ _ (by rw[Bf])
 have AT:Hid (Av B w (aB w0) g gt gh gw R n r O2):=Av.begin h B0.drew (by rw[hO2];rintro k (rfl | rfl) <;> (show _∧_<w0.heap.size;omega));have CU:Hid (∀W,Av B w W g gt gh gw R n r O2→Calls aA 58 #[.pointer (some ⟨gh,0,none⟩)] W fun e w'=>e=.returned (.int .i64 n.hold.use)∧w'=W):=fun W hW=>hW.ask fun u hu=>Jc W gh n.hold hu.hold;have CL:Hid (∀W,Av B w W g gt gh gw R n r O2→Calls aA 129 #[.pointer (some ⟨gt,0,none⟩),.int .i64 now,.int .i64 n.hold.use,.agg (hv hd)] W fun e w'=>e=.returned (.tuple #[.agg (Ac ((Al R).look n.tab now n.hold.use hd).2.1),.bool ((Al R).look n.tab now n.hold.use hd).2.2])∧Av B w w' g gt gh gw R (AX n ((Al R).look n.tab now n.hold.use hd).1) r O2∧Ec O2 W w'):=fun W hW=>hW.call fun u hu=>hu.cL hi hM hd hH now n.hold.use;obtain⟨S',hS'⟩:=eX (((Al R).look n.tab now n.hold.use hd).1);obtain⟨s,hs⟩:=eX (((Al R).look n.tab now n.hold.use hd).2.1);obtain⟨b,hb⟩:=eX (((Al R).look n.tab now n.hold.use hd).2.2);obtain⟨us,hus⟩:=eX n.hold.use;rw[←hS', ←hs, ←hb] at CL ⊢;rw[←hus] at CL CU;obtain⟨nu,hnu⟩:=eX n.num;obtain⟨le,hle⟩:=eX n.lease;obtain⟨be,hbe⟩:=eX n.beat
 have HS0:Hid (DN g gt gh gw nu le be (fun W=>W.heap[w.heap.size]?=some (.cells (hv hd) 35 (0,0))) (aB w0)):=AT.out.inN hnu.symm hle.symm hbe.symm Z0.out;have HI:Hid (∀W,Av B w W g gt gh gw R (AX n S') r O2→W.heap[w.heap.size]?=some (.cells (hv hd) 35 (0,0))→DN g gt gh gw nu le be (fun W=>W.heap[w.heap.size]?=some (.cells (hv hd) 35 (0,0))) W):=fun W hW hx=>hW.inN hnu.symm hle.symm hbe.symm hx;have hw0':=hw0.symm;have M1:Hid (O2 w.heap.size):=by show O2 _;rw[hO2];exact .inl rfl
 have M2:Hid (O2 (w.heap.size+1)):=by show O2 _;rw[hO2];exact .inr rfl
 clear hS' hs hb hus h hi hM hH hw0 B0 hnu hle hbe Zs hO2;go_enter Tryz.func83,Tryz.ntmps83;go_wp2_with (first|((with_reducible refine Jx rfl ?_);refine Ev rfl rfl ?_;try rw[Bf]));have e4:∀z:Fu g gt gh gw nu le be (fun W=>W.heap[w.heap.size]?=some (.cells (hv hd) 35 (0,0))),z.world.cell? ⟨g,4,none⟩=some (.pointer (some ⟨gt,0,none⟩)):=fun z=>z.c4;have e5:∀z:Fu g gt gh gw nu le be (fun W=>W.heap[w.heap.size]?=some (.cells (hv hd) 35 (0,0))),z.world.cell? ⟨g,5,none⟩=some (.pointer (some ⟨gh,0,none⟩)):=fun z=>z.c5;have ne9:Nonempty (Fu g gt gh gw nu le be (fun W=>W.heap[w.heap.size]?=some (.cells (hv hd) 35 (0,0)))):=by obtain⟨z,_⟩:=HS0.out;exact⟨z⟩
 refine Ey ?_;refine B8 (DN g gt gh gw nu le be (fun W=>W.heap[w.heap.size]?=some (.cells (hv hd) 35 (0,0)))) 16 rfl (by kernel_rfl) ?_;refine rR [0,4,5,10,1,6,2,7,3,8] 10 6 HS0.out ?_;simp only[pk]
 iterate 3 (go_big_quiet_step (fail))
 refine KL rfl 35 _ rfl w.heap.size rfl 35 (hv hd) (0,0) _ (fun w' h=>by obtain⟨z,rfl⟩:=h;exact z.x) Tryz.underlying35 rfl (KE hd hHl) ?_;simp only[pU]
 iterate 6 (go_big_quiet_step (fail))
 refine wpQuiet_nil ?_;refine rO 9 ?_;refine Bm rfl rfl 58 #[.tmp 16] (by intro b w;have hf:=Tryz.func58;simp[go_sem]) #[.pointer (some ⟨gh,0,none⟩)] rfl (fun v w'=>v=.int .i64 us∧w'=aB w0) ((CU.out (aB w0) AT.out).mono fun e w' h=>⟨_,h.1,rfl,h.2⟩) (some 17) rfl ?_;rintro v w1 ⟨rfl,rfl⟩;refine⟨HS0.out,?_⟩;simp only[pU];refine rO 11 ?_;refine Bm rfl rfl 129 #[.tmp 11,.tmp 12,.tmp 17,.tmp 18] (by intro b w;have hf:=Tryz.func129;simp[go_sem]) #[.pointer (some ⟨gt,0,none⟩),.int .i64 now,.int .i64 us,.agg (hv hd)] rfl (fun v w'=>v=.tuple #[.agg (Ac s),.bool b]∧Av B w w' g gt gh gw R (AX n S') r O2∧Ec O2 (aB w0) w') ((CL.out (aB w0) AT.out).mono fun e w' h=>⟨_,h.1,rfl,h.2⟩) (some 19) rfl ?_;rintro v w2 ⟨rfl,a2,k2⟩;have A2:Hid _:=a2;have Y2:Hid (w2.heap[w.heap.size]?=some (.cells (hv hd) 35 (0,0))):=(k2 _ M1.out).trans Z0.out;have Z2:Hid (w2.heap[w.heap.size+1]?=some (.cells (Ac AJ) 102 (0,0))):=(k2 _ M2.out).trans Z1.out;clear a2 k2;have I2:Hid _:=HI.out w2 A2.out Y2.out;refine⟨I2.out,?_⟩;simp only[pU]
 refine rR [12,13] 2 2 I2.out ?_;simp only[pk];go_big_quiet_step (fail);go_big_quiet_step (fail);refine wpQuiet_nil ?_;refine rO 14 ?_;refine Iu TG rfl rfl _ _ rfl (w.heap.size+1) (Ac s) (Kn s) rfl rfl _ Z2.out (Bl _) none rfl ?_;have Y3:Hid ((w2.setRow (w.heap.size+1) (Ac s)).heap[w.heap.size]?=some (.cells (hv hd) 35 (0,0))):=(setRow_other _ _ _ _ (by omega)).trans Y2.out;have A3:Hid _:=A2.out.row (p:=w.heap.size+1) M2.out (Ac s);have I3:Hid _:=HI.out _ A3.out Y3.out;refine⟨I3.out,?_⟩;simp only[Act.put];refine rR [15] 1 0 I3.out ?_;simp only[pk];go_big_quiet_step (fail);refine wpQuiet_nil ?_;refine rD ?_;refine⟨rfl,?_⟩;go_wp2_with fail;refine QI (p:=6) (q:=7) rfl rfl (w.heap.size+1) rfl s (setRow_heap _ _ _ _ _ _ Z2.out) _ rfl ?_;exact⟨rfl,A3.out.to⟩
end
section
open Go.Lib Go.RowKit
theorem YA{o:Oper}{t:Nat}{ps:Array (Nat×Operand)}(ho:o.op=.build t ps)(a:Act)(W:World)(qs:Array (Nat×Value))(hq:(ps.map fun(i,x)=>(i,a.eval x))=qs)(v:Value)(h:(aG t qs).run aA W=.ok v W):(execOp a.eval o).run aA W=.ok (.value v) W:=by
 unfold execOp;simp only[ho,Sem.run_bind,hq,h,Result.andThen_ok,Sem.run_pure]
end
section
open Go.RowKit
theorem Om(k inc epoch floor at_ of order action one two sent use seq load:Int){c:List Int×List Int}{h:List Int}(hc:AK c.1∧AK c.2)(hh:AK h):BB (Cz k inc epoch floor at_ of order action one two sent use seq load c h):=⟨rfl,hc.1,hc.2,hh⟩
theorem Dg:Ch 0:=⟨Int.le_refl _,by decide⟩
theorem Mk{k:Int}{f:List Nat}(hf:AQ k=f)(hne:f.isEmpty=false){inc epoch floor at_ of order action one two sent use seq load:Int}{c:List Int×List Int}{h:List Int}
  (h0:Ch inc) (h1:Ch epoch) (h2:Ch floor) (h3:Ch at_) (h4:Ch of) (h5:Ch order) (h6:Ch action) (h7:Ch one) (h8:Ch two) (h9:Ch sent) (h10:Ch use) (h11:Ch seq) (h12:Ch load)
  (hz:∀j,j<13→j∉f→Ad (Cz k inc epoch floor at_ of order action one two sent use seq load c h) j=0) (hc:AZ c.1 c.2=c.1) (hc2:13∉f→c.1=Z∧c.2=Z) (hh:14∉f→h=Z):Ca (Cz k inc epoch floor at_ of order action one two sent use seq load c h)=true:=by
 refine(GI _).2 ⟨by show(AQ k).isEmpty=false;rw[hf];exact hne,fun j hj=> ?_,?_,by show 13∉AQ k→_;rw[hf];exact hc2,by show 14∉AQ k→_;rw[hf];exact hh⟩
 ·have hb:Ch (Ad (Cz k inc epoch floor at_ of order action one two sent use seq load c h) j):=by
   rcases(show j=0∨j=1∨j=2∨j=3∨j=4∨j=5∨j=6∨j=7∨j=8∨j=9∨j=10∨j=11∨j=12 by omega) with rfl | rfl | rfl | rfl | rfl | rfl | rfl | rfl | rfl | rfl | rfl | rfl | rfl
   all_goals assumption
  refine⟨hb.1,by have:=hb.2;omega,?_⟩;show j∉AQ k→_;rw[hf];exact hz j hj
 ·show F7 _=true;unfold F7;show(c.1==AZ c.1 c.2)=true;rw[hc];exact beq_self_eq_true _
theorem Sg{P:Nat→Prop}(h:P 0∧P 1∧P 2∧P 3∧P 4∧P 5∧P 6∧P 7∧P 8∧P 9∧P 10∧P 11∧P 12):∀j,j<13→P j:=fun j hj=>by
 obtain⟨h0,h1,h2,h3,h4,h5,h6,h7,h8,h9,h10,h11,h12⟩:=h
 rcases(show j=0∨j=1∨j=2∨j=3∨j=4∨j=5∨j=6∨j=7∨j=8∨j=9∨j=10∨j=11∨j=12 by omega) with rfl | rfl | rfl | rfl | rfl | rfl | rfl | rfl | rfl | rfl | rfl | rfl | rfl <;> assumption
theorem Acb:AZ Z Z=Z:=by kernel_rfl
theorem Ai0{inc e a:Int}(h0:Ch inc)(h1:Ch e)(h2:Ch a):Ca (Cz 4 inc e 0 a 0 0 0 0 0 0 0 0 0 (Z,Z) Z)=true:=
 Mk (f:=[0,1,3]) rfl rfl h0 h1 Dg h2 Dg Dg Dg Dg Dg Dg Dg Dg Dg (Sg ⟨fun h=>absurd (by decide) h,fun h=>absurd (by decide) h,fun _=>rfl,fun h=>absurd (by decide) h,fun _=>rfl,fun _=>rfl,fun _=>rfl,fun _=>rfl,fun _=>rfl,fun _=>rfl,fun _=>rfl,fun _=>rfl,fun _=>rfl⟩) Acb (fun _=>⟨rfl,rfl⟩) fun _=>rfl
theorem Ahz{inc top a use load:Int}(h0:Ch inc)(h1:Ch top)(h2:Ch a)(h3:Ch use)(h4:Ch load):Ca (Cz 5 inc top 0 a 0 0 0 0 0 0 use 0 load (Z,Z) Z)=true:=
 Mk (f:=[0,10,1,3,12]) rfl rfl h0 h1 Dg h2 Dg Dg Dg Dg Dg Dg h3 Dg h4 (Sg ⟨fun h=>absurd (by decide) h,fun h=>absurd (by decide) h,fun _=>rfl,fun h=>absurd (by decide) h,fun _=>rfl,fun _=>rfl,fun _=>rfl,fun _=>rfl,fun _=>rfl,fun _=>rfl,fun h=>absurd (by decide) h,fun _=>rfl,fun h=>absurd (by decide) h⟩) Acb (fun _=>⟨rfl,rfl⟩) fun _=>rfl
theorem Ahy{inc e seq:Int}{hd:List Int}(h0:Ch inc)(h1:Ch e)(h2:Ch seq):Ca (Cz 6 inc e 0 0 0 0 0 0 0 0 0 seq 0 (Z,Z) hd)=true:=
 Mk (f:=[0,11,1,14]) rfl rfl h0 h1 Dg Dg Dg Dg Dg Dg Dg Dg Dg h2 Dg (Sg ⟨fun h=>absurd (by decide) h,fun h=>absurd (by decide) h,fun _=>rfl,fun _=>rfl,fun _=>rfl,fun _=>rfl,fun _=>rfl,fun _=>rfl,fun _=>rfl,fun _=>rfl,fun _=>rfl,fun h=>absurd (by decide) h,fun _=>rfl⟩) Acb (fun _=>⟨rfl,rfl⟩) fun h=>absurd (by decide) h
theorem WF{inc e act seq:Int}{c:List Int×List Int}(h0:Ch inc)(h1:Ch e)(h2:Ch act)(h3:Ch seq)(hc:AZ c.1 c.2=c.1):Ca (Cz 7 inc e 0 0 0 0 act 0 0 0 0 seq 0 c Z)=true:=
 Mk (f:=[0,11,1,6,13]) rfl rfl h0 h1 Dg Dg Dg Dg h2 Dg Dg Dg Dg h3 Dg (Sg ⟨fun h=>absurd (by decide) h,fun h=>absurd (by decide) h,fun _=>rfl,fun _=>rfl,fun _=>rfl,fun _=>rfl,fun h=>absurd (by decide) h,fun _=>rfl,fun _=>rfl,fun _=>rfl,fun _=>rfl,fun h=>absurd (by decide) h,fun _=>rfl⟩) hc (fun h=>absurd (by decide) h) fun _=>rfl
theorem Akj(inc e a:Int)(W:World):(aG 39 #[(0,.int .i64 4),(1,.int .i64 inc),(2,.int .i64 e),(4,.int .i64 a)]).run aA W=.ok (.agg (Ae (Cz 4 inc e 0 a 0 0 0 0 0 0 0 0 0 (Z,Z) Z))) W:=by
 rw[JR];kernel_rfl
theorem Aki(inc use top a load:Int)(W:World):(aG 39 #[(0,.int .i64 5),(1,.int .i64 inc),(11,.int .i64 use),(2,.int .i64 top),(4,.int .i64 a),(13,.int .i64 load)]).run aA W=.ok (.agg (Ae (Cz 5 inc top 0 a 0 0 0 0 0 0 use 0 load (Z,Z) Z))) W:=by
 rw[JR];kernel_rfl
theorem Akh(inc seq e:Int){hd:List Int}(hl:hd.length=13)(W:World):(aG 39 #[(0,.int .i64 6),(1,.int .i64 inc),(12,.int .i64 seq),(2,.int .i64 e),(15,.agg (hv hd))]).run aA W=.ok (.agg (Ae (Cz 6 inc e 0 0 0 0 0 0 0 0 0 seq 0 (Z,Z) hd))) W:=by
 rw[JR];obtain⟨a0,a1,a2,a3,a4,a5,a6,a7,a8,a9,a10,a11,a12,rfl⟩:=MW hl;kernel_rfl
theorem XZ(inc seq e act:Int){c:List Int×List Int}(h1:c.1.length=13)(h2:c.2.length=13)(W:World):(aG 39 #[(0,.int .i64 7),(1,.int .i64 inc),(12,.int .i64 seq),(2,.int .i64 e),(7,.int .i64 act),(14,.agg (cv c.1 c.2))]).run aA W=.ok (.agg (Ae (Cz 7 inc e 0 0 0 0 act 0 0 0 0 seq 0 c Z))) W:=by
 rw[JR];obtain⟨V,M⟩:=c;obtain⟨a0,a1,a2,a3,a4,a5,a6,a7,a8,a9,a10,a11,a12,rfl⟩:=MW h1;obtain⟨b0,b1,b2,b3,b4,b5,b6,b7,b8,b9,b10,b11,b12,rfl⟩:=MW h2;kernel_rfl
theorem Lv{b:List UInt8}{m:An}(h:DQ b=some m):BB m∧(∀j,Ch (Ad m j))∧AZ m.cube.1 m.cube.2=m.cube.1:=by
 obtain⟨h1,h2,_⟩:=ZT h;obtain⟨_,h3,h4,_⟩:=(GI m).1 h2;refine⟨h1,fun j=> ?_,?_⟩
 ·rcases Nat.lt_or_ge j 13 with hj | hj
  ·exact⟨(h3 j hj).1,by have:=(h3 j hj).2.1;omega⟩
  ·unfold Ad;rw[List.getD_eq_getElem?_getD,List.getElem?_eq_none (by rw[h1.1];omega)];exact Dg
 ·unfold F7 at h4;exact(by simpa using h4:m.cube.1=AZ m.cube.1 m.cube.2).symm
theorem Yf{x:AN}(h:x.head.length=13):∀j,j<13→(AD x)[2+j]?=(hv x.head)[j]?:=fun j hj=>by
 rw[Ajk h]
 rcases(show j=0∨j=1∨j=2∨j=3∨j=4∨j=5∨j=6∨j=7∨j=8∨j=9∨j=10∨j=11∨j=12 by omega) with rfl | rfl | rfl | rfl | rfl | rfl | rfl | rfl | rfl | rfl | rfl | rfl | rfl <;> rfl
theorem Px(B:Nat)(w:World)(g gt gh gw:Nat)(R:Rm)(n:Af Aq)(r:D0)(h:Cb B w g gt gh gw R n r){M:Nat}(hi:Az M R n)(hM:M≤1000000):
  Calls aA 76 #[.pointer (some ⟨g,0,none⟩)] w fun e w'=>e=.returned (.tuple #[])∧Dl B w w' g gt gh gw R (H7 n) r:=by
 obtain⟨O,hO⟩:∃O:Nat→Prop,O=fun _=>False:=⟨_,rfl⟩;have c5:=h.f.c5;have CT:=(FJ w gh n.hold h.hold).2.2;have CC:=Tw w gh n.hold h.hold n.hold.top;have A0:Hid (∀W,Below w.heap.size w W→Av B w W g gt gh gw R n r O):=fun W hW=>Av.begin h hW (by rw[hO];exact fun k e=>e.elim);have C3:Hid (∀W,Below w.heap.size w W→W.cell? ⟨g,3,none⟩=some (.int .i64 n.load)):=fun W hW=>(h.below hW).f.c3;have CI:Hid (∀W,Av B w W g gt gh gw R n r O→Calls aA 57 #[.pointer (some ⟨gh,0,none⟩)] W fun e w'=>e=.returned (.int .i64 n.hold.life)∧w'=W):=fun W hW=>hW.ask fun u hu=>(FJ W gh n.hold hu.hold).1;have CU:Hid (∀W,Av B w W g gt gh gw R n r O→Calls aA 58 #[.pointer (some ⟨gh,0,none⟩)] W fun e w'=>e=.returned (.int .i64 n.hold.use)∧w'=W):=fun W hW=>hW.ask fun u hu=>Jc W gh n.hold hu.hold;have e0:H7 n=Cx n 0 (Cz 5 n.hold.life n.hold.top 0 ((n.hold.cnt n.hold.top).1:Nat) 0 0 0 0 0 0 n.hold.use 0 n.load (Z,Z) Z):=rfl
 have CS:Hid (∀W,Av B w W g gt gh gw R n r O→Calls aA 114 #[.pointer (some ⟨g,0,none⟩),.int .i64 0,.agg (Ae (Cz 5 n.hold.life n.hold.top 0 ((n.hold.cnt n.hold.top).1:Nat) 0 0 0 0 0 0 n.hold.use 0 n.load (Z,Z) Z))] W fun e w'=>e=.returned (.tuple #[])∧Av B w w' g gt gh gw R (H7 n) r O∧DN g gt gh gw n.num n.lease n.beat (fun W=>W.cell? ⟨g,3,none⟩=some (.int .i64 n.load)) w'):=fun W hW=>by
  refine(hW.call (n'':=H7 n) (P:=fun e _=>e=.returned (.tuple #[])) fun u hu=> ?_).mono fun e w' q=>⟨q.1,q.2.1,?_⟩
  ·rw[e0];exact KI B W g gt gh gw R n u hu (by have:=hi.post;omega) 0 _ (Om _ _ _ _ _ _ _ _ _ _ _ _ _ _ ⟨BO,BO⟩ BO) (Ahz hi.hold.life hi.hold.top0 (hi.hold.many _) hi.hold.use hi.load)
  ·obtain⟨u,hu⟩:=q.2.1.ndV;have hs:=Ew n 0 (Cz 5 n.hold.life n.hold.top 0 ((n.hold.cnt n.hold.top).1:Nat) 0 0 0 0 0 0 n.hold.use 0 n.load (Z,Z) Z);refine q.2.1.inN (by rw[e0];exact hs.2.2.2.2.1) (by rw[e0];exact hs.2.2.2.2.2.1) (by rw[e0];exact hs.2.2.2.2.2.2.1) ?_;have:=hu.f.c3;rw[e0] at this;rw[this];unfold Cx;split <;> rfl
 obtain⟨n',hn'⟩:=eX (H7 n);rw[←hn'] at CS ⊢;obtain⟨inc,hinc⟩:=eX n.hold.life;obtain⟨us,hus⟩:=eX n.hold.use;obtain⟨top,htop⟩:∃top,top=n.hold.top:=⟨_,rfl⟩;obtain⟨many,hmany⟩:∃many:Int,many=((n.hold.cnt n.hold.top).1:Nat):=⟨_,rfl⟩;obtain⟨of_,hof⟩:∃of_:Int,of_=(n.hold.cnt n.hold.top).2:=⟨_,rfl⟩;obtain⟨lo,hlo⟩:=eX n.load;obtain⟨nu,hnu⟩:=eX n.num;obtain⟨le,hle⟩:=eX n.lease;obtain⟨be,hbe⟩:=eX n.beat;rw[←hinc] at CI CS;rw[←hus] at CU CS;rw[←hmany, ←hof] at CC;rw[←hmany] at CS;rw[←htop] at CT CC CS;rw[←hlo] at CS C3;rw[←hnu, ←hle, ←hbe] at CS;have HSx:Hid (∀W,Below w.heap.size w W→DN g gt gh gw nu le be (fun W=>W.cell? ⟨g,3,none⟩=some (.int .i64 lo)) W):=fun W hW=>(A0.out W hW).inN hnu.symm hle.symm hbe.symm (C3.out W hW);clear hn' hinc hus htop hmany hof hlo hnu hle hbe e0 hi hM h hO;go_enter Tryz.func76,Tryz.ntmps76
 go_wp2_with (first
  | (go_at_call 61;refine CT.mono ?_;rintro e w9 ⟨rfl,hw9⟩;have hw9:=hw9.symm;subst hw9)
  | (go_at_call 113;refine CC.mono ?_;rintro e w1 ⟨rfl,hb1⟩;have HB1:Hid _:=hb1;clear hb1))
 have A1:Hid (Av B w (aB w1) g gt gh gw R n r O):=A0.out _ HB1.out.drew;have HS1:Hid (DN g gt gh gw nu le be (fun W=>W.cell? ⟨g,3,none⟩=some (.int .i64 lo)) (aB w1)):=HSx.out _ HB1.out.drew;clear c5 CT CC;have e5:∀z:Fu g gt gh gw nu le be (fun W=>W.cell? ⟨g,3,none⟩=some (.int .i64 lo)),z.world.cell? ⟨g,5,none⟩=some (.pointer (some ⟨gh,0,none⟩)):=fun z=>z.c5;have ne9:Nonempty (Fu g gt gh gw nu le be (fun W=>W.cell? ⟨g,3,none⟩=some (.int .i64 lo))):=by obtain⟨z,_⟩:=HS1.out;exact⟨z⟩
 have e3:∀z:Fu g gt gh gw nu le be (fun W=>W.cell? ⟨g,3,none⟩=some (.int .i64 lo)),z.world.cell? ⟨g,3,none⟩=some (.int .i64 lo):=fun z=>z.x;refine Ey ?_;refine B8 (DN g gt gh gw nu le be (fun W=>W.cell? ⟨g,3,none⟩=some (.int .i64 lo))) 19 rfl (by kernel_rfl) ?_;refine rR [0,1,6,11,12,13,2,7,14,3,8,15,4,9,16] 15 4 HS1.out ?_;simp only[pk]
 iterate 15 (go_big_quiet_step (fail))
 refine wpQuiet_nil ?_;refine rO 5 ?_;refine Bm rfl rfl 57 #[.tmp 23] (by intro b w;have hf:=Tryz.func57;simp[go_sem]) #[.pointer (some ⟨gh,0,none⟩)] rfl (fun v w'=>v=.int .i64 inc∧w'=(aB w1)) ((CI.out (aB w1) A1.out).mono fun e w' h=>⟨_,h.1,rfl,h.2⟩) (some 24) rfl ?_;rintro v wq ⟨rfl,rfl⟩;refine⟨HS1.out,?_⟩;simp only[pU];refine rO 10 ?_;refine Bm rfl rfl 58 #[.tmp 28] (by intro b w;have hf:=Tryz.func58;simp[go_sem]) #[.pointer (some ⟨gh,0,none⟩)] rfl (fun v w'=>v=.int .i64 us∧w'=(aB w1)) ((CU.out (aB w1) A1.out).mono fun e w' h=>⟨_,h.1,rfl,h.2⟩) (some 29) rfl ?_;rintro v wq ⟨rfl,rfl⟩;refine⟨HS1.out,?_⟩;simp only[pU];refine rO 17 ?_;refine Kz rfl rfl _ _ rfl #[(0,.int .i64 5),(1,.int .i64 inc),(11,.int .i64 us),(2,.int .i64 top),(4,.int .i64 many),(13,.int .i64 lo)] rfl _ (Aki inc us top many lo _) (some 36) rfl ?_;refine⟨HS1.out,?_⟩;simp only[pU];refine rO 18 ?_
 refine Bm rfl rfl 114 #[.tmp 19,.const (.int .i64 0),.tmp 36] (by intro b w;have hf:=Tryz.func114;simp[go_sem]) #[.pointer (some ⟨g,0,none⟩),.int .i64 0,.agg (Ae (Cz 5 inc top 0 many 0 0 0 0 0 0 us 0 lo (Z,Z) Z))] rfl (fun v w'=>v=.tuple #[]∧Av B w w' g gt gh gw R n' r O∧DN g gt gh gw nu le be (fun W=>W.cell? ⟨g,3,none⟩=some (.int .i64 lo)) w') ((CS.out (aB w1) A1.out).mono fun e w' h=>⟨_,h.1,rfl,h.2⟩) (some 37) rfl ?_;rintro v w2 ⟨rfl,a2,i2⟩;have A2:Hid _:=a2;clear a2;refine⟨i2,?_⟩;simp only[pU];refine rD ?_;refine⟨rfl,?_⟩;go_end0;exact⟨rfl,A2.out.to⟩
theorem Oh(B:Nat)(w:World)(g gt gh gw:Nat)(R:Rm)(n:Af Aq)(r:D0)(h:Cb B w g gt gh gw R n r){M:Nat}(hi:Az M R n)(hM:M≤1000000)(x:AN)(hx:AK x.head)(hq:Ch x.seq)(h0:0≤x.sent)(s:Ai):
  Calls aA 86 #[.pointer (some ⟨g,0,none⟩),.agg (AD x),.agg (Ac s)] w fun e w'=>e=.returned (.tuple #[])∧Dl B w w' g gt gh gw R (Da n x.seq x.index x.head x.sent s) r:=by
 obtain⟨w0,hw0⟩:=eX ((w.alloc (.cells (AD x) 112)).alloc (.cells (Ac s) 102));obtain⟨O2,hO2⟩:∃O2:Nat→Prop,O2=fun k=>k=w.heap.size:=⟨_,rfl⟩;have M1:Hid (O2 w.heap.size):=by show O2 _;rw[hO2]
 have B0:Below w.heap.size w w0:=by rw[hw0];exact((aH _ _).alloc (aD _) _).alloc (by rw[Bf];exact Nat.le_succ _) _
 have Zs:w0.heap.size=w.heap.size+1+1:=by rw[hw0,Bf,Bf]
 have Z0:Hid (w0.heap[w.heap.size]?=some (.cells (AD x) 112 (0,0))):=by
  show _=_;rw[hw0];exact(((aH (w.heap.size+1) (w.alloc (.cells (AD x) 112))).alloc (by rw[Bf];exact aD _) (.cells (Ac s) 102)).block _ (aN _)).trans (Ab _ _ _ rfl)
 have Z1:w0.heap[w.heap.size+1]?=some (.cells (Ac s) 102 (0,0)):=by rw[hw0];exact Ab _ _ _ (by rw[Bf])
 have A0:Hid (∀W,Below w0.heap.size w0 W→Av B w W g gt gh gw R n r O2):=fun W hW=>Av.begin h (B0.trans (hW.mono B0.size)) (by rw[hO2];rintro k rfl;exact⟨aD _,by have:=hW.size;omega⟩);have CU:Hid (∀W,Av B w W g gt gh gw R n r O2→Calls aA 58 #[.pointer (some ⟨gh,0,none⟩)] W fun e w'=>e=.returned (.int .i64 n.hold.use)∧w'=W):=fun W hW=>hW.ask fun u hu=>Jc W gh n.hold hu.hold;have CI:Hid (∀W,Av B w W g gt gh gw R n r O2→Calls aA 57 #[.pointer (some ⟨gh,0,none⟩)] W fun e w'=>e=.returned (.int .i64 n.hold.life)∧w'=W):=fun W hW=>hW.ask fun u hu=>(FJ W gh n.hold hu.hold).1
 have CS:Hid (∀W,Av B w W g gt gh gw R n r O2→∀t,Calls aA 114 #[.pointer (some ⟨g,0,none⟩),.int .i64 t,.agg (Ae (Cz 6 n.hold.life n.hold.use 0 0 0 0 0 0 0 0 0 x.seq 0 (Z,Z) x.head))] W fun e w'=>e=.returned (.tuple #[])∧Av B w w' g gt gh gw R (Cx n t (Cz 6 n.hold.life n.hold.use 0 0 0 0 0 0 0 0 0 x.seq 0 (Z,Z) x.head)) r O2∧Ec O2 W w'):=fun W hW t=>
  hW.call fun u hu=>KI B W g gt gh gw R n u hu (by have:=hi.post;omega) t _ (Om _ _ _ _ _ _ _ _ _ _ _ _ _ _ ⟨BO,BO⟩ hx) (Ahy hi.hold.life hi.hold.use hq)
 have HNS0:∀t,(Cx n t (Cz 6 n.hold.life n.hold.use 0 0 0 0 0 0 0 0 0 x.seq 0 (Z,Z) x.head)).num=n.num∧(Cx n t (Cz 6 n.hold.life n.hold.use 0 0 0 0 0 0 0 0 0 x.seq 0 (Z,Z) x.head)).lease=n.lease∧(Cx n t (Cz 6 n.hold.life n.hold.use 0 0 0 0 0 0 0 0 0 x.seq 0 (Z,Z) x.head)).beat=n.beat∧(Cx n t (Cz 6 n.hold.life n.hold.use 0 0 0 0 0 0 0 0 0 x.seq 0 (Z,Z) x.head)).log=n.log:=fun t=>by
  have hs:=Ew n t (Cz 6 n.hold.life n.hold.use 0 0 0 0 0 0 0 0 0 x.seq 0 (Z,Z) x.head);exact⟨hs.2.2.2.2.1,hs.2.2.2.2.2.1,hs.2.2.2.2.2.2.1,hs.1⟩
 have CN:Hid (∀W,∀t,Av B w W g gt gh gw R (Cx n t (Cz 6 n.hold.life n.hold.use 0 0 0 0 0 0 0 0 0 x.seq 0 (Z,Z) x.head)) r O2→Calls aA 72 #[.pointer (some ⟨g,0,none⟩),.agg (Qa 9 t x.index n.hold.use 0 0)] W fun e w'=>e=.returned (.tuple #[])∧Av B w w' g gt gh gw R (Cc (Cx n t (Cz 6 n.hold.life n.hold.use 0 0 0 0 0 0 0 0 0 x.seq 0 (Z,Z) x.head)) ⟨9,0,t,x.index,n.hold.use,0,0,0,Z,(Z,Z)⟩) r O2∧Ec O2 W w'):=fun W t hW=>
  hW.call fun u hu=>Gq B W g gt gh gw R _ u hu (by rw[(HNS0 t).2.2.2];have:=hi.log;omega) 9 t x.index n.hold.use 0 0
 have HE:Hid (∀t W,Kk x.sent s=t∧t≠0→Av B w W g gt gh gw R (Cc (Cx n t (Cz 6 n.hold.life n.hold.use 0 0 0 0 0 0 0 0 0 x.seq 0 (Z,Z) x.head)) ⟨9,0,t,x.index,n.hold.use,0,0,0,Z,(Z,Z)⟩) r O2→Dl B w W g gt gh gw R (Da n x.seq x.index x.head x.sent s) r):=fun t W ht ha=>by
  have e:Da n x.seq x.index x.head x.sent s=Cc (Cx n t (Cz 6 n.hold.life n.hold.use 0 0 0 0 0 0 0 0 0 x.seq 0 (Z,Z) x.head)) ⟨9,0,t,x.index,n.hold.use,0,0,0,Z,(Z,Z)⟩:=by
   unfold Da;rw[ht.1,if_neg ht.2];rfl
  rw[e];exact ha.to
 obtain⟨inc,hinc⟩:=eX n.hold.life;obtain⟨us,hus⟩:=eX n.hold.use;obtain⟨xq,hxq⟩:=eX x.seq;obtain⟨xi,hxi⟩:=eX x.index;obtain⟨xs,hxs⟩:=eX x.sent;obtain⟨on,hon⟩:=eX s.one;obtain⟨wo,hwo⟩:=eX s.two;obtain⟨sr,hsr⟩:=eX (Int.tmod xs 2);obtain⟨nu,hnu⟩:=eX n.num;obtain⟨le,hle⟩:=eX n.lease;obtain⟨be,hbe⟩:=eX n.beat
 have k31:∀u:Am w0,u.world.cell? ⟨w.heap.size+1,31,none⟩=some (.int .i64 on):=fun u=>by
  have:=(GU (Ap Z1 _ ⟨u,rfl⟩) fun j hj=>by rw[aI]).c31;rw[aI] at this;rw[hon];exact this
 have k32:∀u:Am w0,u.world.cell? ⟨w.heap.size+1,32,none⟩=some (.int .i64 wo):=fun u=>by
  have:=(GU (Ap Z1 _ ⟨u,rfl⟩) fun j hj=>by rw[aI]).c32;rw[aI] at this;rw[hwo];exact this
 rw[←hinc] at CI CS CN HNS0 HE;rw[←hus] at CU CS CN HNS0 HE;rw[←hxq] at CS CN HNS0 HE;rw[←hxi] at CN HE;have HXS:Hid _:=hxs;have HXQ:Hid _:=hxq;have HXI:Hid _:=hxi;have HON:Hid (on=s.one∧wo=s.two):=⟨hon,hwo⟩
 have HSR:Hid (sr=x.sent%2):=by
  show sr=_;rw[hsr,hxs];exact Int.tmod_eq_emod_of_nonneg h0
 have hsr1:Int.tmod xs 2=sr:=hsr.symm;have HNU:Hid (n.num=nu∧n.lease=le∧n.beat=be):=⟨hnu.symm,hle.symm,hbe.symm⟩;have HNS:Hid (∀t,(Cx n t (Cz 6 inc us 0 0 0 0 0 0 0 0 0 xq 0 (Z,Z) x.head)).num=nu∧(Cx n t (Cz 6 inc us 0 0 0 0 0 0 0 0 0 xq 0 (Z,Z) x.head)).lease=le∧(Cx n t (Cz 6 inc us 0 0 0 0 0 0 0 0 0 xq 0 (Z,Z) x.head)).beat=be):=fun t=>by rw[hnu,hle,hbe];exact⟨(HNS0 t).1,(HNS0 t).2.1,(HNS0 t).2.2.1⟩
 have HHL:Hid _:=hx.1;have HHS:Hid ((hv x.head).size=13):=by show _=_;rw[EW];exact hx.1
 have HHC:Hid (∀j,j<13→(AD x)[2+j]?=(hv x.head)[j]?):=fun j hj=>Yf hx.1 j hj;have ne9:=Am.ne w0;have hw0':=hw0.symm;have HB0:Hid _:=B0;clear HNS0 hinc hus hxq hxi hxs hon hwo hsr hnu hle hbe hi hM hx hq h0 hw0 hO2 B0 Zs Z1 h;go_enter Tryz.func86,Tryz.ntmps86;go_wp2_with fail;refine rL ?_
 iterate 6 (go_big_quiet_step (fail))
 refine wpQuiet_nil ?_;rintro w' ⟨uL,rfl⟩;have D1:Hid (Below w0.heap.size w0 uL.world):=uL.below;have y1:uL.world.cell? ⟨w.heap.size,15,none⟩=some (.int .i64 xs):=by rw[HXS.out];exact(FO (Ap Z0.out _ ⟨uL,rfl⟩)).c3
 clear k31 k32;by_cases he:x.sent%2=0
 focus
  have t1:(sr==0)=true:=by rw[HSR.out];simpa using he
  by_cases ha:wo=0
  focus
   have t2:(wo==0)=true:=by simpa using ha
   by_cases hb:on=0
   focus
    have t3:(on==0)=true:=by simpa using hb
    have HT0:Hid (Da n x.seq x.index x.head x.sent s=n):=by
     show _=_;unfold Da Kk;rw[if_pos he, ←HON.out.1, ←HON.out.2,if_pos ha,if_pos hb]
    clear he ha hb;go_wp2_with fail
    first | go_ret | go_end0 | refine bodyPost_ret (results_none rfl _ _ _) rfl ?_
    exact⟨rfl,by rw[HT0.out];exact(A0.out _ D1.out).to⟩
   have t3:(on==0)=false:=by simpa using hb
   have HT:Hid (Kk x.sent s=on∧on≠0):=by
    show Kk x.sent s=_∧_;unfold Kk;rw[if_pos he, ←HON.out.1, ←HON.out.2,if_pos ha];exact⟨rfl,hb⟩
   obtain⟨t,rfl⟩:=eX on;clear he ha hb
  rotate_left
  focus
   have t2:(wo==0)=false:=by simpa using ha
   have HT:Hid (Kk x.sent s=wo∧wo≠0):=by
    show Kk x.sent s=_∧_;unfold Kk;rw[if_pos he, ←HON.out.1, ←HON.out.2,if_neg ha];exact⟨rfl,ha⟩
   obtain⟨t,rfl⟩:=eX wo;clear he ha
 rotate_left
 rotate_left
 focus
  have t1:(sr==0)=false:=by rw[HSR.out];simpa using he
  by_cases ha:on=0
  focus
   have t2:(on==0)=true:=by simpa using ha
   by_cases hb:wo=0
   focus
    have t3:(wo==0)=true:=by simpa using hb
    have HT0:Hid (Da n x.seq x.index x.head x.sent s=n):=by
     show _=_;unfold Da Kk;rw[if_neg he, ←HON.out.1, ←HON.out.2,if_pos ha,if_pos hb]
    clear he ha hb;go_wp2_with fail
    first | go_ret | go_end0 | refine bodyPost_ret (results_none rfl _ _ _) rfl ?_
    exact⟨rfl,by rw[HT0.out];exact(A0.out _ D1.out).to⟩
   have t3:(wo==0)=false:=by simpa using hb
   have HT:Hid (Kk x.sent s=wo∧wo≠0):=by
    show Kk x.sent s=_∧_;unfold Kk;rw[if_neg he, ←HON.out.1, ←HON.out.2,if_pos ha];exact⟨rfl,hb⟩
   obtain⟨t,rfl⟩:=eX wo;clear he ha hb
  rotate_left
  focus
   have t2:(on==0)=false:=by simpa using ha
   have HT:Hid (Kk x.sent s=on∧on≠0):=by
    show Kk x.sent s=_∧_;unfold Kk;rw[if_neg he, ←HON.out.1, ←HON.out.2,if_neg ha];exact⟨rfl,ha⟩
   obtain⟨t,rfl⟩:=eX on;clear he ha
 all_goals
  have c5:uL.world.cell? ⟨g,5,none⟩=some (.pointer (some ⟨gh,0,none⟩)):=by obtain⟨u,hu⟩:=(A0.out _ D1.out).ndV;exact hu.f.c5
  have CU1:=CU.out _ (A0.out _ D1.out);go_wp2_with (go_at_call 58;refine CU1.mono ?_;rintro e w1 ⟨rfl,hw1⟩;have hw1:=hw1.symm;subst hw1);clear CU1 y1 c5;have A1:Hid (Av B w (aB uL.world) g gt gh gw R n r O2):=A0.out _ D1.out.drew;have Z1:Hid ((aB uL.world).heap[w.heap.size]?=some (.cells (AD x) 112 (0,0))):=Ap Z0.out uL.world ⟨uL,rfl⟩;have HS1:Hid (DN g gt gh gw nu le be (fun W=>W.heap[w.heap.size]?=some (.cells (AD x) 112 (0,0))) (aB uL.world)):=A1.out.inN HNU.out.1 HNU.out.2.1 HNU.out.2.2 Z1.out;have e5:∀z:Fu g gt gh gw nu le be (fun W=>W.heap[w.heap.size]?=some (.cells (AD x) 112 (0,0))),z.world.cell? ⟨g,5,none⟩=some (.pointer (some ⟨gh,0,none⟩)):=fun z=>z.c5;have ne9:Nonempty (Fu g gt gh gw nu le be (fun W=>W.heap[w.heap.size]?=some (.cells (AD x) 112 (0,0)))):=by obtain⟨z,_⟩:=HS1.out;exact⟨z⟩
  have f0:∀z:Fu g gt gh gw nu le be (fun W=>W.heap[w.heap.size]?=some (.cells (AD x) 112 (0,0))),z.world.cell? ⟨w.heap.size,0,none⟩=some (.int .i64 xq):=fun z=>by rw[HXQ.out];exact(FO z.x).c0
  refine Ey ?_;refine B8 (DN g gt gh gw nu le be (fun W=>W.heap[w.heap.size]?=some (.cells (AD x) 112 (0,0)))) 14 rfl (by kernel_rfl) ?_;refine rR [0,1,2,7,9,10,3,8,11,4,5] 11 3 HS1.out ?_;simp only[pk]
  iterate 8 (go_big_quiet_step (fail))
  refine JJ JT rfl _ rfl w.heap.size 2 rfl (AD x) _ (0,0) (hv x.head) HHS.out (by rintro w' ⟨z,rfl⟩;exact z.x) HHC.out ?_;simp only[pU];go_big_quiet_step (fail);go_big_quiet_step (fail);refine wpQuiet_nil ?_;refine rO 6 ?_;refine Bm rfl rfl 57 #[.tmp 34] (by intro b w;have hf:=Tryz.func57;simp[go_sem]) #[.pointer (some ⟨gh,0,none⟩)] rfl (fun v w'=>v=.int .i64 inc∧w'=aB uL.world) ((CI.out (aB uL.world) A1.out).mono fun e w' h=>⟨_,h.1,rfl,h.2⟩) (some 35) rfl ?_;rintro v wq ⟨rfl,rfl⟩;refine⟨HS1.out,?_⟩;simp only[pU];refine rO 12 ?_;refine Kz rfl rfl _ _ rfl #[(0,.int .i64 6),(1,.int .i64 inc),(12,.int .i64 xq),(2,.int .i64 us),(15,.agg (hv x.head))] rfl _ (Akh inc xq us HHL.out _) (some 41) rfl ?_;refine⟨HS1.out,?_⟩;simp only[pU];refine rO 13 ?_
  refine Bm rfl rfl 114 #[.tmp 29,.tmp 30,.tmp 41] (by intro b w;have hf:=Tryz.func114;simp[go_sem]) #[.pointer (some ⟨g,0,none⟩),.int .i64 t,.agg (Ae (Cz 6 inc us 0 0 0 0 0 0 0 0 0 xq 0 (Z,Z) x.head))] rfl (fun v w'=>v=.tuple #[]∧Av B w w' g gt gh gw R (Cx n t (Cz 6 inc us 0 0 0 0 0 0 0 0 0 xq 0 (Z,Z) x.head)) r O2∧Ec O2 (aB uL.world) w') ((CS.out (aB uL.world) A1.out t).mono fun e w' h=>⟨_,h.1,rfl,h.2⟩) (some 42) rfl ?_;rintro v w2 ⟨rfl,a2,q2⟩;have A2:Hid _:=a2;have Z2:Hid (w2.heap[w.heap.size]?=some (.cells (AD x) 112 (0,0))):=(q2 _ M1.out).trans Z1.out;clear a2 q2;have I2:Hid (DN g gt gh gw nu le be (fun W=>W.heap[w.heap.size]?=some (.cells (AD x) 112 (0,0))) w2):=A2.out.inN (HNS.out t).1 (HNS.out t).2.1 (HNS.out t).2.2 Z2.out;refine⟨I2.out,?_⟩;simp only[pU];refine rD ?_;refine⟨rfl,?_⟩;have CN2:=CN.out w2 t A2.out;have y2:w2.cell? ⟨w.heap.size,1,none⟩=some (.int .i64 xi):=by rw[HXI.out];exact(FO Z2.out).c1
  unfold Qa at CN2;go_wp2_with (go_at_call 72;refine CN2.mono ?_;rintro e w3 ⟨rfl,a3⟩;have A3:Hid _:=a3;clear a3);go_end0;refine⟨rfl,?_⟩;have HEt:=HE.out t _ HT.out A3.out.1;rw[HXQ.out,HXI.out] at HEt;exact HEt
end
end Go.Proofs.YtbhkoipcpcoooaaGreat
