import Derived.Test.YtbhkoipcpcoooabGreatJ16
import Derived.Test.YtbhkoipcpcoooabGreatJ8
import Derived.Test.YtbhkoipcpcoooabGreatJ2
import Derived.Test.YtbhkoipcpcoooabGreatJ4
import Derived.Test.YtbhkoipcpcoooabGreatJ3
import Derived.Test.YtbhkoipcpcoooabGreatJ10
import Derived.Test.YtbhkoipcpcoooabGreatJ13
import Derived.Test.YtbhkoipcpcoooabGreatJ12
namespace Go.Proofs.YtbhkoipcpcoooabGreat
set_option maxRecDepth 20000
set_option maxHeartbeats 64000000
open Go
open _root_.List renaming setIfInBounds_toArray → aA, set_cons_succ → aC, set_cons_zero → aD, drop_succ_cons → aH, headD_cons → aK, drop_zero → aL, map_cons → aN, map_nil → aP
open Go.Proofs.Tryz renaming prog → aB
open Go.World renaming drew → aG
open Go.Act renaming put → aI
open _root_.Nat renaming lt_of_lt_of_le → aJ, le_refl → aM, zero_add → aR, lt_succ_self → aT
open Go.RowKit.Below renaming refl → aO
open Go.Instr renaming build → aQ
section
open Go.RowKit
structure An(B:Nat)(w W:World)(g gt gh gw:Nat)(R:Rm)(n':Ap Ay)(r:DU)(O:Nat→Prop):Prop where
 ex:∃u,BT B W g gt gh gw R n' u∧FQ (Hd g gt gh gw r) (Hd g gt gh gw u) w W∧∀k,O k→¬Hd g gt gh gw u k∧w.heap.size≤k∧k<W.heap.size
section
variable {B:Nat} {w W W':World} {g gt gh gw:Nat} {R:Rm} {n n':Ap Ay} {r:DU} {O:Nat→Prop}
theorem An.begin(h:BT B w g gt gh gw R n r)(hb:Below w.heap.size w W)(hO:∀k,O k→w.heap.size≤k∧k<W.heap.size):An B w W g gt gh gw R n r O:=
 ⟨r,h.below hb,FQ.of_below hb,fun k hk=>⟨fun e=>by have:=(h.foot_in k e).2;have:=(hO k hk).1;omega,hO k hk⟩⟩
theorem An.to(a:An B w W g gt gh gw R n' r O):CZ B w W g gt gh gw R n' r:=by
 obtain⟨u,h1,h2,_⟩:=a;exact⟨u,h1,h2⟩
theorem An.below(a:An B w W g gt gh gw R n' r O)(hb:Below W.heap.size W W'):An B w W' g gt gh gw R n' r O:=by
 obtain⟨u,h1,h2,h3⟩:=a;exact⟨u,h1.below hb,h2.add hb,fun k hk=>⟨(h3 k hk).1,(h3 k hk).2.1,aJ (h3 k hk).2.2 hb.size⟩⟩
theorem An.more{O':Nat→Prop}(a:An B w W g gt gh gw R n' r O)(hb:Below W.heap.size W W')(hO:∀k,O' k→O k∨W.heap.size≤k∧k<W'.heap.size):An B w W' g gt gh gw R n' r O':=by
 obtain⟨u,h1,h2,h3⟩:=a;refine⟨u,h1.below hb,h2.add hb,fun k hk=> ?_⟩;rcases hO k hk with e | e
 ·exact⟨(h3 k e).1,(h3 k e).2.1,aJ (h3 k e).2.2 hb.size⟩
 ·exact⟨fun e'=>by have:=(h1.foot_in k e').2;omega,Nat.le_trans h2.kept.size e.1,e.2⟩
theorem An.own(a:An B w W g gt gh gw R n' r O){X:Nat→Prop}(hX:∀k,X k→O k)(hK:Ao X W W'):An B w W' g gt gh gw R n' r O:=by
 obtain⟨u,h1,h2,h3⟩:=a;refine⟨u,h1.kept hK fun k hk hx=>(h3 k (hX k hx)).1 hk,⟨h2.kept.trans hK fun k hk=> .inr (h3 k (hX k hk)).2.1,h2.foot⟩,fun k hk=>⟨(h3 k hk).1,(h3 k hk).2.1,aJ (h3 k hk).2.2 hK.size⟩⟩
theorem An.row(a:An B w W g gt gh gw R n' r O){p:Nat}(hp:O p)(cs:Array Value):An B w (W.setRow p cs) g gt gh gw R n' r O:=
 a.own (X:=Cj p) (fun k e=>by obtain rfl:k=p:=e;exact hp) ⟨rfl,rfl,rfl,by simp[World.setRow],fun k _ e=>setRow_other _ _ _ _ e⟩
theorem An.cell(a:An B w W g gt gh gw R n' r O){p:Nat}(hp:O p)(j:Nat)(v:Value):An B w (W.setCell ⟨p,j,none⟩ v) g gt gh gw R n' r O:=
 a.own (X:=Cj p) (fun k e=>by obtain rfl:k=p:=e;exact hp) ⟨rfl,rfl,rfl,by simp[World.setCell],fun k _ e=>heap_setCell_other W ⟨p,j,none⟩ k _ e⟩
def Ec(O:Nat→Prop)(W W':World):Prop:=∀k,O k→W'.heap[k]?=W.heap[k]?
theorem An.step(a:An B w W g gt gh gw R n' r O){n'':Ap Ay}(ht:∀u,BT B W g gt gh gw R n' u→CZ B W W' g gt gh gw R n'' u):An B w W' g gt gh gw R n'' r O∧Ec O W W':=by
 obtain⟨u,h1,h2,h3⟩:=a;obtain⟨x,h4,h5⟩:=ht u h1;refine⟨⟨x,h4,h2.trans h5,fun k hk=>⟨fun e=> ?_,(h3 k hk).2.1,aJ (h3 k hk).2.2 h5.kept.size⟩⟩,fun k hk=>h5.kept.block k (h3 k hk).2.2 (h3 k hk).1⟩;rcases h5.foot k e with e | e
 ·exact(h3 k hk).1 e
 ·have:=(h3 k hk).2.2;omega
theorem An.call(a:An B w W g gt gh gw R n' r O){n'':Ap Ay}{f:FuncId}{args:Array Value}{P:Ending→World→Prop}(hc:∀u,BT B W g gt gh gw R n' u→Calls aB f args W fun e w'=>P e w'∧CZ B W w' g gt gh gw R n'' u):
  Calls aB f args W fun e w'=>P e w'∧An B w w' g gt gh gw R n'' r O∧Ec O W w':=by
 obtain⟨u,h1,h2,h3⟩:=a;refine(hc u h1).mono fun e w' h=>⟨h.1,?_⟩;obtain⟨x,h4,h5⟩:=h.2;refine⟨⟨x,h4,h2.trans h5,fun k hk=>⟨fun e=> ?_,(h3 k hk).2.1,aJ (h3 k hk).2.2 h5.kept.size⟩⟩,fun k hk=>h5.kept.block k (h3 k hk).2.2 (h3 k hk).1⟩;rcases h5.foot k e with e | e
 ·exact(h3 k hk).1 e
 ·have:=(h3 k hk).2.2;omega
theorem An.ask(a:An B w W g gt gh gw R n' r O){f:FuncId}{args:Array Value}{P:Ending→World→Prop}(hc:∀u,BT B W g gt gh gw R n' u→Calls aB f args W P):Calls aB f args W P:=by
 obtain⟨u,h1,_⟩:=a;exact hc u h1
theorem An.ndV(a:An B w W g gt gh gw R n' r O):∃u,BT B W g gt gh gw R n' u:=by
 obtain⟨u,h1,_⟩:=a;exact⟨u,h1⟩
end
structure Fh(g gt gh gw:Nat)(nu le be:Int)(X:World→Prop) where
 world:World
 blk:∃(n:Ap Ay) (r:DU),world.heap[g]?=some (.cells (ndV n gt gh gw r) 63 (0,0))∧n.num=nu∧n.lease=le∧n.beat=be
 x:X world
section
variable {g gt gh gw:Nat} {nu le be:Int} {X:World→Prop}
theorem Fh.c4(z:Fh g gt gh gw nu le be X):z.world.cell? ⟨g,4,none⟩=some (.pointer (some ⟨gt,0,none⟩)):=by obtain⟨n,r,h,_⟩:=z.blk;exact(OH h).c4
theorem Fh.c5(z:Fh g gt gh gw nu le be X):z.world.cell? ⟨g,5,none⟩=some (.pointer (some ⟨gh,0,none⟩)):=by obtain⟨n,r,h,_⟩:=z.blk;exact(OH h).c5
theorem Fh.c6(z:Fh g gt gh gw nu le be X):z.world.cell? ⟨g,6,none⟩=some (.pointer (some ⟨gw,0,none⟩)):=by obtain⟨n,r,h,_⟩:=z.blk;exact(OH h).c6
abbrev Dv(g gt gh gw:Nat)(nu le be:Int)(X:World→Prop)(w:World):Prop:=∃z:Fh g gt gh gw nu le be X,w=z.world
theorem An.inN{B:Nat}{w W:World}{R:Rm}{n':Ap Ay}{r:DU}{O:Nat→Prop}(a:An B w W g gt gh gw R n' r O)(h1:n'.num=nu)(h2:n'.lease=le)(h3:n'.beat=be)(hx:X W):Dv g gt gh gw nu le be X W:=by
 obtain⟨u,h,_⟩:=a;exact⟨⟨W,⟨n',u,h.blk,h1,h2,h3⟩,hx⟩,rfl⟩
end
theorem Hs.bank20{n:Nat}{R:Rm}{S:Ay}(h:Hs n R S):∀b,∀x∈AY S b,KW E6 n (b:Int) x:=fun b x hx=>by
 unfold AY at hx
 split at hx
 ·rename_i e;subst e;exact h.inv.c x hx
 ·split at hx
  ·rename_i e;subst e;exact h.inv.a x hx
  ·split at hx
   ·rename_i e;subst e;exact h.inv.p x hx
   ·simp at hx
theorem BT.cL{B:Nat}{W:World}{g gt gh gw:Nat}{R:Rm}{n:Ap Ay}{r:DU}{M:Nat}(h:BT B W g gt gh gw R n r)(hi:Hs M R n.tab)(hM:M≤1000000)(hd:List Int)(hH:Ax hd)(now e:Int):
  Calls aB 51 #[.pointer (some ⟨gt,0,none⟩),.int .i64 now,.int .i64 e,.agg (hv hd)] W fun q w'=>q=.returned (.tuple #[.agg (Ab ((Ar R).look n.tab now e hd).2.1),.bool ((Ar R).look n.tab now e hd).2.2])∧CZ B W w' g gt gh gw R (Bm n ((Ar R).look n.tab now e hd).1) r:=by
 refine(U8 B W gt R n.tab r.v1 r.v2 r.v3 h.tab now e hd hH hi.ord (fun b x hx=> ?_)).mono fun e w' q=>⟨q.1,h.setTab q.2⟩;obtain⟨q1,q2,q3,_,_,_,_,q8⟩:=hi.bank20 b x hx;exact⟨q8,q1,q2,by unfold GL;omega⟩
theorem Gx{E:Ag}(H:E.Ok){ops:Array Oper}{Q:Exit→Act→World→Prop}{i:Nat}{o:Oper}{K:Act→World→Prop}{a:Act}{w:World}(hi:ops[i]?=some o)(hgd:o.guard=none)(x y:Operand)(ho:o.op=.store E.elem x y)
  (g:Nat) (cs:Array Value) (hf:cs.size=E.size∧cs.all (·.oneCell')=true) (hx:a.eval x=.pointer (some ⟨g,0,none⟩)) (hy:a.eval y=.agg cs) (old:Array Value) (hg:w.heap[g]?=some (.cells old E.elem (0,0))) (hold:old.size=E.size) (d:Option Tmp) (hd:o.dst=d)
  (hK:K (a.put d undef) (w.setRow g cs)):wpOp aB ops Q i K a w:=by
 subst hd;exact Dt hi (Du H hgd x y ho g cs hf hx hy old hg hold _ rfl hK)
theorem Tb{E:El}(H:E.Ok){ops:Array Oper}{rest:List Oper}{o:Oper}{a:Act}{w:World}{Q:Exit→Act→World→Prop}(hg:o.guard=none)(ho:o.op=.alloc E.elem)
  (h:wpList aB ops Q rest (a.put o.dst (.pointer (some ⟨w.heap.size,0,none⟩))) (w.alloc (.cells E.zero E.elem))):wpList aB ops Q (o::rest) a w:=by
 obtain⟨ie,h1,h2,_,_⟩:=H.info;refine Great.wpList_allocTo hg o.dst rfl _ _ ?_ h;unfold execOp;simp only[ho];simp[go_sem,Instr.alloc,zeroValue,typeInfo,h1,h2,Value.cells]
theorem Hi{E:El}(H:E.Ok){ops:Array Oper}{Q:Exit→Act→World→Prop}{i:Nat}{o:Oper}{K:Act→World→Prop}{a:Act}{w:World}(hi:ops[i]?=some o)(hgd:o.guard=none)(ho:o.op=.alloc E.elem)(d:Option Tmp)(hd:o.dst=d)
  (hK:K (a.put d (.pointer (some ⟨w.heap.size,0,none⟩))) (w.alloc (.cells E.zero E.elem))):wpOp aB ops Q i K a w:=by
 subst hd;exact Dt hi (Tb H hgd ho hK)
def SlG:Ag:=⟨75,36⟩
theorem Pg:SlG.Ok:=⟨⟨_,Tryz.underlying75,rfl⟩,by kernel_rfl⟩
theorem Qv(B:Nat)(w:World)(g gt gh gw:Nat)(R:Rm)(n:Ap Ay)(r:DU)(h:BT B w g gt gh gw R n r)(hn:E4 n.hold)(now:Int):
  Calls aB 21 #[.pointer (some ⟨g,0,none⟩),.int .i64 now] w fun e w'=>e=.returned (.bool (Kw n now))∧Below w.heap.size w w':=by
 have c1:∀u:Al w,u.world.cell? ⟨g,1,none⟩=some (.int .i64 n.lease):=fun u=>(h.below u.below).f.c1;have c5:∀u:Al w,u.world.cell? ⟨g,5,none⟩=some (.pointer (some ⟨gh,0,none⟩)):=fun u=>(h.below u.below).f.c5;have C:∀u:Al w,Calls aB 46 #[.pointer (some ⟨gh,0,none⟩),.int .i64 now,.int .i64 n.lease] u.world fun e w'=>e=.returned (.bool (Kw n now))∧w'=u.world:=fun u=>Zi u.world gh n.hold (h.below u.below).hold hn.ok hn.b now n.lease;have ne9:=Al.ne w;obtain⟨b,hb⟩:=eX (Kw n now);obtain⟨le,hle⟩:=eX n.lease;rw[←hb] at C ⊢;rw[←hle] at C c1;clear hb hle h hn;go_enter Tryz.func21,Tryz.ntmps21;go_wp2_with fail;refine rL ?_
 iterate 9 (go_big_quiet_step (fail))
 go_big_quiet_want;go_big_quiet_op;refine⟨_,fun u=>Calls.later_sameT (C u),?_⟩;go_big_quiet_on;go_big_quiet_step (fail);refine wpQuiet_nil ?_;rintro w' ⟨uL,rfl⟩;go_wp2_with fail;go_ret;exact⟨rfl,uL.below⟩
theorem U9(B:Nat)(w:World)(g gt gh gw:Nat)(R:Rm)(n:Ap Ay)(r:DU)(h:BT B w g gt gh gw R n r){M:Nat}(hi:Hs M R n.tab)(hM:M≤1000000)(hd:List Int)(hH:Ax hd)(now:Int):
  Calls aB 32 #[.pointer (some ⟨g,0,none⟩),.agg (hv hd),.int .i64 now] w fun e w'=>e=.returned (.tuple #[.agg (Ab ((Ar R).look n.tab now n.hold.use hd).2.1),.bool ((Ar R).look n.tab now n.hold.use hd).2.2])∧CZ B w w' g gt gh gw R (Bm n ((Ar R).look n.tab now n.hold.use hd).1) r:=by
 obtain⟨w0,hw0⟩:∃w0,w0=(w.alloc (.cells (hv hd) 23)).alloc (.cells (Ab Av) 75):=⟨_,rfl⟩;have hHl:=hH.1;obtain⟨O2,hO2⟩:∃O2:Nat→Prop,O2=fun k=>k=w.heap.size∨k=w.heap.size+1:=⟨_,rfl⟩;have B0:Below w.heap.size w w0:=by rw[hw0];exact((aO _ _).alloc (aM _) _).alloc (by rw[AI];exact Nat.le_succ _) _
 have Zs:w0.heap.size=w.heap.size+1+1:=by rw[hw0,AI,AI]
 have Z0:Hid (w0.heap[w.heap.size]?=some (.cells (hv hd) 23 (0,0))):=by
  show _=_;rw[hw0];exact(((aO (w.heap.size+1) (w.alloc (.cells (hv hd) 23))).alloc (by rw[AI];exact aM _) (.cells (Ab Av) 75)).block _ (aT _)).trans (Ac _ _ _ rfl)
 have Z1:Hid (w0.heap[w.heap.size+1]?=some (.cells (Ab Av) 75 (0,0))):=by show _=_;rw[hw0];exact Ac _ _ _ (by rw[AI])
 have AT:Hid (An B w (aG w0) g gt gh gw R n r O2):=An.begin h B0.drew (by rw[hO2];rintro k (rfl | rfl) <;> (show _∧_<w0.heap.size;omega));have CU:Hid (∀W,An B w W g gt gh gw R n r O2→Calls aB 20 #[.pointer (some ⟨gh,0,none⟩)] W fun e w'=>e=.returned (.int .i64 n.hold.use)∧w'=W):=fun W hW=>hW.ask fun u hu=>Ht W gh n.hold hu.hold;have CL:Hid (∀W,An B w W g gt gh gw R n r O2→Calls aB 51 #[.pointer (some ⟨gt,0,none⟩),.int .i64 now,.int .i64 n.hold.use,.agg (hv hd)] W fun e w'=>e=.returned (.tuple #[.agg (Ab ((Ar R).look n.tab now n.hold.use hd).2.1),.bool ((Ar R).look n.tab now n.hold.use hd).2.2])∧An B w w' g gt gh gw R (Bm n ((Ar R).look n.tab now n.hold.use hd).1) r O2∧Ec O2 W w'):=fun W hW=>hW.call fun u hu=>hu.cL hi hM hd hH now n.hold.use;obtain⟨S',hS'⟩:∃S',S'=((Ar R).look n.tab now n.hold.use hd).1:=⟨_,rfl⟩;obtain⟨s,hs⟩:∃s,s=((Ar R).look n.tab now n.hold.use hd).2.1:=⟨_,rfl⟩;obtain⟨b,hb⟩:∃b,b=((Ar R).look n.tab now n.hold.use hd).2.2:=⟨_,rfl⟩;obtain⟨us,hus⟩:∃us,us=n.hold.use:=⟨_,rfl⟩;rw[←hS', ←hs, ←hb] at CL ⊢;rw[←hus] at CL CU;obtain⟨nu,hnu⟩:∃nu,nu=n.num:=⟨_,rfl⟩;obtain⟨le,hle⟩:∃le,le=n.lease:=⟨_,rfl⟩;obtain⟨be,hbe⟩:∃be,be=n.beat:=⟨_,rfl⟩
 have HS0:Hid (Dv g gt gh gw nu le be (fun W=>W.heap[w.heap.size]?=some (.cells (hv hd) 23 (0,0))) (aG w0)):=AT.out.inN hnu.symm hle.symm hbe.symm Z0.out;have HI:Hid (∀W,An B w W g gt gh gw R (Bm n S') r O2→W.heap[w.heap.size]?=some (.cells (hv hd) 23 (0,0))→Dv g gt gh gw nu le be (fun W=>W.heap[w.heap.size]?=some (.cells (hv hd) 23 (0,0))) W):=fun W hW hx=>hW.inN hnu.symm hle.symm hbe.symm hx;have hw0':=hw0.symm;have M1:Hid (O2 w.heap.size):=by show O2 _;rw[hO2];exact .inl rfl
 have M2:Hid (O2 (w.heap.size+1)):=by show O2 _;rw[hO2];exact .inr rfl
 clear hS' hs hb hus h hi hM hH hw0 B0 hnu hle hbe Zs hO2;go_enter Tryz.func32,Tryz.ntmps32;go_wp2_with (first|((with_reducible refine FW rfl ?_);refine C9 rfl rfl ?_;try rw[AI]));have e4:∀z:Fh g gt gh gw nu le be (fun W=>W.heap[w.heap.size]?=some (.cells (hv hd) 23 (0,0))),z.world.cell? ⟨g,4,none⟩=some (.pointer (some ⟨gt,0,none⟩)):=fun z=>z.c4;have e5:∀z:Fh g gt gh gw nu le be (fun W=>W.heap[w.heap.size]?=some (.cells (hv hd) 23 (0,0))),z.world.cell? ⟨g,5,none⟩=some (.pointer (some ⟨gh,0,none⟩)):=fun z=>z.c5;have ne9:Nonempty (Fh g gt gh gw nu le be (fun W=>W.heap[w.heap.size]?=some (.cells (hv hd) 23 (0,0)))):=by obtain⟨z,_⟩:=HS0.out;exact⟨z⟩
 refine Em ?_;refine BJ (Dv g gt gh gw nu le be (fun W=>W.heap[w.heap.size]?=some (.cells (hv hd) 23 (0,0)))) 16 rfl (by kernel_rfl) ?_;refine AV [0,4,5,10,1,6,2,7,3,8] 10 6 rfl (by kernel_rfl) (by decide) (by kernel_rfl) (by kernel_rfl) (by intro d v c a w h;exact absurd h.1 (by simp)) HS0.out ?_;simp only[Df,aN,aP,aH,aL,aK]
 iterate 3 (go_big_quiet_step (fail))
 refine Ij rfl 23 _ rfl w.heap.size rfl 23 (hv hd) (0,0) _ (fun w' h=>by obtain⟨z,rfl⟩:=h;exact z.x) Tryz.underlying23 rfl (Ic hd hHl) ?_;simp only[aI,aA,aC,aD]
 iterate 6 (go_big_quiet_step (fail))
 refine wpQuiet_nil ?_;refine Bb 9 (by kernel_rfl) ?_;refine Bp rfl rfl 20 #[.tmp 16] (by intro b w;have hf:=Tryz.func20;simp[go_sem]) #[.pointer (some ⟨gh,0,none⟩)] rfl (fun v w'=>v=.int .i64 us∧w'=aG w0) ((CU.out (aG w0) AT.out).mono fun e w' h=>⟨_,h.1,rfl,h.2⟩) (some 17) rfl ?_;rintro v w1 ⟨rfl,rfl⟩;refine⟨HS0.out,?_⟩;simp only[aI,aA,aC,aD];refine Bb 11 (by kernel_rfl) ?_;refine Bp rfl rfl 51 #[.tmp 11,.tmp 12,.tmp 17,.tmp 18] (by intro b w;have hf:=Tryz.func51;simp[go_sem]) #[.pointer (some ⟨gt,0,none⟩),.int .i64 now,.int .i64 us,.agg (hv hd)] rfl (fun v w'=>v=.tuple #[.agg (Ab s),.bool b]∧An B w w' g gt gh gw R (Bm n S') r O2∧Ec O2 (aG w0) w') ((CL.out (aG w0) AT.out).mono fun e w' h=>⟨_,h.1,rfl,h.2⟩) (some 19) rfl ?_;rintro v w2 ⟨rfl,a2,k2⟩;have A2:Hid _:=a2;have Y2:Hid (w2.heap[w.heap.size]?=some (.cells (hv hd) 23 (0,0))):=(k2 _ M1.out).trans Z0.out;have Z2:Hid (w2.heap[w.heap.size+1]?=some (.cells (Ab Av) 75 (0,0))):=(k2 _ M2.out).trans Z1.out;clear a2 k2;have I2:Hid _:=HI.out w2 A2.out Y2.out;refine⟨I2.out,?_⟩;simp only[aI,aA,aC,aD]
 refine AV [12,13] 2 2 rfl (by kernel_rfl) (by decide) (by kernel_rfl) (by kernel_rfl) (by intro d v c a w h;exact absurd h.1 (by simp)) I2.out ?_;simp only[Df,aN,aP,aH,aL,aK];go_big_quiet_step (fail);go_big_quiet_step (fail);refine wpQuiet_nil ?_;refine Bb 14 (by kernel_rfl) ?_;refine Gx Pg rfl rfl _ _ rfl (w.heap.size+1) (Ab s) (Hu s) rfl rfl _ Z2.out (AK _) none rfl ?_;have Y3:Hid ((w2.setRow (w.heap.size+1) (Ab s)).heap[w.heap.size]?=some (.cells (hv hd) 23 (0,0))):=(setRow_other _ _ _ _ (by omega)).trans Y2.out;have A3:Hid _:=A2.out.row (p:=w.heap.size+1) M2.out (Ab s);have I3:Hid _:=HI.out _ A3.out Y3.out;refine⟨I3.out,?_⟩;simp only[aI];refine AV [15] 1 0 rfl (by kernel_rfl) (by decide) (by kernel_rfl) (by kernel_rfl) (by intro d v c a w h;exact absurd h.1 (by simp)) I3.out ?_;simp only[Df,aN,aP,aH,aL,aK];go_big_quiet_step (fail);refine wpQuiet_nil ?_;refine wpAnyH_done (by kernel_rfl) ?_ _;refine⟨rfl,?_⟩;go_wp2_with fail;refine MG (p:=6) (q:=7) rfl rfl (w.heap.size+1) rfl s (setRow_heap _ _ _ _ _ _ Z2.out) _ rfl ?_;exact⟨rfl,A3.out.to⟩
end
section
open Go.Lib Go.RowKit
theorem Tg{o:Oper}{t:Nat}{ps:Array (Nat×Operand)}(ho:o.op=.build t ps)(a:Act)(W:World)(qs:Array (Nat×Value))(hq:(ps.map fun(i,x)=>(i,a.eval x))=qs)(v:Value)(h:(aQ t qs).run aB W=.ok v W):(execOp a.eval o).run aB W=.ok (.value v) W:=by
 unfold execOp;simp only[ho,Sem.run_bind,hq,h,Result.andThen_ok,Sem.run_pure]
end
section
open Go.RowKit
theorem KK(k inc epoch floor at_ of order action one two sent use seq load:Int){c:List Int×List Int}{h:List Int}(hc:Ax c.1∧Ax c.2)(hh:Ax h):Bj (Cg k inc epoch floor at_ of order action one two sent use seq load c h):=⟨rfl,hc.1,hc.2,hh⟩
theorem Ce:BG 0:=⟨Int.le_refl _,by decide⟩
theorem Ji{k:Int}{f:List Nat}(hf:AS k=f)(hne:f.isEmpty=false){inc epoch floor at_ of order action one two sent use seq load:Int}{c:List Int×List Int}{h:List Int}
  (h0:BG inc) (h1:BG epoch) (h2:BG floor) (h3:BG at_) (h4:BG of) (h5:BG order) (h6:BG action) (h7:BG one) (h8:BG two) (h9:BG sent) (h10:BG use) (h11:BG seq) (h12:BG load)
  (hz:∀j,j<13→j∉f→Ad (Cg k inc epoch floor at_ of order action one two sent use seq load c h) j=0) (hc:AH c.1 c.2=c.1) (hc2:13∉f→c.1=Z∧c.2=Z) (hh:14∉f→h=Z):Bo (Cg k inc epoch floor at_ of order action one two sent use seq load c h)=true:=by
 refine(E5 _).2 ⟨by show(AS k).isEmpty=false;rw[hf];exact hne,fun j hj=> ?_,?_,by show 13∉AS k→_;rw[hf];exact hc2,by show 14∉AS k→_;rw[hf];exact hh⟩
 ·have hb:BG (Ad (Cg k inc epoch floor at_ of order action one two sent use seq load c h) j):=by
   rcases(show j=0∨j=1∨j=2∨j=3∨j=4∨j=5∨j=6∨j=7∨j=8∨j=9∨j=10∨j=11∨j=12 by omega) with rfl | rfl | rfl | rfl | rfl | rfl | rfl | rfl | rfl | rfl | rfl | rfl | rfl
   all_goals assumption
  refine⟨hb.1,by have:=hb.2;omega,?_⟩;show j∉AS k→_;rw[hf];exact hz j hj
 ·show EJ _=true;unfold EJ;show(c.1==AH c.1 c.2)=true;rw[hc];exact beq_self_eq_true _
theorem NT{P:Nat→Prop}(h:P 0∧P 1∧P 2∧P 3∧P 4∧P 5∧P 6∧P 7∧P 8∧P 9∧P 10∧P 11∧P 12):∀j,j<13→P j:=fun j hj=>by
 obtain⟨h0,h1,h2,h3,h4,h5,h6,h7,h8,h9,h10,h11,h12⟩:=h
 rcases(show j=0∨j=1∨j=2∨j=3∨j=4∨j=5∨j=6∨j=7∨j=8∨j=9∨j=10∨j=11∨j=12 by omega) with rfl | rfl | rfl | rfl | rfl | rfl | rfl | rfl | rfl | rfl | rfl | rfl | rfl <;> assumption
theorem VD:AH Z Z=Z:=by kernel_rfl
theorem YG{inc e a:Int}(h0:BG inc)(h1:BG e)(h2:BG a):Bo (Cg 4 inc e 0 a 0 0 0 0 0 0 0 0 0 (Z,Z) Z)=true:=
 Ji (f:=[0,1,3]) rfl rfl h0 h1 Ce h2 Ce Ce Ce Ce Ce Ce Ce Ce Ce (NT ⟨fun h=>absurd (by decide) h,fun h=>absurd (by decide) h,fun _=>rfl,fun h=>absurd (by decide) h,fun _=>rfl,fun _=>rfl,fun _=>rfl,fun _=>rfl,fun _=>rfl,fun _=>rfl,fun _=>rfl,fun _=>rfl,fun _=>rfl⟩) VD (fun _=>⟨rfl,rfl⟩) fun _=>rfl
theorem YF{inc top a use load:Int}(h0:BG inc)(h1:BG top)(h2:BG a)(h3:BG use)(h4:BG load):Bo (Cg 5 inc top 0 a 0 0 0 0 0 0 use 0 load (Z,Z) Z)=true:=
 Ji (f:=[0,10,1,3,12]) rfl rfl h0 h1 Ce h2 Ce Ce Ce Ce Ce Ce h3 Ce h4 (NT ⟨fun h=>absurd (by decide) h,fun h=>absurd (by decide) h,fun _=>rfl,fun h=>absurd (by decide) h,fun _=>rfl,fun _=>rfl,fun _=>rfl,fun _=>rfl,fun _=>rfl,fun _=>rfl,fun h=>absurd (by decide) h,fun _=>rfl,fun h=>absurd (by decide) h⟩) VD (fun _=>⟨rfl,rfl⟩) fun _=>rfl
theorem YE{inc e seq:Int}{hd:List Int}(h0:BG inc)(h1:BG e)(h2:BG seq):Bo (Cg 6 inc e 0 0 0 0 0 0 0 0 0 seq 0 (Z,Z) hd)=true:=
 Ji (f:=[0,11,1,14]) rfl rfl h0 h1 Ce Ce Ce Ce Ce Ce Ce Ce Ce h2 Ce (NT ⟨fun h=>absurd (by decide) h,fun h=>absurd (by decide) h,fun _=>rfl,fun _=>rfl,fun _=>rfl,fun _=>rfl,fun _=>rfl,fun _=>rfl,fun _=>rfl,fun _=>rfl,fun _=>rfl,fun h=>absurd (by decide) h,fun _=>rfl⟩) VD (fun _=>⟨rfl,rfl⟩) fun h=>absurd (by decide) h
theorem RN{inc e act seq:Int}{c:List Int×List Int}(h0:BG inc)(h1:BG e)(h2:BG act)(h3:BG seq)(hc:AH c.1 c.2=c.1):Bo (Cg 7 inc e 0 0 0 0 act 0 0 0 0 seq 0 c Z)=true:=
 Ji (f:=[0,11,1,6,13]) rfl rfl h0 h1 Ce Ce Ce Ce h2 Ce Ce Ce Ce h3 Ce (NT ⟨fun h=>absurd (by decide) h,fun h=>absurd (by decide) h,fun _=>rfl,fun _=>rfl,fun _=>rfl,fun _=>rfl,fun h=>absurd (by decide) h,fun _=>rfl,fun _=>rfl,fun _=>rfl,fun _=>rfl,fun h=>absurd (by decide) h,fun _=>rfl⟩) hc (fun h=>absurd (by decide) h) fun _=>rfl
theorem Aaa(inc e a:Int)(W:World):(aQ 27 #[(0,.int .i64 4),(1,.int .i64 inc),(2,.int .i64 e),(4,.int .i64 a)]).run aB W=.ok (.agg (Ah (Cg 4 inc e 0 a 0 0 0 0 0 0 0 0 0 (Z,Z) Z))) W:=by
 rw[Hr];kernel_rfl
theorem Aa9(inc use top a load:Int)(W:World):(aQ 27 #[(0,.int .i64 5),(1,.int .i64 inc),(11,.int .i64 use),(2,.int .i64 top),(4,.int .i64 a),(13,.int .i64 load)]).run aB W=.ok (.agg (Ah (Cg 5 inc top 0 a 0 0 0 0 0 0 use 0 load (Z,Z) Z))) W:=by
 rw[Hr];kernel_rfl
theorem Aa8(inc seq e:Int){hd:List Int}(hl:hd.length=13)(W:World):(aQ 27 #[(0,.int .i64 6),(1,.int .i64 inc),(12,.int .i64 seq),(2,.int .i64 e),(15,.agg (hv hd))]).run aB W=.ok (.agg (Ah (Cg 6 inc e 0 0 0 0 0 0 0 0 0 seq 0 (Z,Z) hd))) W:=by
 rw[Hr];obtain⟨a0,a1,a2,a3,a4,a5,a6,a7,a8,a9,a10,a11,a12,rfl⟩:=JJ hl;kernel_rfl
theorem SM(inc seq e act:Int){c:List Int×List Int}(h1:c.1.length=13)(h2:c.2.length=13)(W:World):(aQ 27 #[(0,.int .i64 7),(1,.int .i64 inc),(12,.int .i64 seq),(2,.int .i64 e),(7,.int .i64 act),(14,.agg (cv c.1 c.2))]).run aB W=.ok (.agg (Ah (Cg 7 inc e 0 0 0 0 act 0 0 0 0 seq 0 c Z))) W:=by
 rw[Hr];obtain⟨V,M⟩:=c;obtain⟨a0,a1,a2,a3,a4,a5,a6,a7,a8,a9,a10,a11,a12,rfl⟩:=JJ h1;obtain⟨b0,b1,b2,b3,b4,b5,b6,b7,b8,b9,b10,b11,b12,rfl⟩:=JJ h2;kernel_rfl
theorem NK{b:List UInt8}{m:Aj}(h:Gc b=some m):Bj m∧(∀j,BG (Ad m j))∧AH m.cube.1 m.cube.2=m.cube.1:=by
 obtain⟨h1,h2,_⟩:=Un h;obtain⟨_,h3,h4,_⟩:=(E5 m).1 h2;refine⟨h1,fun j=> ?_,?_⟩
 ·rcases Nat.lt_or_ge j 13 with hj | hj
  ·exact⟨(h3 j hj).1,by have:=(h3 j hj).2.1;omega⟩
  ·unfold Ad;rw[List.getD_eq_getElem?_getD,List.getElem?_eq_none (by rw[h1.1];omega)];exact Ce
 ·unfold EJ at h4;exact(by simpa using h4:m.cube.1=AH m.cube.1 m.cube.2).symm
theorem Aaj{x:Cq}(h:x.head.length=13):∀j,j<13→(AL x)[2+j]?=(hv x.head)[j]?:=fun j hj=>by
 rw[ZB h]
 rcases(show j=0∨j=1∨j=2∨j=3∨j=4∨j=5∨j=6∨j=7∨j=8∨j=9∨j=10∨j=11∨j=12 by omega) with rfl | rfl | rfl | rfl | rfl | rfl | rfl | rfl | rfl | rfl | rfl | rfl | rfl <;> rfl
theorem VN(B:Nat)(w:World)(g gt gh gw:Nat)(R:Rm)(n:Ap Ay)(r:DU)(h:BT B w g gt gh gw R n r){M:Nat}(hi:AQ M R n)(hM:M≤1000000):
  Calls aB 44 #[.pointer (some ⟨g,0,none⟩)] w fun e w'=>e=.returned (.tuple #[])∧CZ B w w' g gt gh gw R (Kn n) r:=by
 obtain⟨O,hO⟩:∃O:Nat→Prop,O=fun _=>False:=⟨_,rfl⟩;have c5:=h.f.c5;have CT:=(Fn w gh n.hold h.hold).2.2;have CC:=Pa w gh n.hold h.hold n.hold.top;have A0:Hid (∀W,Below w.heap.size w W→An B w W g gt gh gw R n r O):=fun W hW=>An.begin h hW (by rw[hO];exact fun k e=>e.elim);have C3:Hid (∀W,Below w.heap.size w W→W.cell? ⟨g,3,none⟩=some (.int .i64 n.load)):=fun W hW=>(h.below hW).f.c3;have CI:Hid (∀W,An B w W g gt gh gw R n r O→Calls aB 19 #[.pointer (some ⟨gh,0,none⟩)] W fun e w'=>e=.returned (.int .i64 n.hold.life)∧w'=W):=fun W hW=>hW.ask fun u hu=>(Fn W gh n.hold hu.hold).1;have CU:Hid (∀W,An B w W g gt gh gw R n r O→Calls aB 20 #[.pointer (some ⟨gh,0,none⟩)] W fun e w'=>e=.returned (.int .i64 n.hold.use)∧w'=W):=fun W hW=>hW.ask fun u hu=>Ht W gh n.hold hu.hold;have e0:Kn n=BX n 0 (Cg 5 n.hold.life n.hold.top 0 ((n.hold.cnt n.hold.top).1:Nat) 0 0 0 0 0 0 n.hold.use 0 n.load (Z,Z) Z):=rfl
 have CS:Hid (∀W,An B w W g gt gh gw R n r O→Calls aB 53 #[.pointer (some ⟨g,0,none⟩),.int .i64 0,.agg (Ah (Cg 5 n.hold.life n.hold.top 0 ((n.hold.cnt n.hold.top).1:Nat) 0 0 0 0 0 0 n.hold.use 0 n.load (Z,Z) Z))] W fun e w'=>e=.returned (.tuple #[])∧An B w w' g gt gh gw R (Kn n) r O∧Dv g gt gh gw n.num n.lease n.beat (fun W=>W.cell? ⟨g,3,none⟩=some (.int .i64 n.load)) w'):=fun W hW=>by
  refine(hW.call (n'':=Kn n) (P:=fun e _=>e=.returned (.tuple #[])) fun u hu=> ?_).mono fun e w' q=>⟨q.1,q.2.1,?_⟩
  ·rw[e0];exact Ig B W g gt gh gw R n u hu (by have:=hi.post;omega) 0 _ (KK _ _ _ _ _ _ _ _ _ _ _ _ _ _ ⟨AX,AX⟩ AX) (YF hi.hold.life hi.hold.top0 (hi.hold.many _) hi.hold.use hi.load)
  ·obtain⟨u,hu⟩:=q.2.1.ndV;have hs:=L6 n 0 (Cg 5 n.hold.life n.hold.top 0 ((n.hold.cnt n.hold.top).1:Nat) 0 0 0 0 0 0 n.hold.use 0 n.load (Z,Z) Z);refine q.2.1.inN (by rw[e0];exact hs.2.2.2.2.1) (by rw[e0];exact hs.2.2.2.2.2.1) (by rw[e0];exact hs.2.2.2.2.2.2.1) ?_;have:=hu.f.c3;rw[e0] at this;rw[this];unfold BX;split <;> rfl
 obtain⟨n',hn'⟩:∃n',n'=Kn n:=⟨_,rfl⟩;rw[←hn'] at CS ⊢;obtain⟨inc,hinc⟩:∃inc,inc=n.hold.life:=⟨_,rfl⟩;obtain⟨us,hus⟩:∃us,us=n.hold.use:=⟨_,rfl⟩;obtain⟨top,htop⟩:∃top,top=n.hold.top:=⟨_,rfl⟩;obtain⟨many,hmany⟩:∃many:Int,many=((n.hold.cnt n.hold.top).1:Nat):=⟨_,rfl⟩;obtain⟨of_,hof⟩:∃of_:Int,of_=(n.hold.cnt n.hold.top).2:=⟨_,rfl⟩;obtain⟨lo,hlo⟩:∃lo,lo=n.load:=⟨_,rfl⟩;obtain⟨nu,hnu⟩:∃nu,nu=n.num:=⟨_,rfl⟩;obtain⟨le,hle⟩:∃le,le=n.lease:=⟨_,rfl⟩;obtain⟨be,hbe⟩:∃be,be=n.beat:=⟨_,rfl⟩;rw[←hinc] at CI CS;rw[←hus] at CU CS;rw[←hmany, ←hof] at CC;rw[←hmany] at CS;rw[←htop] at CT CC CS;rw[←hlo] at CS C3;rw[←hnu, ←hle, ←hbe] at CS;have HSx:Hid (∀W,Below w.heap.size w W→Dv g gt gh gw nu le be (fun W=>W.cell? ⟨g,3,none⟩=some (.int .i64 lo)) W):=fun W hW=>(A0.out W hW).inN hnu.symm hle.symm hbe.symm (C3.out W hW);clear hn' hinc hus htop hmany hof hlo hnu hle hbe e0 hi hM h hO;go_enter Tryz.func44,Tryz.ntmps44
 go_wp2_with (first
  | (go_at_call 23;refine CT.mono ?_;rintro e w9 ⟨rfl,hw9⟩;have hw9:=hw9.symm;subst hw9)
  | (go_at_call 72;refine CC.mono ?_;rintro e w1 ⟨rfl,hb1⟩;have HB1:Hid _:=hb1;clear hb1))
 have A1:Hid (An B w (aG w1) g gt gh gw R n r O):=A0.out _ HB1.out.drew;have HS1:Hid (Dv g gt gh gw nu le be (fun W=>W.cell? ⟨g,3,none⟩=some (.int .i64 lo)) (aG w1)):=HSx.out _ HB1.out.drew;clear c5 CT CC;have e5:∀z:Fh g gt gh gw nu le be (fun W=>W.cell? ⟨g,3,none⟩=some (.int .i64 lo)),z.world.cell? ⟨g,5,none⟩=some (.pointer (some ⟨gh,0,none⟩)):=fun z=>z.c5;have ne9:Nonempty (Fh g gt gh gw nu le be (fun W=>W.cell? ⟨g,3,none⟩=some (.int .i64 lo))):=by obtain⟨z,_⟩:=HS1.out;exact⟨z⟩
 have e3:∀z:Fh g gt gh gw nu le be (fun W=>W.cell? ⟨g,3,none⟩=some (.int .i64 lo)),z.world.cell? ⟨g,3,none⟩=some (.int .i64 lo):=fun z=>z.x;refine Em ?_;refine BJ (Dv g gt gh gw nu le be (fun W=>W.cell? ⟨g,3,none⟩=some (.int .i64 lo))) 19 rfl (by kernel_rfl) ?_;refine AV [0,1,6,11,12,13,2,7,14,3,8,15,4,9,16] 15 4 rfl (by kernel_rfl) (by decide) (by kernel_rfl) (by kernel_rfl) (by intro d v c a w h;exact absurd h.1 (by simp)) HS1.out ?_;simp only[Df,aN,aP,aH,aL,aK]
 iterate 15 (go_big_quiet_step (fail))
 refine wpQuiet_nil ?_;refine Bb 5 (by kernel_rfl) ?_;refine Bp rfl rfl 19 #[.tmp 23] (by intro b w;have hf:=Tryz.func19;simp[go_sem]) #[.pointer (some ⟨gh,0,none⟩)] rfl (fun v w'=>v=.int .i64 inc∧w'=(aG w1)) ((CI.out (aG w1) A1.out).mono fun e w' h=>⟨_,h.1,rfl,h.2⟩) (some 24) rfl ?_;rintro v wq ⟨rfl,rfl⟩;refine⟨HS1.out,?_⟩;simp only[aI,aA,aC,aD];refine Bb 10 (by kernel_rfl) ?_;refine Bp rfl rfl 20 #[.tmp 28] (by intro b w;have hf:=Tryz.func20;simp[go_sem]) #[.pointer (some ⟨gh,0,none⟩)] rfl (fun v w'=>v=.int .i64 us∧w'=(aG w1)) ((CU.out (aG w1) A1.out).mono fun e w' h=>⟨_,h.1,rfl,h.2⟩) (some 29) rfl ?_;rintro v wq ⟨rfl,rfl⟩;refine⟨HS1.out,?_⟩;simp only[aI,aA,aC,aD];refine Bb 17 (by kernel_rfl) ?_;refine Jf rfl rfl _ _ rfl #[(0,.int .i64 5),(1,.int .i64 inc),(11,.int .i64 us),(2,.int .i64 top),(4,.int .i64 many),(13,.int .i64 lo)] rfl _ (Aa9 inc us top many lo _) (some 36) rfl ?_;refine⟨HS1.out,?_⟩;simp only[aI,aA,aC,aD];refine Bb 18 (by kernel_rfl) ?_
 refine Bp rfl rfl 53 #[.tmp 19,.const (.int .i64 0),.tmp 36] (by intro b w;have hf:=Tryz.func53;simp[go_sem]) #[.pointer (some ⟨g,0,none⟩),.int .i64 0,.agg (Ah (Cg 5 inc top 0 many 0 0 0 0 0 0 us 0 lo (Z,Z) Z))] rfl (fun v w'=>v=.tuple #[]∧An B w w' g gt gh gw R n' r O∧Dv g gt gh gw nu le be (fun W=>W.cell? ⟨g,3,none⟩=some (.int .i64 lo)) w') ((CS.out (aG w1) A1.out).mono fun e w' h=>⟨_,h.1,rfl,h.2⟩) (some 37) rfl ?_;rintro v w2 ⟨rfl,a2,i2⟩;have A2:Hid _:=a2;clear a2;refine⟨i2,?_⟩;simp only[aI,aA,aC,aD];refine wpAnyH_done (by kernel_rfl) ?_ _;refine⟨rfl,?_⟩;go_end0;exact⟨rfl,A2.out.to⟩
theorem Pz(B:Nat)(w:World)(g gt gh gw:Nat)(R:Rm)(n:Ap Ay)(r:DU)(h:BT B w g gt gh gw R n r){M:Nat}(hi:AQ M R n)(hM:M≤1000000)(x:Cq)(hx:Ax x.head)(hq:BG x.seq)(h0:0≤x.sent)(s:Ae):
  Calls aB 35 #[.pointer (some ⟨g,0,none⟩),.agg (AL x),.agg (Ab s)] w fun e w'=>e=.returned (.tuple #[])∧CZ B w w' g gt gh gw R (Eb n x.seq x.index x.head x.sent s) r:=by
 obtain⟨w0,hw0⟩:∃w0,w0=(w.alloc (.cells (AL x) 82)).alloc (.cells (Ab s) 75):=⟨_,rfl⟩;obtain⟨O2,hO2⟩:∃O2:Nat→Prop,O2=fun k=>k=w.heap.size:=⟨_,rfl⟩;have M1:Hid (O2 w.heap.size):=by show O2 _;rw[hO2]
 have B0:Below w.heap.size w w0:=by rw[hw0];exact((aO _ _).alloc (aM _) _).alloc (by rw[AI];exact Nat.le_succ _) _
 have Zs:w0.heap.size=w.heap.size+1+1:=by rw[hw0,AI,AI]
 have Z0:Hid (w0.heap[w.heap.size]?=some (.cells (AL x) 82 (0,0))):=by
  show _=_;rw[hw0];exact(((aO (w.heap.size+1) (w.alloc (.cells (AL x) 82))).alloc (by rw[AI];exact aM _) (.cells (Ab s) 75)).block _ (aT _)).trans (Ac _ _ _ rfl)
 have Z1:w0.heap[w.heap.size+1]?=some (.cells (Ab s) 75 (0,0)):=by rw[hw0];exact Ac _ _ _ (by rw[AI])
 have A0:Hid (∀W,Below w0.heap.size w0 W→An B w W g gt gh gw R n r O2):=fun W hW=>An.begin h (B0.trans (hW.mono B0.size)) (by rw[hO2];rintro k rfl;exact⟨aM _,by have:=hW.size;omega⟩);have CU:Hid (∀W,An B w W g gt gh gw R n r O2→Calls aB 20 #[.pointer (some ⟨gh,0,none⟩)] W fun e w'=>e=.returned (.int .i64 n.hold.use)∧w'=W):=fun W hW=>hW.ask fun u hu=>Ht W gh n.hold hu.hold;have CI:Hid (∀W,An B w W g gt gh gw R n r O2→Calls aB 19 #[.pointer (some ⟨gh,0,none⟩)] W fun e w'=>e=.returned (.int .i64 n.hold.life)∧w'=W):=fun W hW=>hW.ask fun u hu=>(Fn W gh n.hold hu.hold).1
 have CS:Hid (∀W,An B w W g gt gh gw R n r O2→∀t,Calls aB 53 #[.pointer (some ⟨g,0,none⟩),.int .i64 t,.agg (Ah (Cg 6 n.hold.life n.hold.use 0 0 0 0 0 0 0 0 0 x.seq 0 (Z,Z) x.head))] W fun e w'=>e=.returned (.tuple #[])∧An B w w' g gt gh gw R (BX n t (Cg 6 n.hold.life n.hold.use 0 0 0 0 0 0 0 0 0 x.seq 0 (Z,Z) x.head)) r O2∧Ec O2 W w'):=fun W hW t=>
  hW.call fun u hu=>Ig B W g gt gh gw R n u hu (by have:=hi.post;omega) t _ (KK _ _ _ _ _ _ _ _ _ _ _ _ _ _ ⟨AX,AX⟩ hx) (YE hi.hold.life hi.hold.use hq)
 have HNS0:∀t,(BX n t (Cg 6 n.hold.life n.hold.use 0 0 0 0 0 0 0 0 0 x.seq 0 (Z,Z) x.head)).num=n.num∧(BX n t (Cg 6 n.hold.life n.hold.use 0 0 0 0 0 0 0 0 0 x.seq 0 (Z,Z) x.head)).lease=n.lease∧(BX n t (Cg 6 n.hold.life n.hold.use 0 0 0 0 0 0 0 0 0 x.seq 0 (Z,Z) x.head)).beat=n.beat∧(BX n t (Cg 6 n.hold.life n.hold.use 0 0 0 0 0 0 0 0 0 x.seq 0 (Z,Z) x.head)).log=n.log:=fun t=>by
  have hs:=L6 n t (Cg 6 n.hold.life n.hold.use 0 0 0 0 0 0 0 0 0 x.seq 0 (Z,Z) x.head);exact⟨hs.2.2.2.2.1,hs.2.2.2.2.2.1,hs.2.2.2.2.2.2.1,hs.1⟩
 have CN:Hid (∀W,∀t,An B w W g gt gh gw R (BX n t (Cg 6 n.hold.life n.hold.use 0 0 0 0 0 0 0 0 0 x.seq 0 (Z,Z) x.head)) r O2→Calls aB 38 #[.pointer (some ⟨g,0,none⟩),.agg (Mf 9 t x.index n.hold.use 0 0)] W fun e w'=>e=.returned (.tuple #[])∧An B w w' g gt gh gw R (BR (BX n t (Cg 6 n.hold.life n.hold.use 0 0 0 0 0 0 0 0 0 x.seq 0 (Z,Z) x.head)) ⟨9,0,t,x.index,n.hold.use,0,0,0,Z,(Z,Z)⟩) r O2∧Ec O2 W w'):=fun W t hW=>
  hW.call fun u hu=>EH B W g gt gh gw R _ u hu (by rw[(HNS0 t).2.2.2];have:=hi.log;omega) 9 t x.index n.hold.use 0 0
 have HE:Hid (∀t W,Iy x.sent s=t∧t≠0→An B w W g gt gh gw R (BR (BX n t (Cg 6 n.hold.life n.hold.use 0 0 0 0 0 0 0 0 0 x.seq 0 (Z,Z) x.head)) ⟨9,0,t,x.index,n.hold.use,0,0,0,Z,(Z,Z)⟩) r O2→CZ B w W g gt gh gw R (Eb n x.seq x.index x.head x.sent s) r):=fun t W ht ha=>by
  have e:Eb n x.seq x.index x.head x.sent s=BR (BX n t (Cg 6 n.hold.life n.hold.use 0 0 0 0 0 0 0 0 0 x.seq 0 (Z,Z) x.head)) ⟨9,0,t,x.index,n.hold.use,0,0,0,Z,(Z,Z)⟩:=by
   unfold Eb;rw[ht.1,if_neg ht.2];rfl
  rw[e];exact ha.to
 obtain⟨inc,hinc⟩:∃inc,inc=n.hold.life:=⟨_,rfl⟩;obtain⟨us,hus⟩:∃us,us=n.hold.use:=⟨_,rfl⟩;obtain⟨xq,hxq⟩:∃xq,xq=x.seq:=⟨_,rfl⟩;obtain⟨xi,hxi⟩:∃xi,xi=x.index:=⟨_,rfl⟩;obtain⟨xs,hxs⟩:∃xs,xs=x.sent:=⟨_,rfl⟩;obtain⟨on,hon⟩:∃on,on=s.one:=⟨_,rfl⟩;obtain⟨wo,hwo⟩:∃wo,wo=s.two:=⟨_,rfl⟩;obtain⟨sr,hsr⟩:∃sr,sr=Int.tmod xs 2:=⟨_,rfl⟩;obtain⟨nu,hnu⟩:∃nu,nu=n.num:=⟨_,rfl⟩;obtain⟨le,hle⟩:∃le,le=n.lease:=⟨_,rfl⟩;obtain⟨be,hbe⟩:∃be,be=n.beat:=⟨_,rfl⟩
 have k31:∀u:Al w0,u.world.cell? ⟨w.heap.size+1,31,none⟩=some (.int .i64 on):=fun u=>by
  have:=(G3 (Ai Z1 _ ⟨u,rfl⟩) fun j hj=>by rw[aR]).c31;rw[aR] at this;rw[hon];exact this
 have k32:∀u:Al w0,u.world.cell? ⟨w.heap.size+1,32,none⟩=some (.int .i64 wo):=fun u=>by
  have:=(G3 (Ai Z1 _ ⟨u,rfl⟩) fun j hj=>by rw[aR]).c32;rw[aR] at this;rw[hwo];exact this
 rw[←hinc] at CI CS CN HNS0 HE;rw[←hus] at CU CS CN HNS0 HE;rw[←hxq] at CS CN HNS0 HE;rw[←hxi] at CN HE;have HXS:Hid (xs=x.sent):=hxs;have HXQ:Hid (xq=x.seq):=hxq;have HXI:Hid (xi=x.index):=hxi;have HON:Hid (on=s.one∧wo=s.two):=⟨hon,hwo⟩
 have HSR:Hid (sr=x.sent%2):=by
  show sr=_;rw[hsr,hxs];exact Int.tmod_eq_emod_of_nonneg h0
 have hsr1:Int.tmod xs 2=sr:=hsr.symm;have HNU:Hid (n.num=nu∧n.lease=le∧n.beat=be):=⟨hnu.symm,hle.symm,hbe.symm⟩;have HNS:Hid (∀t,(BX n t (Cg 6 inc us 0 0 0 0 0 0 0 0 0 xq 0 (Z,Z) x.head)).num=nu∧(BX n t (Cg 6 inc us 0 0 0 0 0 0 0 0 0 xq 0 (Z,Z) x.head)).lease=le∧(BX n t (Cg 6 inc us 0 0 0 0 0 0 0 0 0 xq 0 (Z,Z) x.head)).beat=be):=fun t=>by rw[hnu,hle,hbe];exact⟨(HNS0 t).1,(HNS0 t).2.1,(HNS0 t).2.2.1⟩
 have HHL:Hid (x.head.length=13):=hx.1;have HHS:Hid ((hv x.head).size=13):=by show _=_;rw[DE];exact hx.1
 have HHC:Hid (∀j,j<13→(AL x)[2+j]?=(hv x.head)[j]?):=fun j hj=>Aaj hx.1 j hj;have ne9:=Al.ne w0;have hw0':=hw0.symm;have HB0:Hid (Below w.heap.size w w0):=B0;clear HNS0 hinc hus hxq hxi hxs hon hwo hsr hnu hle hbe hi hM hx hq h0 hw0 hO2 B0 Zs Z1 h;go_enter Tryz.func35,Tryz.ntmps35;go_wp2_with fail;refine AR (by kernel_rfl) (by kernel_rfl) ?_
 iterate 6 (go_big_quiet_step (fail))
 refine wpQuiet_nil ?_;rintro w' ⟨uL,rfl⟩;have D1:Hid (Below w0.heap.size w0 uL.world):=uL.below;have y1:uL.world.cell? ⟨w.heap.size,15,none⟩=some (.int .i64 xs):=by rw[HXS.out];exact(IF (Ai Z0.out _ ⟨uL,rfl⟩)).c3
 clear k31 k32;by_cases he:x.sent%2=0
 focus
  have t1:(sr==0)=true:=by rw[HSR.out];simpa using he
  by_cases ha:wo=0
  focus
   have t2:(wo==0)=true:=by simpa using ha
   by_cases hb:on=0
   focus
    have t3:(on==0)=true:=by simpa using hb
    have HT0:Hid (Eb n x.seq x.index x.head x.sent s=n):=by
     show _=_;unfold Eb Iy;rw[if_pos he, ←HON.out.1, ←HON.out.2,if_pos ha,if_pos hb]
    clear he ha hb;go_wp2_with fail
    first | go_ret | go_end0 | refine bodyPost_ret (results_none rfl _ _ _) rfl ?_
    exact⟨rfl,by rw[HT0.out];exact(A0.out _ D1.out).to⟩
   have t3:(on==0)=false:=by simpa using hb
   have HT:Hid (Iy x.sent s=on∧on≠0):=by
    show Iy x.sent s=_∧_;unfold Iy;rw[if_pos he, ←HON.out.1, ←HON.out.2,if_pos ha];exact⟨rfl,hb⟩
   obtain⟨t,rfl⟩:∃t,t=on:=⟨_,rfl⟩;clear he ha hb
  rotate_left
  focus
   have t2:(wo==0)=false:=by simpa using ha
   have HT:Hid (Iy x.sent s=wo∧wo≠0):=by
    show Iy x.sent s=_∧_;unfold Iy;rw[if_pos he, ←HON.out.1, ←HON.out.2,if_neg ha];exact⟨rfl,ha⟩
   obtain⟨t,rfl⟩:∃t,t=wo:=⟨_,rfl⟩;clear he ha
 rotate_left
 rotate_left
 focus
  have t1:(sr==0)=false:=by rw[HSR.out];simpa using he
  by_cases ha:on=0
  focus
   have t2:(on==0)=true:=by simpa using ha
   by_cases hb:wo=0
   focus
    have t3:(wo==0)=true:=by simpa using hb
    have HT0:Hid (Eb n x.seq x.index x.head x.sent s=n):=by
     show _=_;unfold Eb Iy;rw[if_neg he, ←HON.out.1, ←HON.out.2,if_pos ha,if_pos hb]
    clear he ha hb;go_wp2_with fail
    first | go_ret | go_end0 | refine bodyPost_ret (results_none rfl _ _ _) rfl ?_
    exact⟨rfl,by rw[HT0.out];exact(A0.out _ D1.out).to⟩
   have t3:(wo==0)=false:=by simpa using hb
   have HT:Hid (Iy x.sent s=wo∧wo≠0):=by
    show Iy x.sent s=_∧_;unfold Iy;rw[if_neg he, ←HON.out.1, ←HON.out.2,if_pos ha];exact⟨rfl,hb⟩
   obtain⟨t,rfl⟩:∃t,t=wo:=⟨_,rfl⟩;clear he ha hb
  rotate_left
  focus
   have t2:(on==0)=false:=by simpa using ha
   have HT:Hid (Iy x.sent s=on∧on≠0):=by
    show Iy x.sent s=_∧_;unfold Iy;rw[if_neg he, ←HON.out.1, ←HON.out.2,if_neg ha];exact⟨rfl,ha⟩
   obtain⟨t,rfl⟩:∃t,t=on:=⟨_,rfl⟩;clear he ha
 all_goals
  have c5:uL.world.cell? ⟨g,5,none⟩=some (.pointer (some ⟨gh,0,none⟩)):=by obtain⟨u,hu⟩:=(A0.out _ D1.out).ndV;exact hu.f.c5
  have CU1:=CU.out _ (A0.out _ D1.out);go_wp2_with (go_at_call 20;refine CU1.mono ?_;rintro e w1 ⟨rfl,hw1⟩;have hw1:=hw1.symm;subst hw1);clear CU1 y1 c5;have A1:Hid (An B w (aG uL.world) g gt gh gw R n r O2):=A0.out _ D1.out.drew;have Z1:Hid ((aG uL.world).heap[w.heap.size]?=some (.cells (AL x) 82 (0,0))):=Ai Z0.out uL.world ⟨uL,rfl⟩;have HS1:Hid (Dv g gt gh gw nu le be (fun W=>W.heap[w.heap.size]?=some (.cells (AL x) 82 (0,0))) (aG uL.world)):=A1.out.inN HNU.out.1 HNU.out.2.1 HNU.out.2.2 Z1.out;have e5:∀z:Fh g gt gh gw nu le be (fun W=>W.heap[w.heap.size]?=some (.cells (AL x) 82 (0,0))),z.world.cell? ⟨g,5,none⟩=some (.pointer (some ⟨gh,0,none⟩)):=fun z=>z.c5;have ne9:Nonempty (Fh g gt gh gw nu le be (fun W=>W.heap[w.heap.size]?=some (.cells (AL x) 82 (0,0)))):=by obtain⟨z,_⟩:=HS1.out;exact⟨z⟩
  have f0:∀z:Fh g gt gh gw nu le be (fun W=>W.heap[w.heap.size]?=some (.cells (AL x) 82 (0,0))),z.world.cell? ⟨w.heap.size,0,none⟩=some (.int .i64 xq):=fun z=>by rw[HXQ.out];exact(IF z.x).c0
  refine Em ?_;refine BJ (Dv g gt gh gw nu le be (fun W=>W.heap[w.heap.size]?=some (.cells (AL x) 82 (0,0)))) 14 rfl (by kernel_rfl) ?_;refine AV [0,1,2,7,9,10,3,8,11,4,5] 11 3 rfl (by kernel_rfl) (by decide) (by kernel_rfl) (by kernel_rfl) (by intro d v c a w h;exact absurd h.1 (by simp)) HS1.out ?_;simp only[Df,aN,aP,aH,aL,aK]
  iterate 8 (go_big_quiet_step (fail))
  refine G5 Iw rfl _ rfl w.heap.size 2 rfl (AL x) _ (0,0) (hv x.head) HHS.out (by rintro w' ⟨z,rfl⟩;exact z.x) HHC.out ?_;simp only[aI,aA,aC,aD];go_big_quiet_step (fail);go_big_quiet_step (fail);refine wpQuiet_nil ?_;refine Bb 6 (by kernel_rfl) ?_;refine Bp rfl rfl 19 #[.tmp 34] (by intro b w;have hf:=Tryz.func19;simp[go_sem]) #[.pointer (some ⟨gh,0,none⟩)] rfl (fun v w'=>v=.int .i64 inc∧w'=aG uL.world) ((CI.out (aG uL.world) A1.out).mono fun e w' h=>⟨_,h.1,rfl,h.2⟩) (some 35) rfl ?_;rintro v wq ⟨rfl,rfl⟩;refine⟨HS1.out,?_⟩;simp only[aI,aA,aC,aD];refine Bb 12 (by kernel_rfl) ?_;refine Jf rfl rfl _ _ rfl #[(0,.int .i64 6),(1,.int .i64 inc),(12,.int .i64 xq),(2,.int .i64 us),(15,.agg (hv x.head))] rfl _ (Aa8 inc xq us HHL.out _) (some 41) rfl ?_;refine⟨HS1.out,?_⟩;simp only[aI,aA,aC,aD];refine Bb 13 (by kernel_rfl) ?_
  refine Bp rfl rfl 53 #[.tmp 29,.tmp 30,.tmp 41] (by intro b w;have hf:=Tryz.func53;simp[go_sem]) #[.pointer (some ⟨g,0,none⟩),.int .i64 t,.agg (Ah (Cg 6 inc us 0 0 0 0 0 0 0 0 0 xq 0 (Z,Z) x.head))] rfl (fun v w'=>v=.tuple #[]∧An B w w' g gt gh gw R (BX n t (Cg 6 inc us 0 0 0 0 0 0 0 0 0 xq 0 (Z,Z) x.head)) r O2∧Ec O2 (aG uL.world) w') ((CS.out (aG uL.world) A1.out t).mono fun e w' h=>⟨_,h.1,rfl,h.2⟩) (some 42) rfl ?_;rintro v w2 ⟨rfl,a2,q2⟩;have A2:Hid _:=a2;have Z2:Hid (w2.heap[w.heap.size]?=some (.cells (AL x) 82 (0,0))):=(q2 _ M1.out).trans Z1.out;clear a2 q2;have I2:Hid (Dv g gt gh gw nu le be (fun W=>W.heap[w.heap.size]?=some (.cells (AL x) 82 (0,0))) w2):=A2.out.inN (HNS.out t).1 (HNS.out t).2.1 (HNS.out t).2.2 Z2.out;refine⟨I2.out,?_⟩;simp only[aI,aA,aC,aD];refine wpAnyH_done (by kernel_rfl) ?_ _;refine⟨rfl,?_⟩;have CN2:=CN.out w2 t A2.out;have y2:w2.cell? ⟨w.heap.size,1,none⟩=some (.int .i64 xi):=by rw[HXI.out];exact(IF Z2.out).c1
  unfold Mf at CN2;go_wp2_with (go_at_call 38;refine CN2.mono ?_;rintro e w3 ⟨rfl,a3⟩;have A3:Hid _:=a3;clear a3);go_end0;refine⟨rfl,?_⟩;have HEt:=HE.out t _ HT.out A3.out.1;rw[HXQ.out,HXI.out] at HEt;exact HEt
theorem Aak(B:Nat)(w:World)(g:Nat)(m:BQ)(v:Value)(h:Dq B w g m v)(hm:Iu m)(i:Int)(L:List Int)(hL:L.length=13)(now:Int)(hlast:m.last<1000000000000):
  Calls aB 34 #[.pointer (some ⟨g,0,none⟩),.int .i64 i,.agg (hv L),.int .i64 now] w fun e w'=>e=.returned (.tuple #[.int .i64 (EY m i L now).2.1,.int .i64 (EY m i L now).2.2])∧J3 B w w' g (EY m i L now).1 v:=by
 obtain⟨w0,hw0⟩:=eX (w.alloc (.cells (hv L) 23));have B0:Below w.heap.size w w0:=by rw[hw0];exact(aO _ _).alloc (aM _) _
 have Z0:w0.heap[w.heap.size]?=some (.cells (hv L) 23 (0,0)):=by rw[hw0];exact Ac _ _ _ rfl
 have h0:=h.below B0;have c4:=h0.f.c4;have c0:=h0.f.c0;have c3:=h0.f.c3;have fz3:=h0.f.fz 3;obtain⟨o,cap,hv0,hc1,hc2⟩:=h.own.slice;have hl64:=hm.len;have hroom:=hm.ok.len;obtain⟨q,hq⟩:=eX m.l.length;rw[←hq] at hv0 hc1 hl64 hroom;have mixed:aB.follows Departure.mixedOrders=true:=by kernel_rfl
 by_cases hfull:(q:Int)=m.room
 ·have e:EY m i L now=(m,0,13):=by unfold EY;rw[if_pos (by rw[←hq];exact hfull)]
  rw[e];have HS:Hid (J3 B w w0.drew g m v):=h.stay B0.drew;rw[←hfull] at c0;rw[hw0] at c0 c4 HS;clear e hfull hroom hq h0 h hm c3 fz3 Z0 B0 hw0;subst hv0;go_enter Tryz.func34,Tryz.ntmps34;go_wp2_with fail;go_region;go_wp2_with fail;go_ret2;exact⟨rfl,HS.out⟩
 ·have e:EY m i L now=(Nq m i L now,(m.last:Int)+1,0):=by unfold EY;rw[if_neg (by rw[←hq];exact hfull)]
  rw[e];clear e;obtain⟨W8,hW8⟩:=eX (w0.drew.setCell ⟨g,3,none⟩ (.int .i64 ((m.last:Int)+1)));obtain⟨m1,hm1⟩:∃m1:BQ,m1={m with last:=m.last+1}:=⟨_,rfl⟩;have hset:=(h0.below (w':=w0.drew) (aO _ _).drew).setC 3 (.int .i64 ((m.last:Int)+1)) m1 (by rw[hm1];unfold JC;dsimp only;rw[show(((m.last+1:Nat)):Int)=(m.last:Int)+1 by omega];rfl) (by rw[hm1]);rw[←hW8] at hset;obtain⟨hV8,hF8⟩:=hset;have hF8:FQ (FB g v) (FB g v) w W8:=(FQ.of_below (w':=w0.drew) B0.drew).trans hF8;obtain⟨c,hc⟩:∃c:Cq,c=⟨(m.last:Int)+1,i,L,1,GI now+m.time⟩:=⟨_,rfl⟩;have hpl:(Nq m i L now).l=m.l++[c]:=by rw[hc];rfl
  have hZ8:W8.heap[w.heap.size]?=some (.cells (hv L) 23 (0,0)):=by
   rw[hW8,heap_setCell_other w0.drew ⟨g,3,none⟩ w.heap.size _ (by have:=(h.foot_in g (.inl rfl)).2;show _≠g;omega)];exact Z0
  have ml:m1.l=m.l:=by rw[hm1]
  have HBK:Hid (W8.heap[g]?=some (.cells (JC m1 v) 105 (0,0))):=hV8.blk;have HZ8:Hid _:=hZ8;have HO:Hid (B8 B W8 v m.l):=by have:=hV8.own;rw[ml] at this;exact this
  have HB8:Hid (B≤W8.heap.size):=hV8.hw;have HN:Hid (m.l.length≤100000):=by show _≤_;omega
  have HM:Hid ((JC m1 v)[2]?=some (.int .i64 m.time)∧(JC m1 v)[3]?=some (.int .i64 ((m.last:Int)+1))∧(JC m1 v)[4]?=some v):=by
   rw[hm1];refine⟨rfl,?_,rfl⟩;unfold JC;dsimp only;rw[show(((m.last+1:Nat)):Int)=(m.last:Int)+1 by omega];rfl
  have HX:Hid (∀W' u,Ao (Bn v) W8 W'→B8 B W' u (m.l++[c])→(u.ownBlock=v.ownBlock∨∀k,u.ownBlock=some k→W8.heap.size≤k)→(W'.setCell ⟨g,4,none⟩ u).cell? ⟨g,3,none⟩=some (.int .i64 ((m.last:Int)+1))∧J3 B w (W'.setCell ⟨g,4,none⟩ u) g (Nq m i L now) v):=fun W' u hk hu hq=>by
   have hp:=hV8.put (m':=Nq m i L now) hk (by rw[hpl];exact hu) hq (by rw[hm1];rfl);have c3:=hp.1.f.c3;rw[show((Nq m i L now).last:Int)=(m.last:Int)+1 by unfold Nq;dsimp only;omega] at c3;exact⟨c3,u,hp.1,hF8.trans hp.2⟩
  obtain⟨cl,hcl⟩:=eX (GI now);have HC:Hid (∀W,Calls aB 52 #[.int .i64 now] W fun e w'=>e=.returned (.int .i64 cl)∧w'=W):=fun W=>by rw[hcl];exact TJ now W
  have hcb:=Aa2 now;have hti:=hm.ti;have hti1:=hm.ok.time1;rw[←hcl] at hc hcb;obtain⟨hcb1,hcb2⟩:=hcb;have hd0:((q:Int)==m.room)=false:=by simpa using hfull
  have hwr:IntKind.i64.wrap ((m.last:Int)+1)=(m.last:Int)+1:=by rw[IntKind.wrap_i64];omega
  obtain⟨la,hla⟩:∃la:Int,la=(m.last:Int):=⟨_,rfl⟩;obtain⟨r,hr⟩:=eX m.room;obtain⟨ti,hti0⟩:=eX m.time;rw[←hla] at c3 hW8 hwr HM HX hc ⊢;rw[←hti0] at HM hc hti hti1;rw[←hr] at c0 hd0;have hwt:IntKind.i64.wrap (cl+ti)=cl+ti:=by rw[IntKind.wrap_i64];omega
  rw[hw0] at c4 c0 c3 fz3 hW8;have HL:Hid _:=hL;have HCE:Hid _:=hc;clear hc hla hti0 hr hcl hcb1 hcb2 hti hti1 hfull hF8 hV8 hZ8 hpl hm1 ml hlast hq hroom hc1 hm h h0 Z0 B0 hw0 hL;subst hv0;go_enter Tryz.func34,Tryz.ntmps34;go_wp2_with fail;go_region;go_wp2_with fail;rw[show((w.alloc (.cells (hv L) 23)).setCell ⟨g,3,none⟩ (.int .i64 (la+1))).drew=W8 from hW8.symm];clear hW8 c4 c0 c3 fz3 hd0 hwr;refine UA (by exact Nat.le_of_eq rfl) g w.heap.size B L HL.out (la+1) i ti now cl c HCE.out (.slice o q cap) m.l (JC m1 (.slice o q cap)) rfl rfl rfl rfl HBK.out HM.out.1 HM.out.2.1 HM.out.2.2 HZ8.out HC.out hwt HO.out HB8.out HN.out ?_;intro y w' u hk hr hf;obtain⟨f1,f2⟩:=HX.out w' u hk hr hf;have F2:Hid _:=f2;clear hk hr hf f2;simp only[Hb,N7,List.foldl_cons,List.foldl_nil,aI,aA,aC,aD];go_wp2_with fail;go_ret2;exact⟨rfl,F2.out⟩
end
end Go.Proofs.YtbhkoipcpcoooabGreat
