import Derived.Test.YtbhkoipcpcoooabGreatJ18
import Derived.Test.YtbhkoipcpcoooabGreatJ4
import Derived.Test.YtbhkoipcpcoooabGreatJ3
import Derived.Test.YtbhkoipcpcoooabGreatJ13
import Derived.Test.YtbhkoipcpcoooabGreatJ9
import Derived.Maps.AppendAt
import Derived.OwnWalk
namespace Go.Proofs.YtbhkoipcpcoooabGreat
set_option maxRecDepth 20000
set_option maxHeartbeats 64000000
open Go
open Go.Region renaming ready → aA, sinkB → aT, waitsFor_spec → aZ, binds → bA, Mode → bB, noSelect → bF
open Go.Proofs.Tryz renaming prog → aB
open _root_.List renaming setIfInBounds_toArray → aC, not_mem_nil → aD, mem_range → aG, mem_cons → aH, drop_succ_cons → aI, set_cons_succ → aJ, set_cons_zero → aK, take_succ_cons → aN, drop_zero → aO, all_eq_true → aV, length_cons → aX, take_zero → aY, any_eq_true → bC, getElem_mem → bD
open _root_.Array renaming setIfInBounds_comm → aL, replicate → bG
open Go.World renaming drew → aM
open _root_.Nat renaming le_succ → aP, le_refl → aQ
open _root_.Bool renaming and_eq_true → aW
section
open Go.RowKit
structure Ew(g p2 p3 p5:Nat)(m:Aj)(v:Int)(W:World):Prop where
 b2:W.heap[p2]?=some (.cells #[.pointer (some ⟨g,0,none⟩)] 31 (0,0))
 b3:W.heap[p3]?=some (.cells (Ah m) 27 (0,0))
 b5:W.heap[p5]?=some (.cells #[.int .i64 v] 3 (0,0))
theorem Ew.keep{g p2 p3 p5:Nat}{m:Aj}{v:Int}{W W':World}{O:Nat→Prop}(h:Ew g p2 p3 p5 m v W)(h2:O p2)(h3:O p3)(h5:O p5)(hk:Ec O W W'):Ew g p2 p3 p5 m v W':=
 ⟨(hk _ h2).trans h.b2,(hk _ h3).trans h.b3,(hk _ h5).trans h.b5⟩
theorem Ew.below{g p2 p3 p5:Nat}{m:Aj}{v:Int}{W W':World}(h:Ew g p2 p3 p5 m v W)(hb:Below W.heap.size W W'):Ew g p2 p3 p5 m v W':=
 ⟨(hb.block _ (gS h.b2)).trans h.b2,(hb.block _ (gS h.b3)).trans h.b3,(hb.block _ (gS h.b5)).trans h.b5⟩
theorem Tx(B:Nat)(w W:World)(g gt gh gw:Nat)(R:Rm)(n:Ap Ay)(r:DU)(O:Nat→Prop)(A:An B w W g gt gh gw R n r O)(p2 p3 p5:Nat)(h2:O p2)(h3:O p3)(h5:O p5)(h25:p2≠p5)(h35:p3≠p5)(m:Aj)(hm:Bj m)(hof:BG (Ad m 4))(v:Int)(hb:Ew g p2 p3 p5 m v W):
  Calls aB 81 #[.pointer (some ⟨p2,0,none⟩),.pointer (some ⟨p3,0,none⟩),.pointer (some ⟨p5,0,none⟩)] W fun e w2=>e=.returned (.tuple #[])∧An B w w2 g gt gh gw R (Bg n (Dg n.hold (Ad m 2) (Ad m 1) (Ad m 3) (Ad m 4)).1) r O∧Ew g p2 p3 p5 m (Dg n.hold (Ad m 2) (Ad m 1) (Ad m 3) (Ad m 4)).2 w2:=by
 have k0:∀u:Al W,u.world.cell? ⟨p2,0,none⟩=some (.pointer (some ⟨g,0,none⟩)):=fun u=>by rw[cell_of_row u.world p2 0 _ _ _ (hb.below u.below).b2];rfl
 have k5:∀u:Al W,u.world.cell? ⟨g,5,none⟩=some (.pointer (some ⟨gh,0,none⟩)):=fun u=>by obtain⟨x,hx⟩:=(A.below u.below).ndV;exact hx.f.c5
 have e3:∀u:Al W,u.world.cell? ⟨p3,3,none⟩=some (.int .i64 (Ad m 2)):=fun u=>(Ci hm (hb.below u.below).b3).n 2 (by decide);have e2:∀u:Al W,u.world.cell? ⟨p3,2,none⟩=some (.int .i64 (Ad m 1)):=fun u=>(Ci hm (hb.below u.below).b3).n 1 (by decide);have e4:∀u:Al W,u.world.cell? ⟨p3,4,none⟩=some (.int .i64 (Ad m 3)):=fun u=>(Ci hm (hb.below u.below).b3).n 3 (by decide);have e5:∀u:Al W,u.world.cell? ⟨p3,5,none⟩=some (.int .i64 (Ad m 4)):=fun u=>(Ci hm (hb.below u.below).b3).n 4 (by decide)
 have CI:Hid (∀W',Below W.heap.size W W'→Calls aB 82 #[.pointer (some ⟨gh,0,none⟩),.int .i64 (Ad m 2),.int .i64 (Ad m 1),.int .i64 (Ad m 3),.int .i64 (Ad m 4)] W' fun e w2=>e=.returned (.int .i64 (Dg n.hold (Ad m 2) (Ad m 1) (Ad m 3) (Ad m 4)).2)∧An B w w2 g gt gh gw R (Bg n (Dg n.hold (Ad m 2) (Ad m 1) (Ad m 3) (Ad m 4)).1) r O∧Ew g p2 p3 p5 m v w2):=fun W' hW'=>by
  refine((A.below hW').call (n'':=Bg n (Dg n.hold (Ad m 2) (Ad m 1) (Ad m 3) (Ad m 4)).1) (P:=fun e _=>e=.returned (.int .i64 (Dg n.hold (Ad m 2) (Ad m 1) (Ad m 3) (Ad m 4)).2)) fun u hu=> ?_).mono fun e w' q=>⟨q.1,q.2.1,(hb.below hW').keep h2 h3 h5 q.2.2⟩;exact(Zt W' gh n.hold hu.hold _ _ _ _ (by have:=hof.2;omega)).mono fun e w' q=>⟨q.1,hu.setHold q.2⟩
 obtain⟨k,hk⟩:=eX ((Dg n.hold (Ad m 2) (Ad m 1) (Ad m 3) (Ad m 4)).1);obtain⟨x,hx⟩:=eX ((Dg n.hold (Ad m 2) (Ad m 1) (Ad m 3) (Ad m 4)).2);rw[←hk, ←hx] at CI ⊢;obtain⟨m1,g1⟩:∃q,q=Ad m 1:=⟨_,rfl⟩;obtain⟨m2,g2⟩:∃q,q=Ad m 2:=⟨_,rfl⟩;obtain⟨m3,g3⟩:∃q,q=Ad m 3:=⟨_,rfl⟩;obtain⟨m4,g4⟩:∃q,q=Ad m 4:=⟨_,rfl⟩;rw[←g1] at e2 CI;rw[←g2] at e3 CI;rw[←g3] at e4 CI;rw[←g4] at e5 CI;have ne9:=Al.ne W;clear hk hx g1 g2 g3 g4 hm hof hb A h2 h3;go_enter Tryz.func81,Tryz.ntmps81;refine Ca 12 (by kernel_rfl) (by kernel_rfl) ?_;simp only[aN,aY,aI,aO]
 iterate 12 (go_big_quiet_step (fail))
 refine wpQuiet_nil ?_;rintro w' ⟨uL,rfl⟩;obtain⟨wu,hwu⟩:=eX uL.world;have CI1:=CI.out _ uL.below;rw[←hwu] at CI1 ⊢;clear k0 k5 e2 e3 e4 e5 ne9 hwu uL CI;go_wp2_with (go_at_call 82;refine CI1.mono ?_;rintro e w2 ⟨rfl,a2,bx⟩;have A2:Hid _:=a2;have B2:Hid _:=bx;clear a2 bx CI1;refine Aw ?_);unfold AZ;have hb5:=B2.out.b5;have fc:w2.cell? ⟨p5,0,none⟩=some (.int .i64 v):=by rw[cell_of_row w2 p5 0 _ _ _ hb5];rfl
 have fz:w2.frozen? ⟨p5,0,none⟩=false:=by simp[World.frozen?,hb5]
 have AF:Hid (An B w (w2.setCell ⟨p5,0,none⟩ (.int .i64 x)) g gt gh gw R (Bg n k) r O):=A2.out.cell h5 0 _
 have BF:Hid (Ew g p2 p3 p5 m x (w2.setCell ⟨p5,0,none⟩ (.int .i64 x))):=
  ⟨(heap_setCell_other w2 ⟨p5,0,none⟩ p2 _ h25).trans B2.out.b2,(heap_setCell_other w2 ⟨p5,0,none⟩ p3 _ h35).trans B2.out.b3,heap_setCell_same w2 p5 0 _ _ _ hb5⟩
 clear hb5 A2 B2;go_wp2_with fail;go_end0;exact⟨rfl,AF.out,BF.out⟩
structure MA(g p2 p3:Nat)(m:Aj)(W:World):Prop where
 b2:W.heap[p2]?=some (.cells #[.pointer (some ⟨g,0,none⟩)] 31 (0,0))
 b3:W.heap[p3]?=some (.cells (Ah m) 27 (0,0))
theorem MA.keep{g p2 p3:Nat}{m:Aj}{W W':World}{O:Nat→Prop}(h:MA g p2 p3 m W)(h2:O p2)(h3:O p3)(hk:Ec O W W'):MA g p2 p3 m W':=
 ⟨(hk _ h2).trans h.b2,(hk _ h3).trans h.b3⟩
theorem MA.below{g p2 p3:Nat}{m:Aj}{W W':World}(h:MA g p2 p3 m W)(hb:Below W.heap.size W W'):MA g p2 p3 m W':=
 ⟨(hb.block _ (gS h.b2)).trans h.b2,(hb.block _ (gS h.b3)).trans h.b3⟩
theorem Tv(B:Nat)(w W:World)(g gt gh gw:Nat)(R:Rm)(n:Ap Ay)(r:DU)(O:Nat→Prop)(A:An B w W g gt gh gw R n r O)(hk0:DA n.hold)(p2 p3:Nat)(h2:O p2)(h3:O p3)(m:Aj)(hm:Bj m)(hb:MA g p2 p3 m W):
  Calls aB 85 #[.pointer (some ⟨p2,0,none⟩),.pointer (some ⟨p3,0,none⟩)] W fun e w2=>e=.returned (.tuple #[])∧An B w w2 g gt gh gw R (Bg n (Eo n.hold (Ad m 9) (Ad m 10) (Ad m 2)).1) r O∧MA g p2 p3 m w2:=by
 have k0:∀u:Al W,u.world.cell? ⟨p2,0,none⟩=some (.pointer (some ⟨g,0,none⟩)):=fun u=>by rw[cell_of_row u.world p2 0 _ _ _ (hb.below u.below).b2];rfl
 have k5:∀u:Al W,u.world.cell? ⟨g,5,none⟩=some (.pointer (some ⟨gh,0,none⟩)):=fun u=>by obtain⟨x,hx⟩:=(A.below u.below).ndV;exact hx.f.c5
 have e3:∀u:Al W,u.world.cell? ⟨p3,3,none⟩=some (.int .i64 (Ad m 2)):=fun u=>(Ci hm (hb.below u.below).b3).n 2 (by decide);have e2:∀u:Al W,u.world.cell? ⟨p3,10,none⟩=some (.int .i64 (Ad m 9)):=fun u=>(Ci hm (hb.below u.below).b3).n 9 (by decide);have e4:∀u:Al W,u.world.cell? ⟨p3,11,none⟩=some (.int .i64 (Ad m 10)):=fun u=>(Ci hm (hb.below u.below).b3).n 10 (by decide)
 have CI:Hid (∀W',Below W.heap.size W W'→Calls aB 86 #[.pointer (some ⟨gh,0,none⟩),.int .i64 (Ad m 9),.int .i64 (Ad m 10),.int .i64 (Ad m 2)] W' fun e w2=>(∃b,e=.returned (.bool b))∧An B w w2 g gt gh gw R (Bg n (Eo n.hold (Ad m 9) (Ad m 10) (Ad m 2)).1) r O∧MA g p2 p3 m w2):=fun W' hW'=>by
  refine((A.below hW').call (n'':=Bg n (Eo n.hold (Ad m 9) (Ad m 10) (Ad m 2)).1) (P:=fun e _=> ∃b,e=.returned (.bool b)) fun u hu=> ?_).mono fun e w' q=>⟨q.1,q.2.1,(hb.below hW').keep h2 h3 q.2.2⟩;exact(Zm W' gh n.hold hu.hold hk0 _ _ _).mono fun e w' q=>⟨⟨_,q.1⟩,hu.setHold q.2⟩
 obtain⟨k,hk⟩:=eX ((Eo n.hold (Ad m 9) (Ad m 10) (Ad m 2)).1);rw[←hk] at CI ⊢;obtain⟨m1,g1⟩:∃q,q=Ad m 9:=⟨_,rfl⟩;obtain⟨m2,g2⟩:∃q,q=Ad m 2:=⟨_,rfl⟩;obtain⟨m3,g3⟩:∃q,q=Ad m 10:=⟨_,rfl⟩;rw[←g1] at e2 CI;rw[←g2] at e3 CI;rw[←g3] at e4 CI;have ne9:=Al.ne W;clear hk g1 g2 g3 hm hb A h2 h3 hk0;go_enter Tryz.func85,Tryz.ntmps85;refine Ca 10 (by kernel_rfl) (by kernel_rfl) ?_;simp only[aN,aY,aI,aO]
 iterate 10 (go_big_quiet_step (fail))
 refine wpQuiet_nil ?_;rintro w' ⟨uL,rfl⟩;obtain⟨wu,hwu⟩:=eX uL.world;have CI1:=CI.out _ uL.below;rw[←hwu] at CI1 ⊢;clear k0 k5 e2 e3 e4 ne9 hwu uL CI;go_wp2_with (go_at_call 86;refine CI1.mono ?_;rintro e w2 ⟨⟨b,rfl⟩,a2,bx⟩;have A2:Hid _:=a2;have B2:Hid _:=bx;clear a2 bx CI1);go_end0;exact⟨rfl,A2.out,B2.out⟩
theorem MR{R:Rm}{N:Nat}{n:Ap Ay}(h:AQ N R n)(k:AP)(hk:E4 k):AQ (N+2) R (Fj (Ar R) (Bg n k) n.hold):=by
 have h1:=Ad5 h hk
 have h2:AQ (N+1) R (if (Bg n k).hold.floor≠n.hold.floor∨(Bg n k).hold.top≠n.hold.top then Bm (Bg n k) ((Ar R).keep (Bg n k).tab (Bg n k).hold.floor (Bg n k).hold.top) else Bg n k):=by
  split
  ·exact Ad3 h1 _ _
  ·exact h1.le (aP N)
 obtain⟨X,hX⟩:=eX ((if (Bg n k).hold.floor≠n.hold.floor∨(Bg n k).hold.top≠n.hold.top then Bm (Bg n k) ((Ar R).keep (Bg n k).tab (Bg n k).hold.floor (Bg n k).hold.top) else Bg n k));rw[←hX] at h2;rw[show Fj (Ar R) (Bg n k) n.hold=if (Bg n k).hold.use≠n.hold.use then BR X {IJ with kind:=16,epoch:=(Bg n k).hold.use} else X by rw[hX];rfl];split
 ·exact EI h2 _
 ·exact h2.le (aP _)
theorem Vf(B:Nat)(w:World)(g gt gh gw:Nat)(R:Rm)(n:Ap Ay)(r:DU)(h:BT B w g gt gh gw R n r){M:Nat}(hi:AQ M R n)(hM:M≤900000)(m:Aj)(hm:Bj m)(hn:∀j,BG (Ad m j)):
  Calls aB 58 #[.pointer (some ⟨g,0,none⟩),.agg (Ah m)] w fun e w'=>e=.returned (.bool true)∧CZ B w w' g gt gh gw R (Lm (Ar R) n m) r:=by
 obtain⟨w0,hw0⟩:=eX ((w.alloc (.cells #[.pointer (some ⟨g,0,none⟩)] 31)).alloc (.cells (Ah m) 27));have B0:Below w.heap.size w w0:=by rw[hw0];exact((Below.refl _ _).alloc (aQ _) _).alloc (by rw[AI];exact aP _) _
 have Zs:w0.heap.size=w.heap.size+2:=by rw[hw0,AI,AI]
 have BX0:MA g w.heap.size (w.heap.size+1) m w0:=by
  refine⟨?_,?_⟩
  ·rw[hw0];exact Af _ _ _ _ (Ac _ _ _ rfl)
  ·rw[hw0];exact Ac _ _ _ (by rw[AI])
 obtain⟨O,hO⟩:∃O:Nat→Prop,O=fun k=>k=w.heap.size∨k=w.heap.size+1:=⟨_,rfl⟩;have M2:O w.heap.size:=by rw[hO];exact .inl rfl
 have M3:O (w.heap.size+1):=by rw[hO];exact .inr rfl
 have A0:An B w w0 g gt gh gw R n r O:=An.begin h B0 (by rw[hO];rintro k (rfl | rfl) <;> exact⟨by omega,by omega⟩);have c2:w0.cell? ⟨w.heap.size,0,none⟩=some (.pointer (some ⟨g,0,none⟩)):=by rw[cell_of_row w0 _ 0 _ _ _ BX0.b2];rfl
 obtain⟨k,hk⟩:=eX ((Eo n.hold (Ad m 9) (Ad m 10) (Ad m 2)).1);have hkn:E4 k:=by rw[hk];exact(OR hi.hold _ _ _ (hn 9).2 (hn 2).2).1
 have CT:=LV B w w0 g gt gh gw R n r O A0 hi hM k 85 #[.pointer (some ⟨w.heap.size,0,none⟩),.pointer (some ⟨w.heap.size+1,0,none⟩)] (fun vs W=>by have hf:=Tryz.func85;simp[go_sem]) (MA g w.heap.size (w.heap.size+1) m) (fun W' hW'=>by rw[hk];exact Tv B w W' g gt gh gw R n r O (A0.below hW') hi.hold.ok _ _ M2 M3 m hm (BX0.below hW')) (fun W1 W2 h1 h2=>h1.keep M2 M3 h2) (fun W1 W2 h1 h2=>h1.below h2);have hit:=MR hi k hkn;have hdl:Lm (Ar R) n m=if k.use≠n.hold.use then Kn (Fj (Ar R) (Bg n k) n.hold) else Fj (Ar R) (Bg n k) n.hold:=by rw[hk];rfl
 obtain⟨n1,hn1⟩:=eX (Fj (Ar R) (Bg n k) n.hold);rw[←hn1] at CT hit hdl;have HDL:Hid _:=hdl;have HIT:Hid (AQ (M+2) R n1∧M≤900000):=⟨hit,hM⟩;have hw0':=hw0.symm;clear hn1 hdl hk hkn hit hi hM hm hn hO M2 M3 A0 BX0 B0 Zs hw0 h;by_cases hu:k.use≠n.hold.use
 ·rw[HDL.out,if_pos hu];rw[decide_eq_true hu] at CT;clear hu HDL;go_enter Tryz.func58,Tryz.ntmps58;go_wp2_with (go_at_call 80;refine CT.mono ?_;rintro e w1 ⟨rfl,a1,bx⟩;have A1:Hid _:=a1;have B1:Hid _:=bx;clear a1 bx CT;refine Aw ?_);unfold AZ;have d2:w1.cell? ⟨w.heap.size,0,none⟩=some (.pointer (some ⟨g,0,none⟩)):=by rw[cell_of_row w1 _ 0 _ _ _ B1.out.b2];rfl
  have CB:=A1.out.call fun u hu=>VN B w1 g gt gh gw R n1 u hu HIT.out.1 (by have:=HIT.out.2;omega);go_wp2_with (go_at_call 44;refine CB.mono ?_;rintro e w2 ⟨rfl,a2⟩;have A2:Hid _:=a2;clear a2 CB);go_ret;exact⟨rfl,A2.out.1.to⟩
 ·rw[HDL.out,if_neg hu];rw[decide_eq_false hu] at CT;clear hu HDL;go_enter Tryz.func58,Tryz.ntmps58;go_wp2_with (go_at_call 80;refine CT.mono ?_;rintro e w1 ⟨rfl,a1,bx⟩;have A1:Hid _:=a1;clear a1 bx CT);go_ret;exact⟨rfl,A1.out.to⟩
theorem Ug{R:Rm}{N:Nat}{n:Ap Ay}(h:AQ N R n){m:Aj}(hm:Bj m)(ha:BG (Ad m 6)):AQ (N+2) R (Ml (Ar R) n m):=by
 have h1:AQ (N+1) R (Bm n ((Ar R).lay n.tab (Ha m)).1):=by
  refine Aet h ?_ ?_
  ·unfold Ha;split <;> exact⟨hm.2.1,hm.2.2.1⟩
  ·unfold Ha;split
   ·exact ha
   ·exact Ce
 show AQ _ _ (if ((Ar R).lay n.tab (Ha m)).2=0 then Bm n ((Ar R).lay n.tab (Ha m)).1 else BR (Bm n ((Ar R).lay n.tab (Ha m)).1) _);split
 ·exact h1.le (aP _)
 ·exact EI h1 _
theorem Na(B:Nat)(w:World)(g gt gh gw:Nat)(R:Rm)(n:Ap Ay)(r:DU)(h:BT B w g gt gh gw R n r){M:Nat}(hi:AQ M R n)(hM:M≤900000)(m:Aj)(hm:Bj m)(hr:Bo m=true)(hk12:m.kind=1∨m.kind=2)(hn:∀j,BG (Ad m j)):
  Calls aB 57 #[.pointer (some ⟨g,0,none⟩),.agg (Ah m)] w fun e w'=>e=.returned (.bool (EX (Ar R) n m).2)∧CZ B w w' g gt gh gw R (EX (Ar R) n m).1 r:=by
 obtain⟨w0,hw0⟩:∃w0,w0=((w.alloc (.cells #[.pointer (some ⟨g,0,none⟩)] 31)).alloc (.cells (Ah m) 27)).alloc (.cells #[.int .i64 0] 3):=⟨_,rfl⟩;have B0:Below w.heap.size w w0:=by rw[hw0];exact(((Below.refl _ _).alloc (aQ _) _).alloc (by rw[AI];exact aP _) _).alloc (by rw[AI,AI];omega) _
 have Zs:w0.heap.size=w.heap.size+3:=by rw[hw0,AI,AI,AI]
 obtain⟨p2,hp2⟩:∃p2,p2=w.heap.size:=⟨_,rfl⟩;obtain⟨p3,hp3⟩:∃p3,p3=w.heap.size+1:=⟨_,rfl⟩;obtain⟨p5,hp5⟩:∃p5,p5=w.heap.size+2:=⟨_,rfl⟩
 have BX0:Ew g p2 p3 p5 m 0 w0:=by
  refine⟨?_,?_,?_⟩
  ·rw[hw0,hp2];exact Af _ _ _ _ (Af _ _ _ _ (Ac _ _ _ rfl))
  ·rw[hw0,hp3];exact Af _ _ _ _ (Ac _ _ _ (by rw[AI]))
  ·rw[hw0,hp5];exact Ac _ _ _ (by rw[AI,AI])
 obtain⟨O,hO⟩:∃O:Nat→Prop,O=fun k=>k=p2∨k=p3∨k=p5:=⟨_,rfl⟩;have HO:Hid (O p2∧O p3∧O p5):=by show _∧_;rw[hO];exact⟨.inl rfl,.inr (.inl rfl),.inr (.inr rfl)⟩
 have A0:An B w w0 g gt gh gw R n r O:=An.begin h B0 (by rw[hO];rintro k (rfl | rfl | rfl) <;> exact⟨by omega,by omega⟩);obtain⟨k,hk⟩:∃k,k=(Dg n.hold (Ad m 2) (Ad m 1) (Ad m 3) (Ad m 4)).1:=⟨_,rfl⟩;obtain⟨vi,hv⟩:∃vi,vi=(Dg n.hold (Ad m 2) (Ad m 1) (Ad m 3) (Ad m 4)).2:=⟨_,rfl⟩;have hkn:E4 k:=by rw[hk];exact(OS hi.hold _ _ _ _ (hn 2).2 (hn 1).2 (hn 4).2).1
 have c2:w0.cell? ⟨p2,0,none⟩=some (.pointer (some ⟨g,0,none⟩)):=by rw[cell_of_row w0 _ 0 _ _ _ BX0.b2];rfl
 have CT:=LV B w w0 g gt gh gw R n r O A0 hi hM k 81 #[.pointer (some ⟨p2,0,none⟩),.pointer (some ⟨p3,0,none⟩),.pointer (some ⟨p5,0,none⟩)] (fun vs W=>by have hf:=Tryz.func81;simp[go_sem]) (Ew g p2 p3 p5 m vi) (fun W' hW'=>by rw[hk,hv];exact Tx B w W' g gt gh gw R n r O (A0.below hW') p2 p3 p5 HO.out.1 HO.out.2.1 HO.out.2.2 (by omega) (by omega) m hm (hn 4) 0 (BX0.below hW')) (fun W1 W2 h1 h2=>h1.keep HO.out.1 HO.out.2.1 HO.out.2.2 h2) (fun W1 W2 h1 h2=>h1.below h2);have hit:=MR hi k hkn;have hd0:EX (Ar R) n m=if vi=0 then (Fj (Ar R) (Bg n k) n.hold,false) else (KC (if vi=1 then Ml (Ar R) (Fj (Ar R) (Bg n k) n.hold) m else Fj (Ar R) (Bg n k) n.hold) m,true):=by rw[hk,hv];rfl
 obtain⟨n1,hn1⟩:∃n1,n1=Fj (Ar R) (Bg n k) n.hold:=⟨_,rfl⟩;rw[←hn1] at CT hit hd0;have HM:Hid (M≤900000):=hM;have HI1:Hid (AQ (M+2) R n1):=hit;have HOK:Hid (Bj m):=hm;have HMN:Hid (∀j,BG (Ad m j)):=hn;have HSL:Hid (JO m=Ha m):=Zq hr hk12;obtain⟨bu,hbu⟩:∃b,b=decide (k.use≠n.hold.use):=⟨_,rfl⟩;rw[←hbu] at CT;rw[hp3,hp5,hp2] at CT;rw[hp2] at c2;have HP:Hid (p2=w.heap.size∧p3=w.heap.size+1∧p5=w.heap.size+2):=⟨hp2,hp3,hp5⟩;have hw0':=hw0.symm;clear hn1 hbu hk hv hkn hit hi hM hm hn hO A0 BX0 B0 Zs hw0 h hr hk12 hp2 hp3 hp5;have HD0:Hid _:=hd0;clear hd0;go_enter Tryz.func57,Tryz.ntmps57;go_wp2_with (go_at_call 80;refine CT.mono ?_;rintro e w1 ⟨rfl,a1,bx⟩;have A1:Hid (An B w w1 g gt gh gw R n1 r O):=a1;have B1:Hid (Ew g w.heap.size (w.heap.size+1) (w.heap.size+2) m vi w1):=bx;clear a1 bx CT;refine Aw ?_);unfold AZ;rw[←HP.out.2.2, ←HP.out.2.1, ←HP.out.1] at B1 ⊢;clear c2 hw0';have f5:w1.cell? ⟨p5,0,none⟩=some (.int .i64 vi):=by rw[cell_of_row w1 _ 0 _ _ _ B1.out.b5];rfl
 by_cases hv0:vi=0
 ·have hvb:(vi==0)=true:=by simpa using hv0
  have HV0:Hid (vi=0):=hv0;clear hv0;go_wp2_with fail;go_ret;exact⟨by rw[HD0.out,if_pos HV0.out];rfl,by rw[HD0.out,if_pos HV0.out];exact A1.out.to⟩
 ·have hvb:(vi==0)=false:=by simpa using hv0
  have HV0:Hid (vi≠0):=hv0;clear hv0;by_cases hv1:vi=1
  focus
   have hv1b:(vi==1)=true:=by simpa using hv1
   have HV1:Hid (vi=1):=hv1;clear hv1;go_wp2_with fail;have f5:∀u:Al w1,u.world.cell? ⟨p5,0,none⟩=some (.int .i64 vi):=fun u=>by rw[cell_of_row u.world _ 0 _ _ _ (B1.out.below u.below).b5];rfl
   have f2:∀u:Al w1,u.world.cell? ⟨p2,0,none⟩=some (.pointer (some ⟨g,0,none⟩)):=fun u=>by rw[cell_of_row u.world _ 0 _ _ _ (B1.out.below u.below).b2];rfl
   have f4:∀u:Al w1,u.world.cell? ⟨g,4,none⟩=some (.pointer (some ⟨gt,0,none⟩)):=fun u=>by obtain⟨x,hx⟩:=(A1.out.below u.below).ndV;exact hx.f.c4
   have CS:∀u:Al w1,Calls aB 84 #[.agg (Ah m)] u.world fun e w'=>e=.returned (.agg (Ab (JO m)))∧Below u.world.heap.size u.world w':=fun u=>Vh u.world m HOK.out;have HMS:Hid ((Ah m).size=53):=Ch HOK.out;have ne9:=Al.ne w1;refine Ca 9 (by kernel_rfl) (by kernel_rfl) ?_;simp only[aN,aY,aI,aO]
   iterate 7 (go_big_quiet_step (fail))
   refine G5 DJ rfl _ rfl p3 0 rfl _ _ _ (Ah m) HMS.out (fun w' h=>by obtain⟨z,rfl⟩:=h;exact(B1.out.below z.below).b3) (AA _ _) ?_;simp only[Act.put,aC,aJ,aK];go_big_quiet_want;go_big_quiet_op;refine⟨_,fun u=>Calls.later_of (CS u),?_⟩;go_big_quiet_on;refine wpQuiet_nil ?_;rintro w' ⟨uL,rfl⟩;obtain⟨t,ht⟩:∃t,t=((Ar R).lay n1.tab (Ha m)).1:=⟨_,rfl⟩;obtain⟨er,her⟩:∃er,er=((Ar R).lay n1.tab (Ha m)).2:=⟨_,rfl⟩;have HLD:Hid (Ml (Ar R) n1 m=if er=0 then Bm n1 t else BR (Bm n1 t) ⟨20,0,0,0,Ad m 1,0,0,0,Z,(Z,Z)⟩):=by show _=_;rw[her,ht];rfl
   have HIL:Hid (AQ (M+6) R (Ml (Ar R) n1 m)):=(Ug HI1.out HOK.out (HMN.out 6)).le (by omega);have HIT:Hid (n1.log.length≤1000000):=by show _≤_;have:=HI1.out.log;have:=HM.out;omega
   obtain⟨w2,hw2⟩:∃w2,w2=uL.world:=⟨_,rfl⟩;have A2:Hid (An B w w2 g gt gh gw R n1 r O):=by show An _ _ _ _ _ _ _ _ _ _ _;rw[hw2];exact A1.out.below uL.below
   have B2:Hid (Ew g p2 p3 p5 m vi w2):=by show Ew _ _ _ _ _ _ _;rw[hw2];exact B1.out.below uL.below
   have CL:Calls aB 83 #[.pointer (some ⟨gt,0,none⟩),.agg (Ab (JO m))] w2 fun e w'=>e=.returned (.int .i64 er)∧An B w w' g gt gh gw R (Bm n1 t) r O∧Ew g p2 p3 p5 m vi w':=by
    refine(A2.out.call (n'':=Bm n1 t) (P:=fun e _=>e=.returned (.int .i64 er)) fun u hu=> ?_).mono fun e w' q=>⟨q.1,q.2.1,B2.out.keep HO.out.1 HO.out.2.1 HO.out.2.2 q.2.2⟩;rw[ht,her, ←HSL.out];exact(Acs B w2 gt R n1.tab u.v1 u.v2 u.v3 hu.tab (JO m) ⟨HOK.out.2.1,HOK.out.2.2.1⟩ (Pf HI1.out)).mono fun e w' q=>⟨q.1,hu.setTab q.2⟩
   rw[←hw2];clear hw2 uL f5 f2 f4 CS ne9 A1 B1 ht her A2 B2;by_cases he:er=0
   focus
    have heb:(er !=0)=false:=by simpa using he
    have HER:Hid (er=0):=he;clear he;go_wp2_with (go_at_call 83;refine CL.mono ?_;rintro e w3 ⟨rfl,a3,bx⟩;have A4:Hid (An B w w3 g gt gh gw R (Bm n1 t) r O):=a3;have B4:Hid (Ew g p2 p3 p5 m vi w3):=bx;clear a3 bx CL;refine Aw ?_);unfold AZ;have HLE:Hid (Ml (Ar R) n1 m=Bm n1 t):=by show _=_;rw[HLD.out,if_pos HER.out]
    go_wp2_with fail;obtain⟨n3,hn3⟩:∃n3,n3=Bm n1 t:=⟨_,rfl⟩;have A3:Hid (An B w w3 g gt gh gw R n3 r O):=by show An _ _ _ _ _ _ _ _ _ _ _;rw[hn3];exact A4.out
    have B3:Hid (Ew g p2 p3 p5 m vi w3):=B4.out;have I3:Hid (AQ (M+6) R n3):=by show AQ _ _ _;rw[hn3];exact by rw[←HLE.out];exact HIL.out
    have HDF:Hid (EX (Ar R) n m=(KC n3 m,true)):=by show _=_;rw[HD0.out,if_neg HV0.out,if_pos HV1.out,HLE.out,hn3]
    clear hn3
   rotate_left
   focus
    have heb:(er !=0)=true:=by simpa using he
    have HER:Hid (er≠0):=he;clear he;have HLE:Hid (Ml (Ar R) n1 m=BR (Bm n1 t) ⟨20,0,0,0,Ad m 1,0,0,0,Z,(Z,Z)⟩):=by show _=_;rw[HLD.out,if_neg HER.out]
    go_wp2_with (go_at_call 83;refine CL.mono ?_;rintro e w4 ⟨rfl,a3,bx⟩;have A4:Hid (An B w w4 g gt gh gw R (Bm n1 t) r O):=a3;have B4:Hid (Ew g p2 p3 p5 m vi w4):=bx;clear a3 bx CL;refine Aw ?_);unfold AZ;obtain⟨ep,hep⟩:∃ep,ep=Ad m 1:=⟨_,rfl⟩;have q2:w4.cell? ⟨p2,0,none⟩=some (.pointer (some ⟨g,0,none⟩)):=by rw[cell_of_row w4 _ 0 _ _ _ B4.out.b2];rfl
    have q3:w4.cell? ⟨p3,2,none⟩=some (.int .i64 ep):=by rw[hep];exact(Ci HOK.out B4.out.b3).n 1 (by decide)
    have CN:=A4.out.call (n'':=BR (Bm n1 t) ⟨20,0,0,0,Ad m 1,0,0,0,Z,(Z,Z)⟩) (P:=fun e _=>e=.returned (.tuple #[])) fun u hu=>EH B w4 g gt gh gw R (Bm n1 t) u hu HIT.out 20 0 0 (Ad m 1) 0 0;rw[←hep] at CN HLE;have HEQ:Hid (ep=Ad m 1):=hep;clear hep;go_wp2_with (go_at_call 38;refine CN.mono ?_;rintro e w3 ⟨rfl,a4,k4⟩;have A5:Hid (An B w w3 g gt gh gw R _ r O):=a4;have B5:Hid (Ew g p2 p3 p5 m vi w3):=B4.out.keep HO.out.1 HO.out.2.1 HO.out.2.2 k4;clear a4 k4 CN;refine Aw ?_);unfold AZ;rw[HEQ.out] at A5 HLE;clear q2 q3 HEQ;go_wp2_with fail;obtain⟨n3,hn3⟩:∃n3,n3=BR (Bm n1 t) ⟨20,0,0,0,Ad m 1,0,0,0,Z,(Z,Z)⟩:=⟨_,rfl⟩;have A3:Hid (An B w w3 g gt gh gw R n3 r O):=by show An _ _ _ _ _ _ _ _ _ _ _;rw[hn3];exact A5.out
    have B3:Hid (Ew g p2 p3 p5 m vi w3):=B5.out;have I3:Hid (AQ (M+6) R n3):=by show AQ _ _ _;rw[hn3];exact by rw[←HLE.out];exact HIL.out
    have HDF:Hid (EX (Ar R) n m=(KC n3 m,true)):=by show _=_;rw[HD0.out,if_neg HV0.out,if_pos HV1.out,HLE.out,hn3]
    clear hn3
  rotate_right
  focus
   have hv1b:(vi==1)=false:=by simpa using hv1
   have HV1:Hid (vi≠1):=hv1;clear hv1;go_wp2_with fail;have f5:∀u:Al w1,u.world.cell? ⟨p5,0,none⟩=some (.int .i64 vi):=fun u=>by rw[cell_of_row u.world _ 0 _ _ _ (B1.out.below u.below).b5];rfl
   have ne9:=Al.ne w1;refine AR (by kernel_rfl) (by kernel_rfl) ?_
   iterate 12 (go_big_quiet_step (fail))
   refine wpQuiet_nil ?_;rintro w' ⟨uL,rfl⟩;obtain⟨w3,hw3⟩:∃w3,w3=uL.world:=⟨_,rfl⟩;have A2:Hid (An B w w3 g gt gh gw R n1 r O):=by show An _ _ _ _ _ _ _ _ _ _ _;rw[hw3];exact A1.out.below uL.below
   have B2:Hid (Ew g p2 p3 p5 m vi w3):=by show Ew _ _ _ _ _ _ _;rw[hw3];exact B1.out.below uL.below
   rw[←hw3];clear hw3 uL f5 ne9 A1 B1;go_wp2_with fail;obtain⟨n3,hn3⟩:∃n3,n3=n1:=⟨_,rfl⟩;have A3:Hid (An B w w3 g gt gh gw R n3 r O):=by show An _ _ _ _ _ _ _ _ _ _ _;rw[hn3];exact A2.out
   have B3:Hid (Ew g p2 p3 p5 m vi w3):=B2.out;have I3:Hid (AQ (M+6) R n3):=by show AQ _ _ _;rw[hn3];exact HI1.out.le (by omega)
   have HDF:Hid (EX (Ar R) n m=(KC n3 m,true)):=by show _=_;rw[HD0.out,if_neg HV0.out,if_neg HV1.out,hn3]
   clear hn3
  all_goals
   have HE9:Hid (KC n3 m=BX n3 0 (Cg 4 n3.hold.life (Ad m 1) 0 ((n3.hold.cnt (Ad m 1)).1:Nat) 0 0 0 0 0 0 0 0 0 (Z,Z) Z)):=rfl;obtain⟨ep,hep⟩:∃ep,ep=Ad m 1:=⟨_,rfl⟩;obtain⟨inc,hinc⟩:∃inc,inc=n3.hold.life:=⟨_,rfl⟩;obtain⟨many,hmany⟩:∃many:Int,many=((n3.hold.cnt (Ad m 1)).1:Nat):=⟨_,rfl⟩;obtain⟨of_,hof⟩:∃of_:Int,of_=(n3.hold.cnt (Ad m 1)).2:=⟨_,rfl⟩;obtain⟨nu,hnu⟩:∃nu,nu=n3.num:=⟨_,rfl⟩;obtain⟨le,hle⟩:∃le,le=n3.lease:=⟨_,rfl⟩;obtain⟨be,hbe⟩:∃be,be=n3.beat:=⟨_,rfl⟩;obtain⟨n9,hn9⟩:∃n9,n9=KC n3 m:=⟨_,rfl⟩;have HD9:Hid (n9=KC n3 m):=hn9;rw[←hn9, ←hinc, ←hmany, ←hep] at HE9;have CC:∀u:Al w3,Calls aB 72 #[.pointer (some ⟨gh,0,none⟩),.int .i64 ep] u.world fun e w'=>e=.returned (.tuple #[.int .i64 many,.int .i64 of_])∧Below u.world.heap.size u.world w':=fun u=>by rw[hep,hmany,hof];exact(A3.out.below u.below).ask fun x hx=>Pa _ gh n3.hold hx.hold _
   have CI:Hid (∀W,An B w W g gt gh gw R n3 r O→Calls aB 19 #[.pointer (some ⟨gh,0,none⟩)] W fun e w'=>e=.returned (.int .i64 inc)∧w'=W):=fun W hW=>by rw[hinc];exact hW.ask fun u hu=>(Fn W gh n3.hold hu.hold).1
   have CS:Hid (∀W,An B w W g gt gh gw R n3 r O→Ew g p2 p3 p5 m vi W→Calls aB 53 #[.pointer (some ⟨g,0,none⟩),.int .i64 0,.agg (Ah (Cg 4 inc ep 0 many 0 0 0 0 0 0 0 0 0 (Z,Z) Z))] W fun e w'=>e=.returned (.tuple #[])∧An B w w' g gt gh gw R n9 r O∧Dv g gt gh gw nu le be (fun W=>Ew g p2 p3 p5 m vi W) w'):=fun W hW hB=>by
    refine(hW.call (n'':=n9) (P:=fun e _=>e=.returned (.tuple #[])) fun u hu=> ?_).mono fun e w' q=>⟨q.1,q.2.1,?_⟩
    ·rw[HE9.out];exact Ig B W g gt gh gw R n3 u hu (by have:=I3.out.post;have:=HM.out;omega) 0 _ (KK _ _ _ _ _ _ _ _ _ _ _ _ _ _ ⟨AX,AX⟩ AX) (by rw[hinc,hmany,hep];exact YG I3.out.hold.life (HMN.out 1) (I3.out.hold.many _))
    ·have hs:=L6 n3 0 (Cg 4 inc ep 0 many 0 0 0 0 0 0 0 0 0 (Z,Z) Z);rw[←HE9.out] at hs;exact q.2.1.inN (by rw[hs.2.2.2.2.1,hnu]) (by rw[hs.2.2.2.2.2.1,hle]) (by rw[hs.2.2.2.2.2.2.1,hbe]) (hB.keep HO.out.1 HO.out.2.1 HO.out.2.2 q.2.2)
   have HSx:Hid (∀W,Below w3.heap.size w3 W→Dv g gt gh gw nu le be (fun W=>Ew g p2 p3 p5 m vi W) W):=fun W hW=>(A3.out.below hW).inN hnu.symm hle.symm hbe.symm (B3.out.below hW);have HEP:Hid (ep=Ad m 1):=hep;have k2:∀u:Al w3,u.world.cell? ⟨p2,0,none⟩=some (.pointer (some ⟨g,0,none⟩)):=fun u=>by rw[cell_of_row u.world p2 0 _ _ _ (B3.out.below u.below).b2];rfl
   have k3:∀u:Al w3,u.world.cell? ⟨p3,2,none⟩=some (.int .i64 ep):=fun u=>by rw[HEP.out];exact(Ci HOK.out (B3.out.below u.below).b3).n 1 (by decide)
   have k5:∀u:Al w3,u.world.cell? ⟨g,5,none⟩=some (.pointer (some ⟨gh,0,none⟩)):=fun u=>by obtain⟨x,hx⟩:=(A3.out.below u.below).ndV;exact hx.f.c5
   have ne9:=Al.ne w3;clear hep hinc hmany hof hnu hle hbe hn9 HE9;refine AR (by kernel_rfl) (by kernel_rfl) ?_
   iterate 6 (go_big_quiet_step (fail))
   go_big_quiet_want;go_big_quiet_op;refine⟨_,fun u=>Calls.later_of (CC u),?_⟩;go_big_quiet_on
   iterate 5 (go_big_quiet_step (fail))
   refine wpQuiet_nil ?_;rintro w' ⟨uL,rfl⟩;obtain⟨wq,hwq⟩:∃wq,wq=uL.world:=⟨_,rfl⟩;have B6:Hid (Ew g p2 p3 p5 m vi (aM wq)):=by rw[hwq];exact B3.out.below uL.below.drew
   have A6:Hid (An B w (aM wq) g gt gh gw R n3 r O):=by show An _ _ _ _ _ _ _ _ _ _ _;rw[hwq];exact A3.out.below uL.below.drew
   have HS6:Hid (Dv g gt gh gw nu le be (fun W=>Ew g p2 p3 p5 m vi W) (aM wq)):=by rw[hwq];exact HSx.out _ uL.below.drew
   rw[←hwq];clear k2 k3 k5 CC ne9 hwq uL HSx;go_wp2_with fail;have q2:∀z:Fh g gt gh gw nu le be (fun W=>Ew g p2 p3 p5 m vi W),z.world.cell? ⟨p2,0,none⟩=some (.pointer (some ⟨g,0,none⟩)):=fun z=>by rw[cell_of_row z.world p2 0 _ _ _ z.x.b2];rfl
   have q3:∀z:Fh g gt gh gw nu le be (fun W=>Ew g p2 p3 p5 m vi W),z.world.cell? ⟨p3,2,none⟩=some (.int .i64 ep):=fun z=>by rw[HEP.out];exact(Ci HOK.out z.x.b3).n 1 (by decide)
   have e5:∀z:Fh g gt gh gw nu le be (fun W=>Ew g p2 p3 p5 m vi W),z.world.cell? ⟨g,5,none⟩=some (.pointer (some ⟨gh,0,none⟩)):=fun z=>z.c5;have ne9:Nonempty (Fh g gt gh gw nu le be (fun W=>Ew g p2 p3 p5 m vi W)):=by obtain⟨z,_⟩:=HS6.out;exact⟨z⟩
   refine Em ?_;refine BJ (Dv g gt gh gw nu le be (fun W=>Ew g p2 p3 p5 m vi W)) 11 rfl (by kernel_rfl) ?_;refine AV [0,1,6,8,2,7,3,4] 8 3 rfl (by kernel_rfl) (by decide) (by kernel_rfl) (by kernel_rfl) (by intro d v c a w h;exact absurd h.1 (by simp)) HS6.out ?_;simp only[Df,List.map_cons,List.map_nil,aI,aO,List.headD_cons]
   iterate 8 (go_big_quiet_step (fail))
   refine wpQuiet_nil ?_;refine Bb 5 (by kernel_rfl) ?_;refine Bp rfl rfl 19 #[.tmp 44] (by intro b w;have hf:=Tryz.func19;simp[go_sem]) #[.pointer (some ⟨gh,0,none⟩)] rfl (fun v w'=>v=.int .i64 inc∧w'=aM wq) ((CI.out (aM wq) A6.out).mono fun e w' h=>⟨_,h.1,rfl,h.2⟩) (some 45) rfl ?_;rintro v wz ⟨rfl,hz9⟩;have hz9:=hz9.symm;subst hz9;refine⟨HS6.out,?_⟩;simp only[Act.put,aC,aJ,aK];refine Bb 9 (by kernel_rfl) ?_;refine Jf rfl rfl _ _ rfl #[(0,.int .i64 4),(1,.int .i64 inc),(2,.int .i64 ep),(4,.int .i64 many)] rfl _ (Aaa inc ep many _) (some 49) rfl ?_;refine⟨HS6.out,?_⟩;simp only[Act.put,aC,aJ,aK];refine Bb 10 (by kernel_rfl) ?_;refine Bp rfl rfl 53 #[.tmp 40,.const (.int .i64 0),.tmp 49] (by intro b w;have hf:=Tryz.func53;simp[go_sem]) #[.pointer (some ⟨g,0,none⟩),.int .i64 0,.agg (Ah (Cg 4 inc ep 0 many 0 0 0 0 0 0 0 0 0 (Z,Z) Z))] rfl (fun v w'=>v=.tuple #[]∧An B w w' g gt gh gw R n9 r O∧Dv g gt gh gw nu le be (fun W=>Ew g p2 p3 p5 m vi W) w') ((CS.out (aM wq) A6.out B6.out).mono fun e w' h=>⟨_,h.1,rfl,h.2⟩) (some 50) rfl ?_;rintro v w9 ⟨rfl,a9,i9⟩;have A9:Hid (An B w w9 g gt gh gw R n9 r O):=a9;clear a9;refine⟨i9,?_⟩
   simp only[Act.put,aC,aJ,aK];refine wpAnyH_done (by kernel_rfl) ?_ _;refine⟨rfl,?_⟩;go_wp2_with fail;go_ret;exact⟨by rw[HDF.out];rfl,by rw[HDF.out];show CZ _ _ _ _ _ _ _ _ (KC n3 m) _;rw[←HD9.out];exact A9.out.to⟩
section
variable {P:Program} {ops:Array Oper} {md:bB} {C:World→Prop}
def Pd(md:bB)(ops:Array Oper)(n:Nat):Bool:=
 (List.range ops.size).all fun t=>decide (t≤n) || (List.range t).any fun s=>decide (n≤s)&&Region.waitsFor md ops t s
theorem N6{n:Nat}{listed:Array Bool}(hs:aT md ops n=true)(hc:Pd md ops n=true)(inv:HeadInv md ops n listed):
  ∀(d i:Nat),n-i=d→i<n→listed.getD i true=false→∀t,n≤t→t∉aA md ops listed:=by
 intro d;induction d using Nat.strongRecOn with
 | _ d ih=>
  intro i hd hi hun t ht hr;obtain⟨_,ot,hot,hall⟩:=mem_ready.1 hr;have htlt:t<ops.size:=(gS hot);by_cases htn:t=n
  ·subst htn;have h1:=aV.1 hs i (aG.2 hi);obtain⟨j,hj,hj2⟩:=bC.1 h1;simp only[aW,decide_eq_true_eq] at hj2;obtain⟨oj,hoj,e,he,hb,hon⟩:=aZ hj2.2;have hjle:j≤t:=by have:=aG.1 hj;omega
   by_cases hjt:j=t
   ·subst hjt;have:oj=ot:=Option.some.inj (hoj.symm.trans hot);subst this;have h2:=hall e he hb;rw[hon,getD_both hun] at h2
    cases h2
   ·cases hl:listed.getD j false with
    | true=>
     have h2:=inv.closed j oj hoj hl e he hb;rw[hon,getD_both hun] at h2
     cases h2
    | false=>
     have hjs:j<listed.size:=by rw[inv.size];omega
     exact ih (t-j) (by omega) j rfl (by omega) (getD_in hjs hl) t (aQ _) hr
  ·have h1:=aV.1 hc t (aG.2 htlt);simp only[Bool.or_eq_true,decide_eq_true_eq] at h1;rcases h1 with h1 | h1
   ·omega
   ·obtain⟨s,hs1,hs2⟩:=bC.1 h1;simp only[aW,decide_eq_true_eq] at hs2;have hst:=aG.1 hs1;obtain⟨o',ho',e,he,hb,hon⟩:=aZ hs2.2;have:o'=ot:=Option.some.inj (ho'.symm.trans hot);subst this;have h2:=hall e he hb;rw[hon,getD_both (inv.tail s hs2.1 (by omega))] at h2
    cases h2
theorem VS{n i:Nat}{oi:Oper}{v:Value}{L:Array Bool→Act→Prop}(hi:ops[i]?=some oi)(hsel:∀(j:Nat) (o:Oper) cs b,ops[j]?=some o→o.op≠ .select cs b)
  (hs:aT md ops n=true) (hc:Pd md ops n=true) (hin:i<n)
  (hdone:∀listed a,L listed a→∀j∈aA md ops listed,n≤j):
  ∀(f:Nat) (listed:Array Bool) (a:Act),HeadInv md ops n listed→
   (∀j oj,ops[j]?=some oj→j≠i→listed.getD j true=false→(∀e∈oj.after,bA md e=true→e.on≠i)→oi.apart ops oj=true)→
   i∈aA md ops listed→YieldsIn P ops C oi v a→
   Mv P md ops C n L f (listed.setIfInBounds i true) (a.put oi.dst v)→Mv P md ops C n L (f+1) listed a:=by
 intro f;induction f with
 | zero=>
  intro listed a inv _ hr hy H;have hun:=(mem_ready.1 hr).1;refine⟨fun h=>(by rw[h] at hr;cases hr),fun j hj=> ?_⟩
  have hjn:j<n:=by
   rcases Nat.lt_or_ge j n with h | h
   ·exact h
   ·exact absurd hj (N6 hs hc inv _ i rfl hin hun j h)
  refine⟨hjn,?_⟩;by_cases hji:j=i
  ·subst hji;exact hy.qOp hi H
  ·have:=hdone _ _ H j (ready_mono hj hji);omega
 | succ f ih=>
  intro listed a inv hfree hr hy H;have hun:=(mem_ready.1 hr).1;refine⟨fun h=>(by rw[h] at hr;cases hr),fun j hj=> ?_⟩
  have hjn:j<n:=by
   rcases Nat.lt_or_ge j n with h | h
   ·exact h
   ·exact absurd hj (N6 hs hc inv _ i rfl hin hun j h)
  refine⟨hjn,?_⟩;by_cases hji:j=i
  ·subst hji;exact hy.qOp hi H
  ·have h1:=(H.2 j (ready_mono hj hji)).2;obtain⟨hjun,oj,hoj,hall⟩:=mem_ready.1 hj
   have hnot:∀e∈oj.after,bA md e=true→e.on≠i:=fun e he hb heq=>by
    have h1:=hall e he hb;rw[heq,getD_both hun] at h1
    cases h1
   have h2:=qOp_put hoj (hfree j oj hoj hji hjun hnot) (fun cs b=>hsel i oi cs b hi) (fun cs b=>hsel j oj cs b hoj) hy h1
   have hfree':∀k ok,ops[k]?=some ok→k≠i→(listed.setIfInBounds j true).getD k true=false→
     (∀e∈ok.after,bA md e=true→e.on≠i)→oi.apart ops ok=true:=fun k ok hk hki hun hno=>by
    refine hfree k ok hk hki ?_ hno;by_cases hjk:j=k
    ·subst hjk;exact hjun
    ·rw[getD_set_ne true hjk] at hun;exact hun
   refine qOp_mono (fun a' h3=>ih (listed.setIfInBounds j true) a' (inv.set hj hjn) hfree' (ready_mono hr (Ne.symm hji)) h3.1 ?_) h2;rw[aL _ _ hji];exact h3.2
def OU(md:bB)(ops:Array Oper)(L0:Array Bool):Nat→Nat→Array Bool→Bool
 | 0,_,listed=>decide (listed=L0)
 | f+1,k,listed=>(aA md ops listed).contains k&&Region.free md ops listed k&&OU md ops L0 f (k+1) (listed.setIfInBounds k true)
theorem SV{n:Nat}{L0:Array Bool}{Lq:Act→Prop}(hsel:bF ops=true)(hs:aT md ops n=true)(hc:Pd md ops n=true)(hd:∀j∈aA md ops L0,n≤j):
  ∀(l:List Oper) (k:Nat) (listed:Array Bool) (a:Act),(∀j,j<l.length→l[j]?=ops[k+j]?)→k+l.length=n→HeadInv md ops n listed→
  OU md ops L0 l.length k listed=true→wpQuiet P ops C Lq l a→
  Mv P md ops C n (fun listed' a'=>listed'=L0∧Lq a') l.length listed a
 | [],k,listed,a,_,hk,_,hB,h=>⟨by simpa[OU] using hB,h⟩
 | o::l,k,listed,a,hl,hk,inv,hB,h=>by
  have h0:ops[k]?=some o:=by simpa using(hl 0 (by simp)).symm
  simp only[aX,OU,aW] at hB
  obtain⟨⟨hr,hf⟩,hB'⟩:=hB
  have hkn:k<n:=by simp only[aX] at hk;omega
  have hr':k∈aA md ops listed:=by simpa using hr
  have hst:qOp P ops C k (wpQuiet P ops C Lq l) a:=by unfold qOp;simp only[h0];exact h
  obtain⟨v,hy,hK⟩:=yieldsIn_of_qOp h0 hst
  exact VS h0 (Region.noSelect_spec hsel) hs hc hkn (fun listed' a' hL=>by rw[hL.1];exact hd) l.length listed a inv (Region.free_spec h0 hf) hr' hy
   (SV hsel hs hc hd l (k+1) _ _ (fun j hj=>by have:=hl (j+1) (by simp;omega);simpa[Nat.add_assoc,Nat.add_comm 1 j] using this) (by simp only[aX] at hk;omega) (inv.set hr' hkn) hB' hK)
end
theorem Pp{P:Program}{id:Nat}{Q:Exit→Act→World→Prop}{a:Act}{w:World}{l:List Oper}(n g:Nat)(L0:Array Bool)(hm:P.follows .mixedOrders=true)
  (hsel:bF l.toArray=true) (hs:aT .any l.toArray n=true) (hc:Pd .any l.toArray n=true) (hd:(aA .any l.toArray L0).all (fun j=>decide (n≤j))=true) (hB:OU .any l.toArray L0 n 0 (bG l.toArray.size false)=true) (hg:l.length=n+g)
  (h:wpQuiet P l.toArray (fun w'=> ∃u:Al w,w'=u.world) (fun a'=> ∀w',(∃u:Al w,w'=u.world)→wpAny P .any l.toArray Q g L0 a' w') (l.take n) a):(Code.region id l.toArray true).wp P Q a w:=by
 have htl:(l.take n).length=n:=by simp;omega
 have inv0:HeadInv .any l.toArray n (bG l.toArray.size false):=
  ⟨by simp,fun j oj _ hl=>(by rw[getD_replicate_false] at hl;cases hl),fun t _ ht=>getD_in (by simpa using ht) (getD_replicate_false _ _)⟩
 have H:=SV (md:=.any) (L0:=L0) hsel hs hc (fun j hj=>of_decide_eq_true (aV.1 hd j hj)) (l.take n) 0 _ a (fun j hj=>by
  have hj':j<n:=by rw[htl] at hj;exact hj
  simp[hj']) (by simpa using htl) inv0 (by rw[htl];exact hB) h
 refine wp_region_any hm ?_;have hC:(fun w'=> ∃u:Al w,w'=u.world) w.drew:=⟨⟨w.drew,(Below.refl _ _).drew⟩,rfl⟩;have:=Kz (Q':=Q) (g:=g) (fun listed a' w' hw' hL=>by rw[hL.1];exact hL.2 w' hw') _ _ _ _ hC H;rw[htl] at this;rw[show l.toArray.size=n+g by simpa using hg];rw[show l.toArray.size=n+g by simpa using hg] at this;exact this
theorem Adt{P:Program}{ops:Array Oper}{Q:Exit→Act→World→Prop}{a:Act}{w w':World}{i0 i1 i2:Nat}{o0 o1 o2:Oper}{v0 v1:Value}(L:Array Bool)(h0:ops[i0]?=some o0)(h1:ops[i1]?=some o1)(h2:ops[i2]?=some o2)
  (r0:aA .any ops L=[i0,i1]) (r1:aA .any ops (L.setIfInBounds i0 true)=[i1,i2]) (r2:aA .any ops (L.setIfInBounds i1 true)=[i0]) (r3:aA .any ops ((L.setIfInBounds i0 true).setIfInBounds i1 true)=[i2])
  (r4:aA .any ops ((L.setIfInBounds i0 true).setIfInBounds i2 true)=[i1]) (r5:aA .any ops (((L.setIfInBounds i0 true).setIfInBounds i1 true).setIfInBounds i2 true)=[]) (d1:i1≠i0) (d2:i2≠i1)
  (q0:o0.guard=none) (q1:o1.guard=none) (q2:o2.guard=none) (q3:o2.dst=none)
  (e0:(execOp a.eval o0).run P w=.ok (.value v0) w) (e0':(execOp (a.put o1.dst v1).eval o0).run P w=.ok (.value v0) w)
  (e1:(execOp a.eval o1).run P w=.ok (.value v1) w) (e1a:(execOp (a.put o0.dst v0).eval o1).run P w=.ok (.value v1) w) (e1b:(execOp (a.put o0.dst v0).eval o1).run P w'=.ok (.value v1) w')
  (e2:(execOp (a.put o0.dst v0).eval o2).run P w=.ok .skip w') (e2a:(execOp ((a.put o0.dst v0).put o1.dst v1).eval o2).run P w=.ok .skip w')
  (comm:(a.put o1.dst v1).put o0.dst v0=(a.put o0.dst v0).put o1.dst v1)
  (h:Q .normal ((a.put o0.dst v0).put o1.dst v1) w'):wpAny P .any ops Q 3 L a w:=by
 have pn:∀(b:Act) (v:Value),b.put none v=b:=fun b v=>rfl;have fin:wpAny P .any ops Q 0 (((L.setIfInBounds i0 true).setIfInBounds i1 true).setIfInBounds i2 true) ((a.put o0.dst v0).put o1.dst v1) w':=⟨r5,h⟩;refine Hq [i0,i1] r0 (by simp) fun i hi=> ?_;simp only[aH,aD,or_false] at hi;rcases hi with rfl | rfl
 ·refine GQ h0 q0 e0 (Hq [i1,i2] r1 (by simp) fun j hj=> ?_);simp only[aH,aD,or_false] at hj;rcases hj with rfl | rfl
  ·refine GQ h1 q1 e1a (Hq [i2] r3 (by simp) fun j hj=> ?_);simp only[aH,aD,or_false] at hj;subst hj;refine LM h2 q2 e2a ?_;rw[q3,pn];exact fin
  ·refine LM h2 q2 e2 ?_;rw[q3,pn];refine Hq [i1] r4 (by simp) fun j hj=> ?_;simp only[aH,aD,or_false] at hj;subst hj;refine GQ h1 q1 e1b ?_;rw[aL _ _ d2];exact fin
 ·refine GQ h1 q1 e1 (Hq [i0] r2 (by simp) fun j hj=> ?_);simp only[aH,aD,or_false] at hj;subst hj;refine GQ h0 q0 e0' ?_;rw[comm,aL _ _ d1];refine Hq [i2] r3 (by simp) fun j hj=> ?_;simp only[aH,aD,or_false] at hj;subst hj;refine LM h2 q2 e2a ?_;rw[q3,pn];exact fin
theorem Yx(P:Program)(a:Act)(o:Oper)(w:World)(x:Operand)(v:Value)(ho:o.op=.move x)(hx:a.eval x=v):(execOp a.eval o).run P w=.ok (.value v) w:=by
 unfold execOp;simp only[ho,Sem.run_pure,hx]
theorem G4(P:Program)(a:Act)(o:Oper)(w:World)(x:Operand)(i:Nat)(vs:Array Value)(v:Value)(ho:o.op=.extract x i)(hx:a.eval x=.tuple vs)(hv:vs[i]?=some v):(execOp a.eval o).run P w=.ok (.value v) w:=by
 unfold execOp;simp[ho,hx,Instr.extract,hv]
theorem LF(V M V' M':List Int)(hV:Ax V)(hM:Ax M)(hV':Ax V')(hM':Ax M')(w:World):
  Calls aB 134 #[.agg (cv V M),.agg (cv V' M')] w fun e w'=>e=.returned (.bool (Cz V M V' M'))∧Below w.heap.size w w':=by
 have hVl:=hV.1;have hMl:=hM.1;have hVl':=hV'.1;have hMl':=hM'.1
 obtain⟨U,N,hU,hN,hUN⟩:∃U N:List Int,U.length=13∧N.length=13∧MP V M V' M'=.tuple #[.agg (cv U N),.bool (Cz V M V' M')]:=by
  cases h:Cz V M V' M' with
  | true=>exact⟨_,_,(Xh V M V' M').1,(Xi M M').1,Qu _ _ _ _ h⟩
  | false=>exact⟨_,_,AX.1,AX.1,Sa _ _ _ _ h⟩
 have C1:Hid (∀W,Calls aB 148 #[.agg (cv V M),.agg (cv V' M')] W fun e w'=>e=.returned (.tuple #[.agg (cv U N),.bool (Cz V M V' M')])∧Below W.heap.size W w'):=fun W=>by
  rw[←hUN];exact Zd V M V' M' hV hM hV' hM' W
 generalize Cz V M V' M'=b at C1 ⊢;clear hV hM hV' hM' hUN;go_enter Tryz.func134,Tryz.ntmps134
 go_wp2_with (first
  | (refine Cl rfl _ rfl w.heap.size rfl V M (Af _ _ _ _ (Ac _ _ _ rfl)) hVl hMl ?_)
  | (refine Cl rfl _ rfl (w.heap.size+1) rfl V' M' (Ac _ _ _ (by simp)) hVl' hMl' ?_))
 refine(C1.out _).mono ?_;rintro e w1 ⟨rfl,hb1⟩;have B1:Below w.heap.size w w1:=(((Below.refl _ _).alloc (aQ _) _).alloc (by simp) _).trans (hb1.mono (by simp;omega));clear hb1 C1
 go_wp2_with (first
  | (refine Bq rfl _ _ rfl w1.heap.size U N rfl rfl _ (Ac _ _ _ rfl) rfl hU hN _ (BD _ _ _ _ _ rfl) ?_))
 go_ret;exact⟨rfl,B1.alloc B1.size _⟩
def IE(H:List Int)(c:List Int×List Int)(i:Nat):Bool:=bt c.2 i&&(bt c.1 i !=bt H i)
def GE(H:List Int)(c:List Int×List Int):Nat:=(JI H c).getD 104
theorem T4{H:List Int}{c:List Int×List Int}{k:Nat}(hk:k<104)(h:∀j,j<k→IE H c j=false)(h1:IE H c k=true):GE H c=k:=by
 have:JI H c=some k:=by
  unfold JI;rw[List.find?_range_eq_some];refine⟨h1,aG.2 hk,fun j hj=> ?_⟩;have:=h j hj;unfold IE at this;rw[this];rfl
 unfold GE;rw[this];rfl
theorem Ac4{H:List Int}{c:List Int×List Int}(h:∀j,j<104→IE H c j=false):GE H c=104:=by
 have:JI H c=none:=by
  unfold JI;rw[List.find?_eq_none];intro j hj;have:=h j (aG.1 hj);unfold IE at this;rw[this];decide
 unfold GE;rw[this];rfl
theorem OC{H:List Int}{c:List Int×List Int}(h:has c.1 c.2 H=false):JI H c=some (GE H c)∧GE H c<104:=by
 obtain⟨i,hi⟩:=RX h;have:=WS hi;unfold GE;rw[hi];exact⟨rfl,this.1⟩
theorem Ns{H:List Int}{c:List Int×List Int}{k:Nat}(h:∀j,j<k→IE H c j=false)(h1:IE H c k=false):∀j,j<k+1→IE H c j=false:=fun j hj=>by
 by_cases e:j=k
 ·rw[e];exact h1
 ·exact h j (by omega)
theorem TM(V M H:List Int)(hV:Ax V)(hM:Ax M)(hH:Ax H)(w:World):
  Calls aB 135 #[.agg (cv V M),.agg (hv H)] w fun e w'=>e=.returned (.int .i64 (GE H (V,M):Nat))∧Below w.heap.size w w':=by
 have hVl:=hV.1;have hMl:=hM.1;have hHl:=hH.1;have CM:Hid (∀k:Nat,k<104→∀W,Calls aB 132 #[.agg (hv M),.int .i64 (k:Int)] W fun e w'=>e=.returned (.bool (bt M k))∧Below W.heap.size W w'):=fun k hk=>GG M hM k hk;have CV:Hid (∀k:Nat,k<104→∀W,Calls aB 132 #[.agg (hv V),.int .i64 (k:Int)] W fun e w'=>e=.returned (.bool (bt V k))∧Below W.heap.size W w'):=fun k hk=>GG V hV k hk;have CH:Hid (∀k:Nat,k<104→∀W,Calls aB 132 #[.agg (hv H),.int .i64 (k:Int)] W fun e w'=>e=.returned (.bool (bt H k))∧Below W.heap.size W w'):=fun k hk=>GG H hH k hk;clear hV hM hH;go_enter Tryz.func135,Tryz.ntmps135;go_wp2_with fail;go_loopw [6] (fun i wr=> ∃k:Nat,k≤104∧i=.int .i64 k∧Hid (∀j,j<k→IE H (V,M) j=false)∧wr.heap[w.heap.size]?=some (.cells (cv V M) 25 (0,0))∧wr.heap[w.heap.size+1]?=some (.cells (hv H) 23 (0,0))∧Below w.heap.size w wr) (fun i _=>104-(intOf i).toNat)
 case atStart=>exact⟨0,Nat.zero_le _,rfl,fun j hj=>by omega,Af _ _ _ _ (Ac _ _ _ rfl),Ac _ _ _ (by simp),((Below.refl _ _).alloc (aQ _) _).alloc (by simp) _⟩
 case round=>
  obtain⟨k,hk,rfl,HJ,g0,g1,hb⟩:=hrel;by_cases hlt:k<104
  ·have hlt':(k:Int)<104:=by omega
   have D1:=CM.out k hlt;have D2:=CV.out k hlt;have D3:=CH.out k hlt;obtain⟨x,hx⟩:=eX (bt M k);obtain⟨y,hy⟩:=eX (bt V k);obtain⟨z,hz⟩:=eX (bt H k);have HO:Hid (IE H (V,M) k=(x&&(y !=z))):=by show _=_;rw[hx,hy,hz];rfl
   rw[←hx] at D1;rw[←hy] at D2;rw[←hz] at D3;have E1:Hid _:=D1;have E2:Hid _:=D2;have E3:Hid _:=D3;clear D1 D2 D3 hx hy hz;go_wp2_with fail;have ne1:=Al.ne wr
   cases x with
   | false=>
    have HJ2:Hid (∀j,j<k+1→IE H (V,M) j=false):=Ns HJ.out (by rw[HO.out];rfl);refine rL ?_;go_big_quiet_step (fail);refine qlM rfl _ rfl w.heap.size rfl V M g0 hVl hMl ?_;simp only[pU];go_big_quiet_step (fail);go_big_quiet_want;go_big_quiet_op;refine⟨_,fun u=>Calls.later_of (E1.out u.world),?_⟩;go_big_quiet_on
    repeat go_big_quiet_step (fail)
    refine wpQuiet_nil ?_;rintro w' ⟨u,rfl⟩;have hb2:=hb.trans (u.below.mono hb.size);have k0:=Ai g0 _ ⟨u,rfl⟩;have k1:=Ai g1 _ ⟨u,rfl⟩;clear ne1 hb g0 g1 E1 E2 E3;go_wp2_with fail;go_roundw
    case rel=>exact⟨k+1,by omega,by go_num,HJ2,k0,k1,hb2⟩
    case measure=>simp[intOf];omega
   | true=>
    refine rL ?_;go_big_quiet_step (fail);refine qlM rfl _ rfl w.heap.size rfl V M g0 hVl hMl ?_;simp only[pU];go_big_quiet_step (fail);go_big_quiet_want;go_big_quiet_op;refine⟨_,fun u=>Calls.later_of (E1.out u.world),?_⟩;go_big_quiet_on;go_big_quiet_step (fail);go_big_quiet_step (fail);refine qlV rfl _ rfl w.heap.size rfl V M g0 hVl ?_;simp only[pU];go_big_quiet_step (fail);go_big_quiet_want;go_big_quiet_op;refine⟨_,fun u=>Calls.later_of (E2.out u.world),?_⟩;go_big_quiet_on;refine Qp rfl _ rfl (w.heap.size+1) rfl H g1 hHl ?_;simp only[pU];go_big_quiet_step (fail);go_big_quiet_want;go_big_quiet_op;refine⟨_,fun u=>Calls.later_of (E3.out u.world),?_⟩;go_big_quiet_on;go_big_quiet_step (fail);go_big_quiet_step (fail);refine wpQuiet_nil ?_;rintro w' ⟨u,rfl⟩;have hb2:=hb.trans (u.below.mono hb.size);have k0:=Ai g0 _ ⟨u,rfl⟩;have k1:=Ai g1 _ ⟨u,rfl⟩;clear ne1 hb g0 g1 E1 E2 E3
    cases y <;> cases z
    ·have HJ2:Hid (∀j,j<k+1→IE H (V,M) j=false):=Ns HJ.out (by rw[HO.out];rfl);clear HO;go_wp2_with fail;go_roundw
     case rel=>exact⟨k+1,by omega,by go_num,HJ2,k0,k1,hb2⟩
     case measure=>simp[intOf];omega
    ·have HE:Hid (GE H (V,M)=k):=T4 hlt HJ.out (by rw[HO.out];rfl);clear HO;go_wp2_with fail;go_ret;exact⟨by rw[HE.out];rfl,hb2⟩
    ·have HE:Hid (GE H (V,M)=k):=T4 hlt HJ.out (by rw[HO.out];rfl);clear HO;go_wp2_with fail;go_ret;exact⟨by rw[HE.out];rfl,hb2⟩
    ·have HJ2:Hid (∀j,j<k+1→IE H (V,M) j=false):=Ns HJ.out (by rw[HO.out];rfl);clear HO;go_wp2_with fail;go_roundw
     case rel=>exact⟨k+1,by omega,by go_num,HJ2,k0,k1,hb2⟩
     case measure=>simp[intOf];omega
  ·have HE:Hid (GE H (V,M)=104):=Ac4 fun j hj=>HJ.out j (by omega);have hlt':¬(k:Int)<104:=by omega
   go_wp2_with fail;go_ret;exact⟨by rw[HE.out];rfl,hb⟩
def cnt(H:List Int):List (List Int×List Int)→Nat
 | []=>0
 | c::C=>(if has c.1 c.2 H=true then 1 else 0)+cnt H C
def V8(C:List (List Int×List Int)):Prop:=∀c∈C,Ax c.1∧Ax c.2
theorem QW:∀(C:List (List Int×List Int)),V8 C→∀(i:Nat) (hi:i<C.length) (j:Nat),j<26→(Ed C)[26*i+j]?=(cv C[i].1 C[i].2)[j]?
 | [],_,i,hi,_,_=>by simp at hi
 | c::C,hC,i,hi,j,hj=>by
  have h1:=hC c (by simp)
  have hl:(cv c.1 c.2).toList.length=26:=by rw[Array.length_toList,AO _ _ h1.1.1 h1.2.1]
  have e:Ed (c::C)=(cv c.1 c.2).toList++Ed C:=by simp[Ed]
  rw[e]
  match i,hi with
  | 0,_=>
   rw[List.getElem?_append_left (by omega)]
   simp
  | i+1,hi=>
   rw[List.getElem?_append_right (by omega),hl,show 26*(i+1)+j-26=26*i+j by omega,QW C (fun c hc=>hC c (by simp[hc])) i (by simpa using hi) j hj]
   rfl
def Sl(w:World)(v:Value)(C:List (List Int×List Int)):Prop:=
 V8 C∧∃(o:Option Addr) (cap:Nat),v=.slice o C.length cap∧C.length≤cap∧cap≤maxLen∧∀(i:Nat) (hi:i<C.length),∃g off cur t fr,o=some ⟨g,off,none⟩∧w.heap[g]?=some (.cells cur t fr)∧∀j,j<26→cur[off+i*26+j]?=(cv C[i].1 C[i].2)[j]?
theorem Sl.below{w w':World}{v:Value}{C:List (List Int×List Int)}(h:Sl w v C)(hb:Below w.heap.size w w'):Sl w' v C:=by
 obtain⟨h0,o,cap,rfl,h1,h2,h3⟩:=h;refine⟨h0,o,cap,rfl,h1,h2,fun i hi=> ?_⟩;obtain⟨g,off,cur,t,fr,h4,h5,h6⟩:=h3 i hi;exact⟨g,off,cur,t,fr,h4,(hb.block g (gS h5)).trans h5,h6⟩
theorem Sl.slice{w:World}{v:Value}{C:List (List Int×List Int)}(h:Sl w v C):∃(o:Option Addr) (cap:Nat),v=.slice o C.length cap∧C.length≤cap∧cap≤maxLen:=by
 obtain⟨_,o,cap,h1,h2,h3,_⟩:=h;exact⟨o,cap,h1,h2,h3⟩
theorem Sl.at{w:World}{o:Option Addr}{n cap:Nat}{C:List (List Int×List Int)}(h:Sl w (.slice o n cap) C)(k:Nat)(hk:k<n):
  ∃g off cur t fr U N,o=some ⟨g,off,none⟩∧w.heap[g]?=some (.cells cur t fr)∧(∀j,j<26→cur[off+k*26+j]?=(cv U N)[j]?)∧C[k]?=some (U,N)∧Ax U∧Ax N:=by
 obtain⟨h0,o',cap',h1,_,_,h3⟩:=h;simp only[Value.slice.injEq] at h1;obtain⟨rfl,rfl,rfl⟩:=h1;obtain⟨g,off,cur,t,fr,h4,h5,h6⟩:=h3 k hk;exact⟨g,off,cur,t,fr,C[k].1,C[k].2,h4,h5,h6,List.getElem?_eq_getElem hk,(h0 _ (bD _)).1,(h0 _ (bD _)).2⟩
theorem Afm{w:World}{B:Nat}{v:Value}{C:List (List Int×List Int)}(h:w.ownsRow B 25 26 v C.length (Ed C))(hC:V8 C):Sl w v C:=by
 refine⟨hC,?_⟩;obtain⟨h1,⟨rfl,h2⟩ | ⟨g,cap,cur,rfl,hB,hcur,h5,h6,_,h4⟩⟩:=h
 ·exact⟨none,0,by rw[h2],by omega,Nat.zero_le _,fun i hi=>by omega⟩
 ·refine⟨_,cap,rfl,h5,h6,fun i hi=>⟨g,0,cur,_,_,rfl,hcur,fun j hj=> ?_⟩⟩;rw[←QW C hC i hi j hj, ←h4,List.getElem?_take_of_lt (by omega),Nat.zero_add,Nat.mul_comm];simp
end
end Go.Proofs.YtbhkoipcpcoooabGreat
