import Derived.Test.YtbhkoipcpcoooaaGreatJ17
import Derived.Test.YtbhkoipcpcoooaaGreatJ12
import Derived.Test.YtbhkoipcpcoooaaGreatJ6
namespace Go.Proofs.YtbhkoipcpcoooaaGreat
set_option maxRecDepth 20000
set_option maxHeartbeats 64000000
open Go
open Go.RowKit.Below renaming refl → aA
open Go.Proofs.Tryz renaming prog → aB, ntmps74 → aR, func74 → aT, func85 → aV
open _root_.Nat renaming le_refl → aC, zero_add → aG, lt_succ_self → aK
open _root_.List renaming filter_append → aD, length_append → aH, take_add_one → aJ, filterMap_append → aM, filterMap_cons → aN, take_of_length_le → aQ
open Go.World renaming drew → aI, setCell → aW
open Go.IntKind renaming wrap_i64 → aL, i64 → aP
open _root_.Option renaming toList_some → aO
section
open Go.RowKit
theorem Agp(B:Nat)(w:World)(g gt gh gw:Nat)(R:Rm)(n:Af Aq)(r:D0)(h:Cb B w g gt gh gw R n r){M:Nat}(hi:Az M R n)(hM:M≤900000)(x:AN)(hx:AK x.head)(hq:Ch x.seq)(h0:0≤x.sent)(now:Int):
  Calls aB 74 #[.pointer (some ⟨g,0,none⟩),.agg (AD x),.int .i64 now] w fun e w'=>e=.returned (.tuple #[])∧Dl B w w' g gt gh gw R (DJ (Al R) n now x) r:=by
 obtain⟨w0,hw0⟩:=eX (w.alloc (.cells (AD x) 112));obtain⟨O1,hO1⟩:∃O1:Nat→Prop,O1=fun k=>k=w.heap.size:=⟨_,rfl⟩;have M10:Hid (O1 w.heap.size):=by show O1 _;rw[hO1]
 have B0:Below w.heap.size w w0:=by rw[hw0];exact(aA _ _).alloc (aC _) _
 have Zs:w0.heap.size=w.heap.size+1:=by rw[hw0,Bf]
 have Z0:Hid (w0.heap[w.heap.size]?=some (.cells (AD x) 112 (0,0))):=by show _=_;rw[hw0];exact Ab _ _ _ rfl
 have A0:Hid (Av B w w0 g gt gh gw R n r O1):=Av.begin h B0 (by rw[hO1];rintro k rfl;exact⟨aC _,by omega⟩);obtain⟨S',hS'⟩:=eX (((Al R).look n.tab now n.hold.use x.head).1);obtain⟨s,hs⟩:=eX (((Al R).look n.tab now n.hold.use x.head).2.1);obtain⟨b,hb⟩:=eX (((Al R).look n.tab now n.hold.use x.head).2.2);have hi1:Az (M+1) R (AX n S'):=by rw[hS'];exact QV hi now n.hold.use x.head
 have CL:Calls aB 83 #[.pointer (some ⟨g,0,none⟩),.agg (hv x.head),.int .i64 now] w0 fun e w'=>e=.returned (.tuple #[.agg (Ac s),.bool b])∧Av B w w' g gt gh gw R (AX n S') r O1∧Ec O1 w0 w':=by
  rw[hS',hs,hb];exact A0.out.call fun u hu=>Tb B w0 g gt gh gw R n u hu hi.tab (by omega) x.head hx now
 have e0:DJ (Al R) n now x=if b=true then (if s.bank=3 then Da (AX n S') x.seq x.index x.head x.sent s else FC (Db (AX n S') (BH n.wait x.seq).1) x.index s.action) else AX n S':=by
  unfold DJ;rw[hS',hs,hb];split
  ·rename_i t s' e;rw[e];rfl
  ·rename_i t s' e;rw[e];rfl
 rw[e0];obtain⟨n1,hn1⟩:=eX (AX n S');rw[←hn1] at hi1 CL ⊢;have hw1:n1.wait=n.wait:=by rw[hn1];rfl
 have HNU0:n1.num=n.num∧n1.lease=n.lease∧n1.beat=n.beat:=by rw[hn1];exact⟨rfl,rfl,rfl⟩
 rw[←hw1];clear e0 hS' hs hb hn1 hw1;have m2:∀j,j<13→(AD x)[2+j]?=(hv x.head)[j]?:=fun j hj=>Yf hx.1 j hj;have HHS:Hid ((hv x.head).size=13):=by show _=_;rw[EW];exact hx.1
 have HHC:Hid _:=m2;have hw0':=hw0.symm;have Zs0:Hid _:=Zs;have FIN:Hid (∀w1:World,Av B w w1 g gt gh gw R n1 r O1∧Ec O1 w0 w1→w1.heap[w.heap.size]?=some (.cells (AD x) 112 (0,0))):=fun w1 q=>(q.2 _ M10.out).trans Z0.out;have HX:Hid (AK x.head∧Ch x.seq∧0≤x.sent):=⟨hx,hq,h0⟩;have HI1:Hid (Az (M+1) R n1∧M+1≤1000000):=⟨hi1,by omega⟩;have h13:w0.heap[w.heap.size]?=some (.cells (AD x) 112 (0,0)):=Z0.out;clear hi hi1 hM hx hq h0 hw0 B0 Zs h m2
 cases b with
 | false=>
  rw[if_neg (by decide)];go_enter aT,aR
  go_wp2_with (first
   | ((with_reducible refine Aw 35 _ rfl ?_);refine AH JT rfl _ rfl w.heap.size 2 rfl _ _ _ (hv x.head) HHS.out h13 HHC.out ?_)
   | (go_at_call 83;refine CL.mono ?_;rintro e w1 ⟨rfl,a1⟩;have A1:Hid _:=a1;clear a1)
   | ((with_reducible refine Ff _ _ rfl ?_);refine Ck rfl _ _ rfl w1.heap.size s AJ rfl rfl (Ab _ _ _ rfl) _ (Bo _ _ _ _ _ rfl) ?_))
  go_end0;exact⟨rfl,(A1.out.1.below ((aA _ _).alloc (aC _) _)).to⟩
 | true=>
  rw[if_pos rfl];by_cases hbk:s.bank=3
  ·rw[if_pos hbk];go_enter aT,aR
   go_wp2_with (first
    | ((with_reducible refine Aw 35 _ rfl ?_);refine AH JT rfl _ rfl w.heap.size 2 rfl _ _ _ (hv x.head) HHS.out h13 HHC.out ?_)
    | (go_at_call 83;refine CL.mono ?_;rintro e w1 ⟨rfl,a1⟩;have A1:Hid _:=a1;clear a1)
    | (((with_reducible refine Ff _ _ rfl ?_);refine Ck rfl _ _ rfl w1.heap.size s AJ rfl rfl (Ab _ _ _ rfl) _ (Bo _ _ _ _ _ rfl) ?_);refine Ak ?_))
   unfold AA;clear CL h13;obtain⟨p6,hp6⟩:=eX w1.heap.size;obtain⟨wz,hwz⟩:=eX (w1.alloc (.cells (Ac s) 102));rw[←hp6, ←hwz];obtain⟨O2,hO2⟩:∃O2:Nat→Prop,O2=fun k=>O1 k∨k=p6:=⟨_,rfl⟩;have M1:Hid (O2 w.heap.size):=by show O2 _;rw[hO2];exact .inl M10.out
   have M2:Hid (O2 p6):=by show O2 _;rw[hO2];exact .inr rfl
   have Bz:Below w1.heap.size w1 wz:=by rw[hwz];exact(aA _ _).alloc (aC _) _
   have A4:Hid (Av B w wz g gt gh gw R n1 r O2):=A1.out.1.more Bz fun k hk=>by
    rw[hO2] at hk;rcases hk with e | rfl
    ·exact .inl e
    ·exact .inr ⟨by rw[hp6];exact aC _,by rw[hwz,Bf,hp6];exact aK _⟩
   have Y4:Hid (wz.heap[p6]?=some (.cells (Ac s) 102 (0,0))):=by show _=_;rw[hwz];exact Ab _ _ _ hp6
   have Z4:Hid (wz.heap[w.heap.size]?=some (.cells (AD x) 112 (0,0))):=by
    have hz:=FIN.out w1 A1.out;exact(Bz.block _ (gS hz)).trans hz
   obtain⟨bk,hbk'⟩:=eX s.bank;have y0:wz.cell? ⟨p6,0,none⟩=some (.int .i64 bk):=by rw[hbk'];have:=(GU Y4.out fun j hj=>by rw[aG]).c0;exact this
   have hbk3:(bk==3)=true:=by rw[hbk'];simpa using hbk
   have h5s:wz.heap[p6]?=some (.cells (Ac s) 102 (0,0)):=Y4.out;have h5x:wz.heap[w.heap.size]?=some (.cells (AD x) 112 (0,0)):=Z4.out;clear hp6 hwz hO2 hbk' Bz hbk A1 FIN A0;have CR:=A4.out.call fun u hu=>Oh B wz g gt gh gw R n1 u hu HI1.out.1 HI1.out.2 x HX.out.1 HX.out.2.1 HX.out.2.2 s
   go_wp2_with (first
    | ((with_reducible refine IJ _ rfl ?_);refine GS rfl _ rfl w.heap.size 0 rfl x (Lt h5x) ?_)
    | ((with_reducible refine Hy _ rfl ?_);refine Dy rfl _ rfl p6 0 rfl s (He h5s) ?_)
    | (go_at_call 86;refine CR.mono ?_;rintro e w7 ⟨rfl,a7⟩;have A7:Hid _:=a7;clear a7))
   go_end0;exact⟨rfl,A7.out.1.to⟩
  ·rw[if_neg hbk];obtain⟨n2,hn2⟩:=eX (Db n1 (BH n1.wait x.seq).1);obtain⟨ok,hok⟩:=eX ((BH n1.wait x.seq).2.isSome);obtain⟨xq,hxq⟩:=eX x.seq;obtain⟨xi,hxi⟩:=eX x.index;obtain⟨ac,hac⟩:=eX s.action;obtain⟨nu,hnu0⟩:=eX n.num;obtain⟨le,hle0⟩:=eX n.lease;obtain⟨be,hbe0⟩:=eX n.beat
   have HNU:Hid ((n1.num=nu∧n1.lease=le∧n1.beat=be)∧n2.num=nu∧n2.lease=le∧n2.beat=be):=by
    show(_∧_∧_)∧_∧_∧_;rw[hnu0,hle0,hbe0,hn2];exact⟨HNU0,HNU0⟩
   have CAx:Hid (∀(W:World) (O:Nat→Prop),Av B w W g gt gh gw R n1 r O→Calls aB 112 #[.pointer (some ⟨gw,0,none⟩),.int .i64 xq] W fun e w'=>(∃y,e=.returned (.tuple #[.agg (AD y),.bool ok]))∧Av B w w' g gt gh gw R n2 r O∧Ec O W w'):=fun W O hW=>
    hW.call (P:=fun e _=> ∃y,e=.returned (.tuple #[.agg (AD y),.bool ok])) fun u hu=>by
     rw[hxq,hn2,hok];exact(Rt B W gw n1.wait u.vw hu.wait HI1.out.1.wait x.seq).mono fun e w' q=>⟨⟨_,q.1⟩,hu.setWaitTo q.2⟩
   have CEx:Hid (∀(W:World) (O:Nat→Prop),Av B w W g gt gh gw R n2 r O→Calls aB 84 #[.pointer (some ⟨g,0,none⟩),.int .i64 xi,.int .i64 ac] W fun e w'=>e=.returned (.tuple #[])∧Av B w w' g gt gh gw R (FC n2 xi ac) r O∧Ec O W w'):=fun W O hW=>
    hW.call fun u hu=>Ms B W g gt gh gw R n2 u hu (by rw[hn2];have:=HI1.out.1.log;have:=HI1.out.2;show n1.log.length≤_;omega) xi ac
   rw[←hn2, ←hxi, ←hac];have HXQ:Hid _:=hxq;have HXI:Hid _:=hxi;have HAC:Hid _:=hac;clear hn2 hok hxq hxi hac hnu0 hle0 hbe0 HNU0;go_enter aT,aR
   go_wp2_with (first
    | ((with_reducible refine Aw 35 _ rfl ?_);refine AH JT rfl _ rfl w.heap.size 2 rfl _ _ _ (hv x.head) HHS.out h13 HHC.out ?_)
    | (go_at_call 83;refine CL.mono ?_;rintro e w1 ⟨rfl,a1⟩;have A1:Hid _:=a1;clear a1)
    | (((with_reducible refine Ff _ _ rfl ?_);refine Ck rfl _ _ rfl w1.heap.size s AJ rfl rfl (Ab _ _ _ rfl) _ (Bo _ _ _ _ _ rfl) ?_);refine Ak ?_))
   unfold AA;clear CL h13;obtain⟨p6,hp6⟩:=eX w1.heap.size;obtain⟨wz,hwz⟩:=eX (w1.alloc (.cells (Ac s) 102));rw[←hp6, ←hwz];obtain⟨O2,hO2⟩:∃O2:Nat→Prop,O2=fun k=>O1 k∨k=p6:=⟨_,rfl⟩;have M1:Hid (O2 w.heap.size):=by show O2 _;rw[hO2];exact .inl M10.out
   have M2:Hid (O2 p6):=by show O2 _;rw[hO2];exact .inr rfl
   have Bz:Below w1.heap.size w1 wz:=by rw[hwz];exact(aA _ _).alloc (aC _) _
   have A4:Hid (Av B w wz g gt gh gw R n1 r O2):=A1.out.1.more Bz fun k hk=>by
    rw[hO2] at hk;rcases hk with e | rfl
    ·exact .inl e
    ·exact .inr ⟨by rw[hp6];exact aC _,by rw[hwz,Bf,hp6];exact aK _⟩
   have Y4:Hid (wz.heap[p6]?=some (.cells (Ac s) 102 (0,0))):=by show _=_;rw[hwz];exact Ab _ _ _ hp6
   have Z4:Hid (wz.heap[w.heap.size]?=some (.cells (AD x) 112 (0,0))):=by
    have hz:=FIN.out w1 A1.out;exact(Bz.block _ (gS hz)).trans hz
   obtain⟨bk,hbk'⟩:=eX s.bank;have y0:wz.cell? ⟨p6,0,none⟩=some (.int .i64 bk):=by rw[hbk'];have:=(GU Y4.out fun j hj=>by rw[aG]).c0;exact this
   have hbk3:(bk==3)=false:=by rw[hbk'];simpa using hbk
   have h5s:wz.heap[p6]?=some (.cells (Ac s) 102 (0,0)):=Y4.out;have h5x:wz.heap[w.heap.size]?=some (.cells (AD x) 112 (0,0)):=Z4.out;clear hp6 hwz hO2 hbk' Bz hbk A1 FIN A0;have A5:Hid (Av B w (aI wz) g gt gh gw R n1 r O2):=A4.out.below (aA _ _).drew;have Z5:Hid _:=Z4.out;have Y5:Hid _:=Y4.out;have CA:Hid _:=fun W (hW:Av B w W g gt gh gw R n1 r O2)=>CAx.out W O2 hW;have CE:Hid _:=fun W (hW:Av B w W g gt gh gw R n2 r O2)=>CEx.out W O2 hW;have HS5:Hid (DN g gt gh gw nu le be (fun W=>W.heap[w.heap.size]?=some (.cells (AD x) 112 (0,0))) (aI wz)):=A5.out.inN HNU.out.1.1 HNU.out.1.2.1 HNU.out.1.2.2 Z5.out;clear h5s h5x;go_wp2_with fail;have e6:∀z:Fu g gt gh gw nu le be (fun W=>W.heap[w.heap.size]?=some (.cells (AD x) 112 (0,0))),z.world.cell? ⟨g,6,none⟩=some (.pointer (some ⟨gw,0,none⟩)):=fun z=>z.c6;have ne9:Nonempty (Fu g gt gh gw nu le be (fun W=>W.heap[w.heap.size]?=some (.cells (AD x) 112 (0,0)))):=by obtain⟨z,_⟩:=HS5.out;exact⟨z⟩
   have f0:∀z:Fu g gt gh gw nu le be (fun W=>W.heap[w.heap.size]?=some (.cells (AD x) 112 (0,0))),z.world.cell? ⟨w.heap.size,0,none⟩=some (.int .i64 xq):=fun z=>by rw[HXQ.out];exact(FO z.x).c0
   refine Ey ?_;refine B8 (DN g gt gh gw nu le be (fun W=>W.heap[w.heap.size]?=some (.cells (AD x) 112 (0,0)))) 7 rfl (by kernel_rfl) ?_;refine rR [0,4,1,5,2,3] 6 1 HS5.out ?_;simp only[pk]
   iterate 6 (go_big_quiet_step (fail))
   refine wpQuiet_nil ?_;refine rO 6 ?_;refine Bm rfl rfl 112 #[.tmp 19,.tmp 21] (by intro b w;have hf:=Tryz.func112;simp[go_sem]) #[.pointer (some ⟨gw,0,none⟩),.int .i64 xq] rfl (fun v w'=> ∃y,v=.tuple #[.agg (AD y),.bool ok]∧Av B w w' g gt gh gw R n2 r O2∧Ec O2 (aI wz) w') ((CA.out (aI wz) A5.out).mono fun e w' h=>by obtain⟨⟨y,rfl⟩,h2⟩:=h;exact⟨_,rfl,y,rfl,h2⟩) (some 22) rfl ?_;rintro v w6 ⟨y,rfl,a6,q6⟩;have A6:Hid _:=a6;have Z6:Hid (w6.heap[w.heap.size]?=some (.cells (AD x) 112 (0,0))):=(q6 _ M1.out).trans Z5.out;have Y6:Hid (w6.heap[p6]?=some (.cells (Ac s) 102 (0,0))):=(q6 _ M2.out).trans Y5.out;clear a6 q6;have I6:Hid (DN g gt gh gw nu le be (fun W=>W.heap[w.heap.size]?=some (.cells (AD x) 112 (0,0))) w6):=A6.out.inN HNU.out.2.1 HNU.out.2.2.1 HNU.out.2.2.2 Z6.out;refine⟨I6.out,?_⟩;simp only[pU];refine rD ?_;refine⟨rfl,?_⟩;have y1:w6.cell? ⟨w.heap.size,1,none⟩=some (.int .i64 xi):=by rw[HXI.out];exact(FO Z6.out).c1
   have y2:w6.cell? ⟨p6,30,none⟩=some (.int .i64 ac):=by rw[HAC.out];have:=(GU Y6.out fun j hj=>by rw[aG]).c30;rw[aG] at this;exact this
   have CE6:=CE.out w6 A6.out;go_wp2_with (go_at_call 84;refine CE6.mono ?_;rintro e w7 ⟨rfl,a7⟩;have A7:Hid _:=a7;clear a7);go_end0;exact⟨rfl,A7.out.1.to⟩
theorem Aks(B:Nat)(w:World)(g:Nat)(m:Be)(v:Value)(h:Dt B w g m v)(hm:Ga m)(i:Int)(L:List Int)(hL:L.length=13)(now:Int)(hlast:m.last<1000000000000):
  Calls aB 85 #[.pointer (some ⟨g,0,none⟩),.int .i64 i,.agg (hv L),.int .i64 now] w fun e w'=>e=.returned (.tuple #[.int .i64 (Fk m i L now).2.1,.int .i64 (Fk m i L now).2.2])∧Nh B w w' g (Fk m i L now).1 v:=by
 obtain⟨w0,hw0⟩:=eX (w.alloc (.cells (hv L) 35));have B0:Below w.heap.size w w0:=by rw[hw0];exact(aA _ _).alloc (aC _) _
 have Z0:w0.heap[w.heap.size]?=some (.cells (hv L) 35 (0,0)):=by rw[hw0];exact Ab _ _ _ rfl
 have h0:=h.below B0;have c4:=h0.f.c4;have c0:=h0.f.c0;have c3:=h0.f.c3;have fz3:=h0.f.fz 3;obtain⟨o,cap,hv0,hc1,hc2⟩:=h.own.slice;have hl64:=hm.len;have hroom:=hm.ok.len;obtain⟨q,hq⟩:=eX m.l.length;rw[←hq] at hv0 hc1 hl64 hroom;have mixed:aB.follows Departure.mixedOrders=true:=by kernel_rfl
 by_cases hfull:(q:Int)=m.room
 ·have e:Fk m i L now=(m,0,13):=by unfold Fk;rw[if_pos (by rw[←hq];exact hfull)]
  rw[e];have HS:Hid (Nh B w w0.drew g m v):=h.stay B0.drew;rw[←hfull] at c0;rw[hw0] at c0 c4 HS;clear e hfull hroom hq h0 h hm c3 fz3 Z0 B0 hw0;subst hv0;go_enter aV,Tryz.ntmps85;go_wp2_with fail;go_region;go_wp2_with fail;go_ret2;exact⟨rfl,HS.out⟩
 ·have e:Fk m i L now=(JM m i L now,(m.last:Int)+1,0):=by unfold Fk;rw[if_neg (by rw[←hq];exact hfull)]
  rw[e];clear e;obtain⟨W8,hW8⟩:=eX (w0.drew.setCell ⟨g,3,none⟩ (.int .i64 ((m.last:Int)+1)));obtain⟨m1,hm1⟩:∃m1:Be,m1={m with last:=m.last+1}:=⟨_,rfl⟩;have hset:=(h0.below (w':=w0.drew) (aA _ _).drew).setC 3 (.int .i64 ((m.last:Int)+1)) m1 (by rw[hm1];unfold MQ;dsimp only;rw[show(((m.last+1:Nat)):Int)=(m.last:Int)+1 by omega];rfl) (by rw[hm1]);rw[←hW8] at hset;obtain⟨hV8,hF8⟩:=hset;have hF8:FQ (EO g v) (EO g v) w W8:=(FQ.of_below (w':=w0.drew) B0.drew).trans hF8;obtain⟨c,hc⟩:∃c:AN,c=⟨(m.last:Int)+1,i,L,1,EH now+m.time⟩:=⟨_,rfl⟩;have hpl:(JM m i L now).l=m.l++[c]:=by rw[hc];rfl
  have hZ8:W8.heap[w.heap.size]?=some (.cells (hv L) 35 (0,0)):=by
   rw[hW8,heap_setCell_other w0.drew ⟨g,3,none⟩ w.heap.size _ (by have:=(h.foot_in g (.inl rfl)).2;show _≠g;omega)];exact Z0
  have ml:m1.l=m.l:=by rw[hm1]
  have HBK:Hid (W8.heap[g]?=some (.cells (MQ m1 v) 157 (0,0))):=hV8.blk;have HZ8:Hid _:=hZ8;have HO:Hid (AU B W8 v m.l):=by have:=hV8.own;rw[ml] at this;exact this
  have HB8:Hid (B≤W8.heap.size):=hV8.hw;have HN:Hid (m.l.length≤100000):=by show _≤_;omega
  have HM:Hid ((MQ m1 v)[2]?=some (.int .i64 m.time)∧(MQ m1 v)[3]?=some (.int .i64 ((m.last:Int)+1))∧(MQ m1 v)[4]?=some v):=by
   rw[hm1];refine⟨rfl,?_,rfl⟩;unfold MQ;dsimp only;rw[show(((m.last+1:Nat)):Int)=(m.last:Int)+1 by omega];rfl
  have HX:Hid (∀W' u,As (BT v) W8 W'→AU B W' u (m.l++[c])→(u.ownBlock=v.ownBlock∨∀k,u.ownBlock=some k→W8.heap.size≤k)→(W'.setCell ⟨g,4,none⟩ u).cell? ⟨g,3,none⟩=some (.int .i64 ((m.last:Int)+1))∧Nh B w (W'.setCell ⟨g,4,none⟩ u) g (JM m i L now) v):=fun W' u hk hu hq=>by
   have hp:=hV8.put (m':=JM m i L now) hk (by rw[hpl];exact hu) hq (by rw[hm1];rfl);have c3:=hp.1.f.c3;rw[show((JM m i L now).last:Int)=(m.last:Int)+1 by unfold JM;dsimp only;omega] at c3;exact⟨c3,u,hp.1,hF8.trans hp.2⟩
  obtain⟨cl,hcl⟩:=eX (EH now);have HC:Hid (∀W,Calls aB 111 #[.int .i64 now] W fun e w'=>e=.returned (.int .i64 cl)∧w'=W):=fun W=>by rw[hcl];exact Rr now W
  have hcb:=XW now;have hti:=hm.ti;have hti1:=hm.ok.time1;rw[←hcl] at hc hcb;obtain⟨hcb1,hcb2⟩:=hcb;have hd0:((q:Int)==m.room)=false:=by simpa using hfull
  have hwr:aP.wrap ((m.last:Int)+1)=(m.last:Int)+1:=by rw[aL];omega
  obtain⟨la,hla⟩:∃la:Int,la=(m.last:Int):=⟨_,rfl⟩;obtain⟨r,hr⟩:=eX m.room;obtain⟨ti,hti0⟩:=eX m.time;rw[←hla] at c3 hW8 hwr HM HX hc ⊢;rw[←hti0] at HM hc hti hti1;rw[←hr] at c0 hd0;have hwt:aP.wrap (cl+ti)=cl+ti:=by rw[aL];omega
  rw[hw0] at c4 c0 c3 fz3 hW8;have HL:Hid _:=hL;have HCE:Hid _:=hc;clear hc hla hti0 hr hcl hcb1 hcb2 hti hti1 hfull hF8 hV8 hZ8 hpl hm1 ml hlast hq hroom hc1 hm h h0 Z0 B0 hw0 hL;subst hv0;go_enter aV,Tryz.ntmps85;go_wp2_with fail;go_region;go_wp2_with fail;rw[show((w.alloc (.cells (hv L) 35)).setCell ⟨g,3,none⟩ (.int .i64 (la+1))).drew=W8 from hW8.symm];clear hW8 c4 c0 c3 fz3 hd0 hwr;refine Aa8 (by exact Nat.le_of_eq rfl) g w.heap.size B L HL.out (la+1) i ti now cl c HCE.out (.slice o q cap) m.l (MQ m1 (.slice o q cap)) rfl rfl rfl rfl HBK.out HM.out.1 HM.out.2.1 HM.out.2.2 HZ8.out HC.out hwt HO.out HB8.out HN.out ?_;intro y w' u hk hr hf;obtain⟨f1,f2⟩:=HX.out w' u hk hr hf;have F2:Hid _:=f2;clear hk hr hf f2;simp only[JB,Ss,List.foldl_cons,List.foldl_nil,Act.put,List.setIfInBounds_toArray,List.set_cons_succ,List.set_cons_zero];go_wp2_with fail;go_ret2;exact⟨rfl,F2.out⟩
set_option maxRecDepth 100000 in
theorem Ach(a b:Int){L:List Int}(hL:L.length=13)(W:World):(Instr.build 112 #[(0,.int .i64 a),(1,.int .i64 b),(2,.agg (hv L)),(3,.int .i64 1)]).run aB W=.ok (.agg (AD ⟨a,b,L,1,0⟩)) W:=by
 rw[Ajk hL];kernel_rfl
theorem Xs(B:Nat)(w:World)(g gt gh gw:Nat)(R:Rm)(n:Af Aq)(r:D0)(h:Cb B w g gt gh gw R n r){M:Nat}(hi:Az M R n)(hM:M≤900000)(ix:Int)(hd:List Int)(hH:AK hd)(now:Int):
  Calls aB 37 #[.pointer (some ⟨g,0,none⟩),.int .i64 ix,.agg (hv hd),.int .i64 now] w fun e w'=>e=.returned (.tuple #[])∧Dl B w w' g gt gh gw R (Cl (Al R) n ix hd now) r:=by
 obtain⟨w0,hw0⟩:=eX (w.alloc (.cells (hv hd) 35));obtain⟨O1,hO1⟩:∃O1:Nat→Prop,O1=fun k=>k=w.heap.size:=⟨_,rfl⟩;have M10:Hid (O1 w.heap.size):=by show O1 _;rw[hO1]
 have B0:Below w.heap.size w w0:=by rw[hw0];exact(aA _ _).alloc (aC _) _
 have Zs:w0.heap.size=w.heap.size+1:=by rw[hw0,Bf]
 have Z0:Hid (w0.heap[w.heap.size]?=some (.cells (hv hd) 35 (0,0))):=by show _=_;rw[hw0];exact Ab _ _ _ rfl
 have A0:Hid (Av B w w0 g gt gh gw R n r O1):=Av.begin h B0 (by rw[hO1];rintro k rfl;exact⟨aC _,by omega⟩);obtain⟨S',hS'⟩:=eX (((Al R).look n.tab now n.hold.use hd).1);obtain⟨s,hs⟩:=eX (((Al R).look n.tab now n.hold.use hd).2.1);obtain⟨b,hb⟩:=eX (((Al R).look n.tab now n.hold.use hd).2.2);have hi1:Az (M+1) R (AX n S'):=by rw[hS'];exact QV hi now n.hold.use hd
 have CL:Hid (∀W,Av B w W g gt gh gw R n r O1→Calls aB 83 #[.pointer (some ⟨g,0,none⟩),.agg (hv hd),.int .i64 now] W fun e w'=>e=.returned (.tuple #[.agg (Ac s),.bool b])∧Av B w w' g gt gh gw R (AX n S') r O1∧Ec O1 W w'):=fun W hW=>by
  rw[hS',hs,hb];exact hW.call fun u hu=>Tb B W g gt gh gw R n u hu hi.tab (by omega) hd hH now
 have CM:=A0.out.ask fun u hu=>Nv B w0 g gt gh gw R n u hu hi.hold now
 have e0:Cl (Al R) n ix hd now=if EC n now=true then (if b=true then (if s.bank=3 then (if (Fk n.wait ix hd now).2.2=0 then Da (Db (AX n S') (Fk n.wait ix hd now).1) (Fk n.wait ix hd now).2.1 ix hd 1 s else Eb (AX n S') ix 3) else FC (AX n S') ix s.action) else Eb (AX n S') ix 6) else Eb n ix 2:=by
  unfold Cl;rw[hS',hs,hb];split
  ·split
   ·rename_i t s' e;rw[e];rfl
   ·rename_i t s' e;rw[e];rfl
  ·rfl
 obtain⟨n1,hn1⟩:=eX (AX n S');rw[←hn1] at hi1 CL e0;have hw1:n1.wait=n.wait:=by rw[hn1];rfl
 have HNU0:n1.num=n.num∧n1.lease=n.lease∧n1.beat=n.beat:=by rw[hn1];exact⟨rfl,rfl,rfl⟩
 rw[←hw1] at e0;obtain⟨my,hmy⟩:=eX (EC n now);rw[←hmy] at CM e0;have CD:Hid (∀W m y,∀ {O:Nat→Prop},Av B w W g gt gh gw R m r O∧m.log.length≤1000000→Calls aB 82 #[.pointer (some ⟨g,0,none⟩),.int .i64 ix,.int .i64 y] W fun e w'=>e=.returned (.tuple #[])∧Av B w w' g gt gh gw R (Eb m ix y) r O∧Ec O W w'):=fun W m y O hW=>hW.1.call fun u hu=>Tt B W g gt gh gw R m u hu hW.2 ix y;have CE:Hid (∀W y,∀ {O:Nat→Prop},Av B w W g gt gh gw R n1 r O→Calls aB 84 #[.pointer (some ⟨g,0,none⟩),.int .i64 ix,.int .i64 y] W fun e w'=>e=.returned (.tuple #[])∧Av B w w' g gt gh gw R (FC n1 ix y) r O∧Ec O W w'):=fun W y O hW=>hW.call fun u hu=>Ms B W g gt gh gw R n1 u hu (by have:=hi1.log;omega) ix y;have HI:Hid (Az M R n∧Az (M+1) R n1∧M≤900000):=⟨hi,hi1,hM⟩;have HHL:Hid _:=hH.1;have HHS:Hid ((hv hd).size=13):=by show _=_;rw[EW];exact hH.1
 have HBY:Hid _:=hH;have hw0':=hw0.symm;have Zs0:Hid _:=Zs;obtain⟨n2,hn2⟩:=eX (Db n1 (Fk n1.wait ix hd now).1);obtain⟨sq,hsq⟩:=eX ((Fk n1.wait ix hd now).2.1);obtain⟨er,her⟩:=eX ((Fk n1.wait ix hd now).2.2);obtain⟨nu,hnu0⟩:=eX n.num;obtain⟨le,hle0⟩:=eX n.lease;obtain⟨be,hbe0⟩:=eX n.beat
 have HNU:Hid ((n1.num=nu∧n1.lease=le∧n1.beat=be)∧n2.num=nu∧n2.lease=le∧n2.beat=be):=by
  show(_∧_∧_)∧_∧_∧_;rw[hnu0,hle0,hbe0,hn2];exact⟨HNU0,HNU0⟩
 have CAx:Hid (∀(W:World) (O:Nat→Prop),Av B w W g gt gh gw R n1 r O→Calls aB 85 #[.pointer (some ⟨gw,0,none⟩),.int .i64 ix,.agg (hv hd),.int .i64 now] W fun e w'=>e=.returned (.tuple #[.int .i64 sq,.int .i64 er])∧Av B w w' g gt gh gw R n2 r O∧Ec O W w'):=fun W O hW=>
  hW.call fun u hu=>by
   rw[hn2,hsq,her];exact(Aks B W gw n1.wait u.vw hu.wait HI.out.2.1.wait ix hd HHL.out now (by have:=HI.out.2.1.last;have:=HI.out.2.2;omega)).mono fun e w' q=>⟨q.1,hu.setWaitTo q.2⟩
 have hi2:Az (M+1+1) R n2:=by
  rw[hn2];obtain⟨q1,q2,q3⟩:=Afs HI.out.2.1 ix HBY.out now;exact Kt HI.out.2.1 q1 q2 q3
 have hsq1:Ch sq:=by
  rw[hsq];unfold Fk;split
  ·exact Dg
  ·have:=HI.out.2.1.last;have:=HI.out.2.2;exact⟨by show(0:Int)≤(n1.wait.last:Int)+1;omega,by show(n1.wait.last:Int)+1≤_;omega⟩
 have CR:Hid (∀(W:World) (O:Nat→Prop),Av B w W g gt gh gw R n2 r O→Calls aB 86 #[.pointer (some ⟨g,0,none⟩),.agg (AD ⟨sq,ix,hd,1,0⟩),.agg (Ac s)] W fun e w'=>e=.returned (.tuple #[])∧Av B w w' g gt gh gw R (Da n2 sq ix hd 1 s) r O∧Ec O W w'):=fun W O hW=>
  hW.call fun u hu=>Oh B W g gt gh gw R n2 u hu hi2 (by have:=HI.out.2.2;omega) ⟨sq,ix,hd,1,0⟩ HBY.out hsq1 (by show(0:Int)≤1;decide) s
 have hlog2:n1.log.length≤1000000∧(er≠0→n2=n1):=by
  refine⟨by have:=HI.out.2.1.log;have:=HI.out.2.2;omega,fun he=> ?_⟩;rw[hn2];unfold Fk;split
  ·rfl
  ·rename_i hc;exfalso;apply he;rw[her];unfold Fk;rw[if_neg hc]
 have HL2:Hid _:=hlog2;rw[←hn2, ←hsq, ←her] at e0;have HE0:Hid _:=e0;clear e0 hS' hs hb hn1 hw1 hmy hi hi1 hM hH hw0 B0 Zs h hO1 hn2 hsq her hnu0 hle0 hbe0 HNU0 hi2 hsq1 hlog2;go_enter Tryz.func37,Tryz.ntmps37;go_wp2_with (go_at_call 59;refine CM.mono ?_;rintro e wm ⟨rfl,bm⟩;have BM:Hid _:=bm;clear bm CM;refine Ak ?_);unfold AA
 cases my
 focus
  have AM:Hid _:=A0.out.below BM.out;have CD1:=CD.out wm n 2 ⟨AM.out,by have:=HI.out.1.log;have:=HI.out.2.2;omega⟩;go_wp2_with (go_at_call 82;refine CD1.mono ?_;rintro e w7 ⟨rfl,a7⟩;have A7:Hid _:=a7;clear a7)
  first | go_end0 | refine bodyPost_ret (results_none rfl _ _ _) rfl ?_
  exact⟨rfl,by rw[HE0.out,if_neg (by decide)];exact A7.out.1.to⟩
 have AM:Hid _:=A0.out.below BM.out;have ZM:wm.heap[w.heap.size]?=some (.cells (hv hd) 35 (0,0)):=(BM.out.block _ (by rw[Zs0.out];exact aK _)).trans Z0.out;have CL1:=CL.out wm AM.out
 go_wp2_with (first
  | (go_at_call 83;refine CL1.mono ?_;rintro e w1 ⟨rfl,a1⟩;have A1:Hid _:=a1;clear a1 CL1)
  | ((with_reducible refine Aw 35 _ rfl ?_);refine AH JT rfl _ rfl w.heap.size 0 rfl _ _ _ (hv hd) HHS.out ZM (Ar _ _) ?_)
  | (((with_reducible refine Ff _ _ rfl ?_);refine Ck rfl _ _ rfl w1.heap.size s AJ rfl rfl (Ab _ _ _ rfl) _ (Bo _ _ _ _ _ rfl) ?_);refine Ak ?_))
 unfold AA;obtain⟨p6,hp6⟩:=eX w1.heap.size;obtain⟨wz,hwz⟩:=eX (w1.alloc (.cells (Ac s) 102));rw[←hp6, ←hwz];obtain⟨O2,hO2⟩:∃O2:Nat→Prop,O2=fun k=>O1 k∨k=p6:=⟨_,rfl⟩;have M1:Hid (O2 w.heap.size):=by show O2 _;rw[hO2];exact .inl M10.out
 have M2:Hid (O2 p6):=by show O2 _;rw[hO2];exact .inr rfl
 have Bz:Below w1.heap.size w1 wz:=by rw[hwz];exact(aA _ _).alloc (aC _) _
 have A4:Hid (Av B w wz g gt gh gw R n1 r O2):=A1.out.1.more Bz fun k hk=>by
  rw[hO2] at hk;rcases hk with e | rfl
  ·exact .inl e
  ·exact .inr ⟨by rw[hp6];exact aC _,by rw[hwz,Bf,hp6];exact aK _⟩
 have Y4:Hid (wz.heap[p6]?=some (.cells (Ac s) 102 (0,0))):=by show _=_;rw[hwz];exact Ab _ _ _ hp6
 have Z4:Hid (wz.heap[w.heap.size]?=some (.cells (hv hd) 35 (0,0))):=by
  have hz:=(A1.out.2 _ M10.out).trans ZM;exact(Bz.block _ (gS hz)).trans hz
 clear hp6 hwz hO2 Bz A1 ZM
 cases b
 focus
  have CD1:=CD.out wz n1 6 ⟨A4.out,by have:=HI.out.2.1.log;have:=HI.out.2.2;omega⟩;go_wp2_with (go_at_call 82;refine CD1.mono ?_;rintro e w7 ⟨rfl,a7⟩;have A7:Hid _:=a7;clear a7)
  first | go_end0 | refine bodyPost_ret (results_none rfl _ _ _) rfl ?_
  exact⟨rfl,by rw[HE0.out,if_pos trivial,if_neg (by decide)];exact A7.out.1.to⟩
 by_cases hbk:s.bank=3
 rotate_left
 focus
  have HBK:Hid _:=hbk;obtain⟨bk,hbk'⟩:=eX s.bank;have y0:wz.cell? ⟨p6,0,none⟩=some (.int .i64 bk):=by rw[hbk'];have:=(GU Y4.out fun j hj=>by rw[aG]).c0;exact this
  have hbk3:(bk==3)=false:=by rw[hbk'];simpa using hbk
  clear hbk' hbk;have y30:wz.cell? ⟨p6,30,none⟩=some (.int .i64 s.action):=by have:=(GU Y4.out fun j hj=>by rw[aG]).c30;rw[aG] at this;exact this
  have CE1:=CE.out wz s.action A4.out;go_wp2_with (go_at_call 84;refine CE1.mono ?_;rintro e w7 ⟨rfl,a7⟩;have A7:Hid _:=a7;clear a7)
  first | go_end0 | refine bodyPost_ret (results_none rfl _ _ _) rfl ?_
  exact⟨rfl,by rw[HE0.out,if_pos trivial,if_pos trivial,if_neg HBK.out];exact A7.out.1.to⟩
 have HBK:Hid _:=hbk;obtain⟨bk,hbk'⟩:=eX s.bank;have y0:wz.cell? ⟨p6,0,none⟩=some (.int .i64 bk):=by rw[hbk'];have:=(GU Y4.out fun j hj=>by rw[aG]).c0;exact this
 have hbk3:(bk==3)=true:=by rw[hbk'];simpa using hbk
 clear hbk' hbk;have A5:Hid (Av B w (aI wz) g gt gh gw R n1 r O2):=A4.out.below (aA _ _).drew;have Z5:Hid _:=Z4.out;have Y5:Hid _:=Y4.out;have CA:Hid _:=fun W (hW:Av B w W g gt gh gw R n1 r O2)=>CAx.out W O2 hW;have HS5:Hid (DN g gt gh gw nu le be (fun W=>W.heap[w.heap.size]?=some (.cells (hv hd) 35 (0,0))) (aI wz)):=A5.out.inN HNU.out.1.1 HNU.out.1.2.1 HNU.out.1.2.2 Z5.out;go_wp2_with fail;clear y0;have e6:∀z:Fu g gt gh gw nu le be (fun W=>W.heap[w.heap.size]?=some (.cells (hv hd) 35 (0,0))),z.world.cell? ⟨g,6,none⟩=some (.pointer (some ⟨gw,0,none⟩)):=fun z=>z.c6;have ne9:Nonempty (Fu g gt gh gw nu le be (fun W=>W.heap[w.heap.size]?=some (.cells (hv hd) 35 (0,0)))):=by obtain⟨z,_⟩:=HS5.out;exact⟨z⟩
 refine Ey ?_;refine B8 (DN g gt gh gw nu le be (fun W=>W.heap[w.heap.size]?=some (.cells (hv hd) 35 (0,0)))) 13 rfl (by kernel_rfl) ?_;refine rR [0,4,5,6,1,2,3] 7 6 HS5.out ?_;simp only[pk];go_big_quiet_step (fail);go_big_quiet_step (fail);refine KL rfl 35 _ rfl w.heap.size rfl 35 (hv hd) (0,0) _ (fun w' h=>by obtain⟨z,rfl⟩:=h;exact z.x) Tryz.underlying35 rfl (KE hd HHL.out) ?_;simp only[pU]
 iterate 4 (go_big_quiet_step (fail))
 refine wpQuiet_nil ?_;refine rO 7 ?_;refine Bm rfl rfl 85 #[.tmp 45,.tmp 46,.tmp 47,.tmp 48] (by intro b w;have hf:=aV;simp[go_sem]) #[.pointer (some ⟨gw,0,none⟩),.int .i64 ix,.agg (hv hd),.int .i64 now] rfl (fun v w'=>v=.tuple #[.int .i64 sq,.int .i64 er]∧Av B w w' g gt gh gw R n2 r O2∧Ec O2 (aI wz) w') ((CA.out (aI wz) A5.out).mono fun e w' h=>⟨_,h.1,rfl,h.2⟩) (some 49) rfl ?_;rintro v w6 ⟨rfl,a6,q6⟩;have A6:Hid _:=a6;have Z6:Hid (w6.heap[w.heap.size]?=some (.cells (hv hd) 35 (0,0))):=(q6 _ M1.out).trans Z5.out;have Y6:Hid (w6.heap[p6]?=some (.cells (Ac s) 102 (0,0))):=(q6 _ M2.out).trans Y5.out;clear a6 q6;have I6:Hid (DN g gt gh gw nu le be (fun W=>W.heap[w.heap.size]?=some (.cells (hv hd) 35 (0,0))) w6):=A6.out.inN HNU.out.2.1 HNU.out.2.2.1 HNU.out.2.2.2 Z6.out;refine⟨I6.out,?_⟩;simp only[pU];refine rR [8,9,10,11,12] 5 0 I6.out ?_;simp only[pk]
 iterate 5 (go_big_quiet_step (fail))
 refine wpQuiet_nil ?_;refine rD ?_;refine⟨rfl,?_⟩;by_cases her0:er=0
 focus
  have HR0:Hid _:=her0;have hne:(er !=0)=false:=by simpa using her0
  clear her0;have h6x:w6.heap[w.heap.size]?=some (.cells (hv hd) 35 (0,0)):=Z6.out;have h6s:w6.heap[p6]?=some (.cells (Ac s) 102 (0,0)):=Y6.out;have CR1:=CR.out w6 O2 A6.out
  go_wp2_with (first
   | ((with_reducible refine Aw 35 _ rfl ?_);refine AH JT rfl _ rfl w.heap.size 0 rfl _ _ _ (hv hd) HHS.out h6x (Ar _ _) ?_)
   | ((with_reducible refine Cy 112 _ rfl ?_);refine Ll rfl _ _ rfl #[(0,.int .i64 sq),(1,.int .i64 ix),(2,.agg (hv hd)),(3,.int .i64 1)] (by simp only[List.map_toArray,List.map_cons,List.map_nil];rfl) _ (Ach sq ix HHL.out _) ?_)
   | ((with_reducible refine Hy _ rfl ?_);refine Dy rfl _ rfl p6 0 rfl s (He h6s) ?_)
   | (go_at_call 86;refine CR1.mono ?_;rintro e w7 ⟨rfl,a7⟩;have A7:Hid _:=a7;clear a7))
  go_end0;exact⟨rfl,by rw[HE0.out,if_pos trivial,if_pos trivial,if_pos HBK.out,if_pos HR0.out];exact A7.out.1.to⟩
 have HR0:Hid _:=her0;have hne:(er !=0)=true:=by simpa using her0
 have HE2:Hid (n2=n1):=HL2.out.2 her0;clear her0;have CD1:=CD.out w6 n1 3 ⟨by have:=A6.out;rw[HE2.out] at this;exact this,HL2.out.1⟩;go_wp2_with (go_at_call 82;refine CD1.mono ?_;rintro e w7 ⟨rfl,a7⟩;have A7:Hid _:=a7;clear a7)
 first | go_end0 | refine bodyPost_ret (results_none rfl _ _ _) rfl ?_
 exact⟨rfl,by rw[HE0.out,if_pos trivial,if_pos trivial,if_pos HBK.out,if_neg HR0.out];exact A7.out.1.to⟩
theorem Av.kept{B:Nat}{w W:World}{g gt gh gw:Nat}{R:Rm}{n':Af Aq}{r:D0}{O:Nat→Prop}(a:Av B w W g gt gh gw R n' r O):As (DL g gt gh gw r) w W:=by
 obtain⟨u,_,h,_⟩:=a;exact h.kept
theorem XL(y:Int):∀(L:List AN) (n:Af Aq),(L.foldl (fun n x=>Eb n x.index y) n).log.length=n.log.length+L.length
 | [],_=>rfl
 | x::L,n=>by
  show(L.foldl _ (Eb n x.index y)).log.length=_
  rw[XL y L]
  show(n.log++_).length+_=_
  rw[aH,List.length_singleton,List.length_cons]
  omega
theorem Qo{α β:Type}(f:β→α→β)(b:β){l:List α}{k:Nat}{x:α}(h:l[k]?=some x):(l.take (k+1)).foldl f b=f ((l.take k).foldl f b) x:=by
 rw[aJ,h,List.foldl_append];rfl
theorem L6(B:Nat)(w:World)(g gt gh gw:Nat)(R:Rm)(n:Af Aq)(r:D0)(h:Cb B w g gt gh gw R n r)(B':Nat)(v:Value)(L:List AN)(hn:n.log.length+L.length≤1000000)(hv:AU B' w v L)(hX:∀k,v.ownBlock=some k→¬DL g gt gh gw r k)(y:Int):
  Calls aB 75 #[.pointer (some ⟨g,0,none⟩),v,.int .i64 y] w fun e w'=>e=.returned (.tuple #[])∧Dl B w w' g gt gh gw R (L.foldl (fun n x=>Eb n x.index y) n) r:=by
 obtain⟨o,cap,hv0,hc1,hc2⟩:=hv.slice;obtain⟨q,hq⟩:=eX L.length;rw[←hq] at hv0 hc1 hn;have HV:Hid (∀W,As (DL g gt gh gw r) w W→AU B' W v L):=fun W hW=>hv.kept hW hX;have HS0:Hid (Av B w w g gt gh gw R ((L.take 0).foldl (fun n x=>Eb n x.index y) n) r fun _=>False):=Av.begin h (aA _ _) fun k e=>e.elim
 have CD:Hid (∀W k x,k<q→Av B w W g gt gh gw R ((L.take k).foldl (fun n x=>Eb n x.index y) n) r (fun _=>False)→Calls aB 82 #[.pointer (some ⟨g,0,none⟩),.int .i64 x,.int .i64 y] W fun e w'=>e=.returned (.tuple #[])∧Av B w w' g gt gh gw R (Eb ((L.take k).foldl (fun n x=>Eb n x.index y) n) x y) r (fun _=>False)∧Ec (fun _=>False) W w'):=fun W k x hk hW=>
  hW.call fun u hu=>Tt B W g gt gh gw R _ u hu (by rw[XL,List.length_take];omega) x y
 have HQ:Hid _:=hq;unfold maxLen at hc2;clear hv hX hn h hq;subst hv0;go_enter Tryz.func75,Tryz.ntmps75;go_wp2_with fail;go_loopw [10] (fun s10 wr=> ∃k:Nat,k≤q∧s10=.int .i64 (k:Int)∧Hid (Av B w wr g gt gh gw R ((L.take k).foldl (fun n x=>Eb n x.index y) n) r fun _=>False)) (fun s10 _=>q-(intOf s10).toNat)
 case atStart=>exact⟨0,Nat.zero_le _,rfl,HS0⟩
 case round=>
  obtain⟨k,hk,rfl,HK⟩:=hrel;by_cases hlt:k<q
  case neg=>
   have hlt':¬(k:Int)<(q:Int):=by omega
   have HT:Hid (L.take k=L):=by show _=_;exact aQ (by have:=HQ.out;omega)
   go_wp2_with fail;go_end0;have:=HK.out.to;rw[HT.out] at this;exact⟨rfl,this⟩
  have hlt':(k:Int)<(q:Int):=by omega
  obtain⟨gb,off,cur,ty,fr,x,rfl,hgb,hcc,hxa⟩:=(HV.out wr HK.out.kept).sl.at k hlt;have LD:Hid ((loadVar 112 ⟨gb,off+k*17,none⟩).run aB wr=.ok (.agg (AD x)) wr):=On hgb hcc;obtain⟨xi,hxi⟩:=eX x.index;have HXI:Hid _:=hxi;have HXA:Hid _:=hxa;obtain⟨wx,hwx⟩:=eX (wr.alloc (.cells (AD x) 112));have KX:Hid (Av B w wx g gt gh gw R ((L.take k).foldl (fun n x=>Eb n x.index y) n) r fun _=>False):=HK.out.below (by rw[hwx];exact(aA _ _).alloc (aC _) _);have c1:wx.cell? ⟨wr.heap.size,1,none⟩=some (.int .i64 xi):=by rw[hwx,hxi];exact(FO (Ab _ _ _ rfl)).c1
  have CD1:=CD.out wx k xi hlt KX.out;have SRx:(wr.alloc (.cells (AD C9) 112)).setRow wr.heap.size (AD x)=wx:=by rw[hwx];exact Bo _ _ _ _ _ rfl
  clear hgb hcc hxa hwx hxi
  go_wp2_with (first
   | ((with_reducible refine IJ _ rfl ?_);refine GS rfl _ rfl gb (off+k*17) rfl x LD.out ?_)
   | (((with_reducible refine Oc _ _ rfl ?_);refine Kg rfl _ _ rfl wr.heap.size x C9 rfl rfl (Ab _ _ _ rfl) _ SRx ?_);refine Ak ?_))
  unfold AA;clear SRx;go_wp2_with (go_at_call 82;refine CD1.mono ?_;rintro e w2 ⟨rfl,a2⟩;have A2:Hid _:=a2;clear a2);go_roundw
  case rel=>
   refine⟨k+1,by omega,by go_num,?_⟩;show Av _ _ _ _ _ _ _ _ _ _ _;rw[Qo _ _ HXA.out, ←HXI.out];exact A2.out.1
  case measure=>simp[intOf];omega
theorem Aom{m:Be}{now:Int}{l:List AN}{k:Nat}{x:AN}(h:l[k]?=some x)(hd:Ex now x=false):
  (l.take (k+1)).filterMap (Ce m now)=(l.take k).filterMap (Ce m now)++[x]∧((l.take (k+1)).filter fun x=>Ex now x&&DF m x).map (Ik m now)=((l.take k).filter fun x=>Ex now x&&DF m x).map (Ik m now)∧((l.take (k+1)).filter fun x=>Ex now x&& !(DF m x))=(l.take k).filter fun x=>Ex now x&& !(DF m x):=by
 have e:Ce m now x=some x:=by unfold Ce;rw[hd];rfl
 rw[aJ,h,aO,aM,aD,aD];refine⟨?_,?_,?_⟩
 ·rw[aN,e];rfl
 ·simp[hd]
 ·simp[hd]
theorem Alr{m:Be}{now:Int}{l:List AN}{k:Nat}{x:AN}(h:l[k]?=some x)(hd:Ex now x=true)(hm:DF m x=true):
  (l.take (k+1)).filterMap (Ce m now)=(l.take k).filterMap (Ce m now)++[Ik m now x]∧((l.take (k+1)).filter fun x=>Ex now x&&DF m x).map (Ik m now)=((l.take k).filter fun x=>Ex now x&&DF m x).map (Ik m now)++[Ik m now x]∧((l.take (k+1)).filter fun x=>Ex now x&& !(DF m x))=(l.take k).filter fun x=>Ex now x&& !(DF m x):=by
 have e:Ce m now x=some (Ik m now x):=by unfold Ce;rw[hd,hm];rfl
 rw[aJ,h,aO,aM,aD,aD];refine⟨?_,?_,?_⟩
 ·rw[aN,e];rfl
 ·simp[hd,hm]
 ·simp[hd,hm]
theorem Als{m:Be}{now:Int}{l:List AN}{k:Nat}{x:AN}(h:l[k]?=some x)(hd:Ex now x=true)(hm:DF m x=false):
  (l.take (k+1)).filterMap (Ce m now)=(l.take k).filterMap (Ce m now)∧((l.take (k+1)).filter fun x=>Ex now x&&DF m x).map (Ik m now)=((l.take k).filter fun x=>Ex now x&&DF m x).map (Ik m now)∧((l.take (k+1)).filter fun x=>Ex now x&& !(DF m x))=((l.take k).filter fun x=>Ex now x&& !(DF m x))++[x]:=by
 have e:Ce m now x=none:=by unfold Ce;rw[hd,hm];rfl
 rw[aJ,h,aO,aM,aD,aD];refine⟨?_,?_,?_⟩
 ·rw[aN,e];simp
 ·simp[hd,hm]
 ·simp[hd,hm]
structure ES(B:Nat)(w:World)(s t u:Value)(S T U:List AN):Prop where
 a:AU B w s S
 b:AU B w t T
 c:AU B w u U
 ab:Fe s.ownBlock t.ownBlock
 ac:Fe s.ownBlock u.ownBlock
 bc:Fe t.ownBlock u.ownBlock
theorem ES.below{B:Nat}{w w':World}{s t u:Value}{S T U:List AN}(h:ES B w s t u S T U)(hb:Below w.heap.size w w'):ES B w' s t u S T U:=⟨h.a.below hb,h.b.below hb,h.c.below hb,h.ab,h.ac,h.bc⟩
theorem Kw{B:Nat}{w:World}{s s' t:Value}{T:List AN}(h:Fe s.ownBlock t.ownBlock)(hT:AU B w t T)(hs:s'.ownBlock=s.ownBlock∨s'.ownBlock=some w.heap.size):Fe s'.ownBlock t.ownBlock:=by
 rcases hs with e | e
 ·rw[e];exact h
 ·cases ht:t.ownBlock with
  | none=>exact .inr (.inl rfl)
  | some k=>
   refine .inr (.inr fun e'=> ?_);have:=(hT.lt k ht).2;rw[e] at e';have:=Option.some.inj e';omega
theorem JG{B:Nat}{w w':World}{s t:Value}{T:List AN}(hT:AU B w t T)(hg:w.grownBy w' s.ownBlock)(h:Fe s.ownBlock t.ownBlock):AU B w' t T:=hT.kept (As.of_grown (X:=BT s) hg fun _ e=>e) fun k e e'=>h.ne k e' e
theorem ES.app1{B:Nat}{w w':World}{s s' t u:Value}{S S' T U:List AN}(h:ES B w s t u S T U)(ha:AU B w' s' S')(hg:w.grownBy w' s.ownBlock)(hs:s'.ownBlock=s.ownBlock∨s'.ownBlock=some w.heap.size):ES B w' s' t u S' T U:=
 ⟨ha,JG h.b hg h.ab,JG h.c hg h.ac,Kw h.ab h.b hs,Kw h.ac h.c hs,h.bc⟩
theorem ES.app2{B:Nat}{w w':World}{s t t' u:Value}{S T T' U:List AN}(h:ES B w s t u S T U)(ha:AU B w' t' T')(hg:w.grownBy w' t.ownBlock)(hs:t'.ownBlock=t.ownBlock∨t'.ownBlock=some w.heap.size):ES B w' s t' u S T' U:=
 ⟨JG h.a hg h.ab.symm,ha,JG h.c hg h.bc,(Kw h.ab.symm h.a hs).symm,h.ac,Kw h.bc h.c hs⟩
theorem ES.app3{B:Nat}{w w':World}{s t u u':Value}{S T U U':List AN}(h:ES B w s t u S T U)(ha:AU B w' u' U')(hg:w.grownBy w' u.ownBlock)(hs:u'.ownBlock=u.ownBlock∨u'.ownBlock=some w.heap.size):ES B w' s t u' S T U':=
 ⟨JG h.a hg h.ac.symm,JG h.b hg h.bc.symm,ha,h.ab,(Kw h.ac.symm h.a hs).symm,(Kw h.bc.symm h.b hs).symm⟩
theorem ES.nil(B:Nat)(w:World):ES B w (.slice none 0 0) (.slice none 0 0) (.slice none 0 0) [] [] []:=⟨AU.nil _ _,AU.nil _ _,AU.nil _ _,.inl rfl,.inl rfl,.inl rfl⟩
theorem LC{B:Nat}{w w1 w':World}{s:Value}{S:List AN}(hb:Below B w w1)(hB:B≤w1.heap.size)(hg:w1.grownBy w' s.ownBlock)(hs:AU B w1 s S):Below B w w':=hb.trans ((aA _ _).grown hg hB fun _ hk=>(hs.lt _ hk).1)
theorem Add(B:Nat)(w:World)(g:Nat)(m:Be)(v:Value)(h:Dt B w g m v)(hm:Ga m)(now:Int):
  Calls aB 73 #[.pointer (some ⟨g,0,none⟩),.int .i64 now] w fun e w'=> ∃a b u,e=.returned (.tuple #[a,b])∧ES w.heap.size w' u a b (Dc m now).l (Cv m now) (EE m now)∧Dt B w' g (Dc m now) u∧FQ (EO g v) (EO g u) w w':=by
 have HC:Hid (∀W,Calls aB 111 #[.int .i64 now] W fun e w'=>e=.returned (.int .i64 (EH now))∧w'=W):=fun W=>Rr now W;obtain⟨cl,hcl⟩:=eX (EH now);obtain⟨tr,htr⟩:=eX m.tries;obtain⟨ti,hti⟩:=eX m.time;obtain⟨o,cap,hv,hc1,hc2⟩:=h.own.slice;have hl64:=hm.len;obtain⟨q,hq⟩:=eX m.l.length;rw[←hq] at hv hc1 hl64;have HQ:Hid _:=hq
 have HF:Hid (∀W,Below w.heap.size w W→W.cell? ⟨g,4,none⟩=some v∧W.cell? ⟨g,1,none⟩=some (.int .i64 tr)∧W.cell? ⟨g,2,none⟩=some (.int .i64 ti)∧W.frozen? ⟨g,4,none⟩=false∧Ee Js AD W v m.l):=fun W hb=>by
  rw[htr,hti];exact⟨(h.below hb).f.c4,(h.below hb).f.c1,(h.below hb).f.c2,(h.below hb).f.fz _,(h.below hb).own.sl⟩
 have HX:Hid (∀W s t u,Below w.heap.size w W→ES w.heap.size W s t u (Dc m now).l (Cv m now) (EE m now)→ES w.heap.size (W.setCell ⟨g,4,none⟩ s) s t u (Dc m now).l (Cv m now) (EE m now)∧Dt B (W.setCell ⟨g,4,none⟩ s) g (Dc m now) s∧FQ (EO g v) (EO g s) w (W.setCell ⟨g,4,none⟩ s)):=fun W s t u hb hr=>by
  have hp:=h.put (m':=Dc m now) (u:=s) (As.of_below hb) (hr.a.base h.hw) (.inr fun k e=>(hr.a.lt k e).1) rfl;have hK2:As (Cq g) W (W.setCell ⟨g,4,none⟩ s):=⟨rfl,rfl,rfl,by simp[aW],fun k _ e=>heap_setCell_other W ⟨g,4,none⟩ k _ e⟩
  have ng:∀ {y:Value} {Y:List AN},AU w.heap.size W y Y→∀(k:Nat),y.ownBlock=some k→¬Cq g k:=fun hy k e e'=>by
   unfold Cq at e';have:=(hy.lt k e).1;have:=(h.foot_in g (.inl rfl)).2;omega
  exact⟨⟨hr.a.kept hK2 (ng hr.a),hr.b.kept hK2 (ng hr.b),hr.c.kept hK2 (ng hr.c),hr.ab,hr.ac,hr.bc⟩,hp⟩
 have HL:Hid (∀x∈m.l,1≤x.sent∧x.sent≤9):=fun x hx=>by have:=hm.ok.sent x hx;have:=hm.t8;omega
 have HCB:Hid (0≤cl∧cl≤1099511627776∧1≤ti∧ti≤1000):=by
  have h1:=XW now;have h2:=hm.ok.time1;have h3:=hm.ti;rw[←hcl] at h1;rw[←hti] at h2 h3;exact⟨h1.1,h1.2,h2,h3⟩
 have HDU:Hid (∀x,Ex now x=decide (x.due≤cl)):=fun x=>by unfold Ex;rw[←hcl]
 have HMO:Hid (∀x,DF m x=decide (x.sent≤tr)):=fun x=>by unfold DF;rw[←htr]
 have HAS:Hid (∀x,Ik m now x={x with sent:=x.sent+1,due:=cl+ti}):=fun x=>by unfold Ik;rw[←hcl, ←hti]
 have HGS:Hid (g<w.heap.size):=(h.foot_in g (.inl rfl)).2;have HT:Hid ((Dc m now).l=m.l.filterMap (Ce m now)):=rfl;have HA:Hid (Cv m now=(m.l.filter fun x=>Ex now x&&DF m x).map (Ik m now)):=rfl;have HG:Hid (EE m now=m.l.filter fun x=>Ex now x&& !(DF m x)):=rfl;rw[←hcl] at HC;unfold maxLen at hc2;clear h hm hq hcl htr hti;subst hv;have HB0:Hid (Below w.heap.size w w):=aA _ _;obtain⟨c4,_,_,_,_⟩:=HF.out w HB0.out;go_enter Tryz.func73,Tryz.ntmps73;go_wp2_with (go_at_call 111;refine(HC.out _).mono ?_;rintro e w1 ⟨rfl,h1⟩;have h1:=h1.symm;subst h1);go_loopw [6,7,8,20] (fun s6 s7 s8 s20 wr=> ∃(k:Nat) (S A G:List AN),k≤q∧s20=.int .i64 (k:Int)∧Hid (S=(m.l.take k).filterMap (Ce m now)∧A=((m.l.take k).filter fun x=>Ex now x&&DF m x).map (Ik m now)∧G=(m.l.take k).filter fun x=>Ex now x&& !(DF m x))∧Hid (S.length≤k∧A.length≤k∧G.length≤k)∧ES w.heap.size wr s6 s7 s8 S A G∧Below w.heap.size w wr) (fun _ _ _ s20 _=>q-(intOf s20).toNat)
 case atStart=>exact⟨0,[],[],[],Nat.zero_le _,rfl,by show _∧_∧_;simp,by show _∧_∧_;simp,ES.nil _ _,HB0.out⟩
 case round=>
  obtain⟨k,S,A,G,hk,rfl,HS,HN,hr,hb⟩:=hrel;have HR:Hid _:=hr;have HB:Hid _:=hb;obtain⟨c4,c1,c2,fz4,hgs⟩:=HF.out wr hb;by_cases hlt:k<q
  ·have hlt':(k:Int)<(q:Int):=by omega
   obtain⟨g',off,cur,ty,fr,x,rfl,hg,hcc,hxk⟩:=hgs.at k hlt;have LD:(loadVar 112 ⟨g',off+k*17,none⟩).run aB wr=.ok (.agg (AD x)) wr:=On hg hcc;obtain⟨w1,hw1⟩:=eX (wr.alloc (.cells (AD x) 112));have B1w:Below wr.heap.size wr w1:=by rw[hw1];exact(aA _ _).alloc (aC _) _
   have B1:Hid _:=HB.out.trans (B1w.mono HB.out.size);have R1:Hid _:=HR.out.below B1w;have A1:w1.heap[wr.heap.size]?=some (.cells (AD x) 112 (0,0)):=by rw[hw1];exact Ab _ _ _ rfl
   have f3:=(FO A1).c3;have f4:=(FO A1).c4;have z3:w1.frozen? ⟨wr.heap.size,15,none⟩=false:=FZ A1 rfl;have z4:w1.frozen? ⟨wr.heap.size,16,none⟩=false:=FZ A1 rfl;have HA1:Hid _:=A1;have HXK:Hid _:=hxk;have SR:(wr.alloc (.cells (AD C9) 112)).setRow wr.heap.size (AD x)=w1:=by rw[hw1];exact Bo _ _ _ _ _ rfl
   obtain⟨d1,d2⟩:=HL.out x (List.mem_of_getElem? hxk);obtain⟨b1,b2,b3,b4⟩:=HCB.out;obtain⟨xs,hxs⟩:=eX x.sent;obtain⟨xd,hxd⟩:=eX x.due;have HXS:Hid (xs=x.sent∧xd=x.due):=⟨hxs,hxd⟩;rw[←hxs] at d1 d2 f3;rw[←hxd] at f4;have hw1':aP.wrap (xs+1)=xs+1:=by rw[aL];omega
   have hw2':aP.wrap (cl+ti)=cl+ti:=by rw[aL];omega
   obtain⟨k4,k1,k2,_,_⟩:=HF.out w1 B1.out;have HW1:Hid _:=hw1;clear hr hb hgs hg hcc hxk A1 hw1 d1 d2 b1 b2 b3 b4 hxs hxd B1w
   go_wp2_with (first
    | ((with_reducible refine Ad2 rfl ?_);refine UH rfl rfl ?_;try rw[Je])
    | ((with_reducible refine IJ _ rfl ?_);refine GS rfl _ rfl g' (off+k*17) rfl x LD ?_)
    | (((with_reducible refine Oc _ _ rfl ?_);refine Kg rfl _ _ rfl wr.heap.size x C9 rfl rfl (Ab _ _ _ rfl) _ SR ?_);refine Ak ?_))
   unfold AA;clear LD SR c4 c1 c2 fz4;have LX:=Lt HA1.out;by_cases hdue:xd>cl
   ·have HDN:Hid (Ex now x=false):=by
     show _=_;rw[HDU.out, ←HXS.out.2];simpa using hdue
    obtain⟨w2,hw2⟩:=eX (w1.alloc (.cells (AD x) 112));have b2:Below w1.heap.size w1 w2:=by rw[hw2];exact(aA _ _).alloc (aC _) _
    have B2:Hid _:=B1.out.trans (b2.mono B1.out.size);have R2:Hid _:=R1.out.below b2;have N2:w2.heap[w1.heap.size]?=some (.cells (AD x) 112 (0,0)):=by rw[hw2];exact Ab _ _ _ rfl
    have HW2:Hid _:=hw2;clear hw2 b2
    go_wp2_with (first
     | ((with_reducible refine IJ _ rfl ?_);refine GS rfl _ rfl wr.heap.size 0 rfl x LX ?_)
     | ((with_reducible refine Sk _ rfl ?_);refine Mg rfl _ rfl x rfl ?_;try rw[Je])
     | (at_builtin;refine Ak ?_))
    unfold AA;rw[←HW2.out];refine Od rfl _ _ rfl w.heap.size u6 S x rfl R2.out.a w1.heap.size 1 rfl N2 (by have:=HN.out;omega) B2.out.size ?_;intro v' w3 hown hgr hq3;have Rw3:Hid (ES w.heap.size w3 v' u7 u8 (S++[x]) A G):=R2.out.app1 hown hgr hq3;have Bw3:Hid (Below w.heap.size w w3):=LC B2.out B2.out.size hgr R2.out.a;have HGw3:Hid ({p:Nat}→{ob:Obj}→{y:Value}→w2.heap[p]?=some ob→y.ownBlock=u6.ownBlock→y.ownBlock≠some p→w3.heap[p]?=some ob):=fun {p ob y} e1 e2 e3=>(hgr.block p (gS e1) fun e=>e3 (by rw[e2,e])).trans e1;clear hown hgr hq3 N2;simp only[pU];go_wp2_with fail;go_roundw
    case rel=>
     obtain⟨e1,e2,e3⟩:=HS.out;obtain⟨t1,t2,t3⟩:=Aom (m:=m) HXK.out HDN.out;obtain⟨n1,n2,n3⟩:=HN.out;exact⟨k+1,S++[x],A,G,by omega,by go_num,⟨by rw[t1,e1],by rw[t2,e2],by rw[t3,e3]⟩,⟨by rw[aH];simp;omega,by omega,by omega⟩,Rw3.out,Bw3.out⟩
    case measure=>simp[intOf];omega
   ·by_cases hmo:xs>tr
    ·have HDN:Hid (Ex now x=true∧DF m x=false):=by
      show _∧_;rw[HDU.out,HMO.out, ←HXS.out.2, ←HXS.out.1];exact⟨by simpa using hdue,by simpa using hmo⟩
     go_wp2_with fail;go_region;obtain⟨w2,hw2⟩:=eX w1.drew;have b2:Below w1.heap.size w1 w2:=by rw[hw2];exact(aA _ _).drew
     rw[←hw2];have B2:Hid _:=B1.out.trans (b2.mono B1.out.size);have R2:Hid _:=R1.out.below b2;have A2:w2.heap[wr.heap.size]?=some (.cells (AD x) 112 (0,0)):=(b2.block _ (gS HA1.out)).trans HA1.out;clear b2 hw2 LX f3 f4 z3 z4 k4 k1 k2;have LX:=Lt A2;obtain⟨w3,hw3⟩:=eX (w2.alloc (.cells (AD x) 112));have b3:Below w2.heap.size w2 w3:=by rw[hw3];exact(aA _ _).alloc (aC _) _
     have B3:Hid _:=B2.out.trans (b3.mono B2.out.size);have R3:Hid _:=R2.out.below b3;have N3:w3.heap[w2.heap.size]?=some (.cells (AD x) 112 (0,0)):=by rw[hw3];exact Ab _ _ _ rfl
     have HW3:Hid _:=hw3;have HK3:Hid (∀p ob,w2.heap[p]?=some ob→w3.heap[p]?=some ob):=fun p ob e=>(b3.block p (gS e)).trans e;clear hw3 b3
     go_wp2_with (first
      | ((with_reducible refine IJ _ rfl ?_);refine GS rfl _ rfl wr.heap.size 0 rfl x LX ?_)
      | ((with_reducible refine Sk _ rfl ?_);refine Mg rfl _ rfl x rfl ?_;try rw[Je])
      | (at_builtin;refine Ak ?_))
     unfold AA;rw[←HW3.out];refine Od rfl _ _ rfl w.heap.size u8 G x rfl R3.out.c w2.heap.size 1 rfl N3 (by have:=HN.out;omega) B3.out.size ?_;intro v' w4 hown hgr hq3;have Rw4:Hid (ES w.heap.size w4 u6 u7 v' S A (G++[x])):=R3.out.app3 hown hgr hq3;have Bw4:Hid (Below w.heap.size w w4):=LC B3.out B3.out.size hgr R3.out.c;have HGw4:Hid (∀p ob,w3.heap[p]?=some ob→u8.ownBlock≠some p→w4.heap[p]?=some ob):=fun p ob e1 e3=>(hgr.block p (gS e1) fun e=>e3 e.symm).trans e1;clear hown hgr hq3 N3;simp only[pU];go_wp2_with fail;go_roundw
     case rel=>
      obtain⟨e1,e2,e3⟩:=HS.out;obtain⟨t1,t2,t3⟩:=Als (m:=m) HXK.out HDN.out.1 HDN.out.2;obtain⟨n1,n2,n3⟩:=HN.out;exact⟨k+1,S,A,G++[x],by omega,by go_num,⟨by rw[t1,e1],by rw[t2,e2],by rw[t3,e3]⟩,⟨by omega,by omega,by rw[aH];simp;omega⟩,Rw4.out,Bw4.out⟩
     case measure=>simp[intOf];omega
    ·have HDN:Hid (Ex now x=true∧DF m x=true):=by
      show _∧_;rw[HDU.out,HMO.out, ←HXS.out.2, ←HXS.out.1];exact⟨by simpa using hdue,by simpa using hmo⟩
     go_wp2_with fail;go_region;obtain⟨w2,hw2⟩:=eX w1.drew;have b2:Below w1.heap.size w1 w2:=by rw[hw2];exact(aA _ _).drew
     rw[←hw2];have B2:Hid _:=B1.out.trans (b2.mono B1.out.size);have R2:Hid _:=R1.out.below b2;have A2:w2.heap[wr.heap.size]?=some (.cells (AD x) 112 (0,0)):=(b2.block _ (gS HA1.out)).trans HA1.out;clear b2 hw2 LX f3 f4 z3 z4 k4 k1 k2;obtain⟨y,hy⟩:=eX (Ik m now x);have HY:Hid _:=hy;have hyv:(((AD x).setIfInBounds 15 (.int .i64 (xs+1))).setIfInBounds 16 (.int .i64 (cl+ti)))=AD y:=by rw[hy,HAS.out,HXS.out.1];rfl
     have k2:=(HF.out w2 B2.out).2.2.1;have f3:=(FO A2).c3;rw[←HXS.out.1] at f3;have f4:=(FO A2).c4;have z3:w2.frozen? ⟨wr.heap.size,15,none⟩=false:=FZ A2 rfl;have z4:w2.frozen? ⟨wr.heap.size,16,none⟩=false:=FZ A2 rfl;have hne:¬g=wr.heap.size:=by have:=HB.out.size;have:=HGS.out;omega
     obtain⟨w3,hw3⟩:=eX ((w2.setCell ⟨wr.heap.size,15,none⟩ (.int .i64 (xs+1))).setCell ⟨wr.heap.size,16,none⟩ (.int .i64 (cl+ti)))
     have k3:As (Cq wr.heap.size) w2 w3:=by
      rw[hw3];exact⟨rfl,rfl,rfl,by simp[aW],fun k _ e=>(heap_setCell_other _ ⟨wr.heap.size,16,none⟩ k _ e).trans (heap_setCell_other _ ⟨wr.heap.size,15,none⟩ k _ e)⟩
     have A3:w3.heap[wr.heap.size]?=some (.cells (AD y) 112 (0,0)):=by
      rw[hw3,heap_setCell_same _ _ 16 _ _ _ (heap_setCell_same _ _ 15 _ _ _ A2),hyv]
     have nb:∀(z:Value) (Z:List AN),AU w.heap.size wr z Z→∀k,z.ownBlock=some k→¬Cq wr.heap.size k:=fun z Z hz k e e'=>by unfold Cq at e';have:=(hz.lt k e).2;omega
     have R3:Hid (ES w.heap.size w3 u6 u7 u8 S A G):=⟨R2.out.a.kept k3 (nb _ _ HR.out.a),R2.out.b.kept k3 (nb _ _ HR.out.b),R2.out.c.kept k3 (nb _ _ HR.out.c),R2.out.ab,R2.out.ac,R2.out.bc⟩;have B3:Hid (Below w.heap.size w w3):=B2.out.trans (k3.below (fun k e=>by unfold Cq at e;have:=HB.out.size;omega) B2.out.size);have HW3:Hid _:=hw3;have HA3:Hid _:=A3;clear hw3 k3 nb hyv hy A2 A3
     go_wp2_with (first
      | ((with_reducible refine IJ _ rfl ?_);refine Ak ?_))
     unfold AA;rw[←HW3.out];clear f3 f4 z3 z4 k2;have LX:=Lt HA3.out;obtain⟨w4,hw4⟩:=eX (w3.alloc (.cells (AD y) 112));have b4:Below w3.heap.size w3 w4:=by rw[hw4];exact(aA _ _).alloc (aC _) _
     have B4:Hid _:=B3.out.trans (b4.mono B3.out.size);have R4:Hid _:=R3.out.below b4;have N4:w4.heap[w3.heap.size]?=some (.cells (AD y) 112 (0,0)):=by rw[hw4];exact Ab _ _ _ rfl
     have HW4:Hid _:=hw4;have HK4:Hid (∀p ob,w3.heap[p]?=some ob→w4.heap[p]?=some ob):=fun p ob e=>(b4.block p (gS e)).trans e;clear hw4 b4
     go_wp2_with (first
      | ((with_reducible refine IJ _ rfl ?_);refine GS rfl _ rfl wr.heap.size 0 rfl y LX ?_)
      | ((with_reducible refine Sk _ rfl ?_);refine Mg rfl _ rfl y rfl ?_;try rw[Je])
      | (at_builtin;refine Ak ?_))
     unfold AA;rw[←HW4.out];refine Od rfl _ _ rfl w.heap.size u6 S y rfl R4.out.a w3.heap.size 1 rfl N4 (by have:=HN.out;omega) B4.out.size ?_;intro v' w5 hown hgr hq3;have Rw5:Hid (ES w.heap.size w5 v' u7 u8 (S++[y]) A G):=R4.out.app1 hown hgr hq3;have Bw5:Hid (Below w.heap.size w w5):=LC B4.out B4.out.size hgr R4.out.a;have HGw5:Hid (∀p ob,w4.heap[p]?=some ob→u6.ownBlock≠some p→w5.heap[p]?=some ob):=fun p ob e1 e3=>(hgr.block p (gS e1) fun e=>e3 e.symm).trans e1;clear hown hgr hq3 N4;simp only[pU];clear LX;have A5:w5.heap[wr.heap.size]?=some (.cells (AD y) 112 (0,0)):=HGw5.out _ _ (HK4.out _ _ HA3.out) fun e=>by have:=(HR.out.a.lt _ e).2;omega
     have LX:=Lt A5;clear A5;obtain⟨w6,hw6⟩:=eX (w5.alloc (.cells (AD y) 112));have b6:Below w5.heap.size w5 w6:=by rw[hw6];exact(aA _ _).alloc (aC _) _
     have B6:Hid _:=Bw5.out.trans (b6.mono Bw5.out.size);have R6:Hid _:=Rw5.out.below b6;have N6:w6.heap[w5.heap.size]?=some (.cells (AD y) 112 (0,0)):=by rw[hw6];exact Ab _ _ _ rfl
     have HW6:Hid _:=hw6;have HK6:Hid (∀p ob,w5.heap[p]?=some ob→w6.heap[p]?=some ob):=fun p ob e=>(b6.block p (gS e)).trans e;clear hw6 b6
     go_wp2_with (first
      | ((with_reducible refine IJ _ rfl ?_);refine GS rfl _ rfl wr.heap.size 0 rfl y LX ?_)
      | ((with_reducible refine Sk _ rfl ?_);refine Mg rfl _ rfl y rfl ?_;try rw[Je])
      | (at_builtin;refine Ak ?_))
     unfold AA;rw[←HW6.out];refine Od rfl _ _ rfl w.heap.size u7 A y rfl R6.out.b w5.heap.size 1 rfl N6 (by have:=HN.out;omega) B6.out.size ?_;intro v'' w7 hown hgr hq3;have Rw7:Hid (ES w.heap.size w7 v' v'' u8 (S++[y]) (A++[y]) G):=R6.out.app2 hown hgr hq3;have Bw7:Hid (Below w.heap.size w w7):=LC B6.out B6.out.size hgr R6.out.b;have HGw7:Hid (∀p ob,w6.heap[p]?=some ob→u7.ownBlock≠some p→w7.heap[p]?=some ob):=fun p ob e1 e3=>(hgr.block p (gS e1) fun e=>e3 e.symm).trans e1;clear hown hgr hq3 N6;simp only[pU];go_wp2_with fail;go_roundw
     case rel=>
      obtain⟨e1,e2,e3⟩:=HS.out;obtain⟨t1,t2,t3⟩:=Alr (m:=m) HXK.out HDN.out.1 HDN.out.2;obtain⟨n1,n2,n3⟩:=HN.out;exact⟨k+1,S++[y],A++[y],G,by omega,by go_num,⟨by rw[t1,e1,HY.out],by rw[t2,e2,HY.out],by rw[t3,e3]⟩,⟨by rw[aH];simp;omega,by rw[aH];simp;omega,by omega⟩,Rw7.out,Bw7.out⟩
     case measure=>simp[intOf];omega
  ·have hlt':¬(k:Int)<(q:Int):=by omega
   have HTK:Hid (ES w.heap.size wr u6 u7 u8 (Dc m now).l (Cv m now) (EE m now)):=by
    have e:m.l.take k=m.l:=aQ (by rw[←HQ.out];omega);obtain⟨e1,e2,e3⟩:=HS.out;rw[e] at e1 e2 e3;show ES _ _ _ _ _ _ _ _;rw[HT.out,HA.out,HG.out, ←e1, ←e2, ←e3];exact hr
   have HE:=HX.out wr u6 u7 u8 hb HTK.out;have HE':Hid _:=HE;obtain⟨o6,n6,e6,_⟩:=hr.a.slice;obtain⟨o7,n7,e7,_⟩:=hr.b.slice;obtain⟨o8,n8,e8,_⟩:=hr.c.slice;generalize S.length=q6 at e6;generalize A.length=q7 at e7;generalize G.length=q8 at e8;clear hr hb hgs HE HR HTK;subst e6;subst e7;subst e8;go_wp2_with fail;go_ret2;exact⟨_,_,rfl,_,HE'.out⟩
theorem Cb.clear{B:Nat}{w w':World}{g gt gh gw:Nat}{R:Rm}{n:Af Aq}{r:D0}(h:Cb B w g gt gh gw R n r){m:Be}{v:Value}(h1:Dt B w' gw m v)(h2:FQ (EO gw r.vw) (EO gw v) w w'):
  Cb B w' g gt gh gw R (Db n m) {r with vw:=v}∧FQ (DL g gt gh gw r) (DL g gt gh gw {r with vw:=v}) w w':=by
 have hk:As (Gg g gt gh gw r 3) w w':=h2.kept;refine⟨⟨hk.heap h.blk (h.off (i:=0) (j:=3) (by decide) (by decide) (by decide) g rfl),h.tab.kept hk (h.off (i:=2) (j:=3) (by decide) (by decide) (by decide)),h.hold.kept hk (h.off (i:=1) (j:=3) (by decide) (by decide) (by decide) gh rfl),h1,h.post.kept hk (h.off (i:=4) (j:=3) (by decide) (by decide) (by decide)),h.log.kept hk (h.off (i:=5) (j:=3) (by decide) (by decide) (by decide)),h.hB,h.hH⟩,h.part (i:=3) (by decide) hk (fun j hj=> ?_) h2.foot⟩;match j,hj with
 | 0,_=>rfl
 | 1,_=>rfl
 | 2,_=>rfl
 | 3,hj=>exact absurd rfl hj
 | 4,_=>rfl
 | 5,_=>rfl
 | j+6,_=>rfl
theorem Cb.noRow{B:Nat}{w:World}{g gt gh gw:Nat}{R:Rm}{n:Af Aq}{r:D0}(h:Cb B w g gt gh gw R n r){B':Nat}{v:Value}{L:List AN}(hv:AU B' w v L)(ha:Fe v.ownBlock r.vw.ownBlock):∀k,v.ownBlock=some k→¬DL g gt gh gw r k:=by
 rintro k hk ⟨i,hi,e⟩;have t1:=It.own hv hk;by_cases h3:i=3
 ·subst h3;rcases e with rfl | e
  ·exact absurd (t1.one ⟨_,_,h.wait.blk⟩) (by decide)
  ·exact ha.ne k hk e
 ·obtain⟨t,t2,t3⟩:=h.ty i k e;have:=t1.one t3;subst this;have key:((List.range 6).all fun i=>i==3 || !((TU i).contains 112))=true:=by decide
  rw[List.all_eq_true] at key;have:=key i (List.mem_range.2 hi);rw[Bool.or_eq_true,beq_iff_eq,Bool.not_eq_true'] at this;rcases this with e | e
  ·exact h3 e
  ·rw[List.contains_iff_mem.2 t2] at e
   cases e
theorem Vo(f:Af Aq→AN→Af Aq)(hf:∀n w x,f (Db n w) x=Db (f n x) w)(w:Be):∀(L:List AN) (n:Af Aq),L.foldl f (Db n w)=Db (L.foldl f n) w
 | [],_=>rfl
 | x::L,n=>by
  show L.foldl f (f (Db n w) x)=_
  rw[hf]
  exact Vo f hf w L (f n x)
theorem Zc(B:Nat)(w:World)(g gt gh gw:Nat)(R:Rm)(n:Af Aq)(r:D0)(h:Cb B w g gt gh gw R n r){M:Nat}(hi:Az M R n)(hM:M≤900000):
  Calls aB 45 #[.pointer (some ⟨g,0,none⟩)] w fun e w'=>e=.returned (.tuple #[])∧Dl B w w' g gt gh gw R (Fr n) r:=by
 have c6:=h.f.c6
 have CC:Hid (∀W,Below w.heap.size w W→Calls aB 90 #[.pointer (some ⟨gw,0,none⟩)] W fun e w'=>e=.returned r.vw∧AU B w' r.vw n.wait.l∧∃u,Cb B w' g gt gh gw R (Db n (Ij n.wait)) u∧FQ (DL g gt gh gw r) (DL g gt gh gw u) W w'∧Fe r.vw.ownBlock u.vw.ownBlock):=fun W hW=>by
  have hv:=h.below hW;refine(Ac9 B W gw n.wait r.vw hv.wait).mono fun e w' q=>⟨q.1,q.2.1,?_⟩;obtain⟨q1,q2⟩:=hv.clear q.2.2.1 q.2.2.2;exact⟨_,q1,q2,.inr (.inl rfl)⟩
 have e0:Fr n=n.wait.l.foldl (fun n x=>Eb n x.index 5) (Db n (Ij n.wait)):=by
  unfold Fr;rw[Vo (fun n x=>Eb n x.index 5) (fun _ _ _=>rfl)]
 rw[e0]
 have HL:Hid ((Db n (Ij n.wait)).log.length+n.wait.l.length≤1000000):=by
  have h1:=hi.log;have h2:=hi.wait.len;show n.log.length+_≤_;omega
 have CD:Hid (∀W v u,Cb B W g gt gh gw R (Db n (Ij n.wait)) u→AU B W v n.wait.l→Fe v.ownBlock u.vw.ownBlock→Calls aB 75 #[.pointer (some ⟨g,0,none⟩),v,.int .i64 5] W fun e w'=>e=.returned (.tuple #[])∧Dl B W w' g gt gh gw R (n.wait.l.foldl (fun n x=>Eb n x.index 5) (Db n (Ij n.wait))) u):=fun W v u hu hv ha=>
  L6 B W g gt gh gw R _ u hu B v n.wait.l HL.out hv (hu.noRow hv ha) 5
 obtain⟨n',hn'⟩:=eX (n.wait.l.foldl (fun n x=>Eb n x.index 5) (Db n (Ij n.wait)));rw[←hn'] at CD ⊢;obtain⟨ow,cw,hvw,_⟩:=h.wait.own.slice;have CC0:=CC.out w (aA _ _);obtain⟨vw,hvw'⟩:∃vw,vw=r.vw:=⟨_,rfl⟩;rw[←hvw'] at CC0 hvw;obtain⟨lw,hlw⟩:=eX n.wait.l.length;rw[←hlw] at hvw;clear e0 hn' hi hM h CC hvw' hlw HL;subst hvw;go_enter Tryz.func45,Tryz.ntmps45;go_wp2_with (go_at_call 90;refine CC0.mono ?_;rintro e w1 ⟨rfl,hr1,u,hu,hf,ha⟩;have HR1:Hid _:=hr1;have HU:Hid _:=hu;have HF:Hid _:=hf;have HA:Hid _:=ha;clear hr1 hu hf ha CC0;refine Ak ?_);unfold AA;have CD1:=CD.out w1 _ u HU.out HR1.out HA.out;go_wp2_with (go_at_call 75;refine CD1.mono ?_;rintro e w2 ⟨rfl,h2⟩;have H2:Hid _:=h2;clear h2);go_end0;refine⟨rfl,?_⟩;obtain⟨u2,hu2,hf2⟩:=H2.out;exact⟨u2,hu2,HF.out.trans hf2⟩
theorem YH(B:Nat)(w:World)(g gt gh gw:Nat)(R:Rm)(n:Af Aq)(r:D0)(h:Cb B w g gt gh gw R n r):
  Calls aB 19 #[.pointer (some ⟨g,0,none⟩)] w fun e w'=>e=.returned r.vn∧BJ B w' r.vn n.log∧Cb B w' g gt gh gw R {n with log:=[]} {r with vn:=.slice none 0 0}∧As (Cq g) w w':=by
 have c8:=h.f.c8;have fz:=h.f.fz 8;obtain⟨q1,q2⟩:=h.setCell (j:=8) (v:=.slice none 0 0) (n':={n with log:=[]}) (u:={r with vn:=.slice none 0 0}) rfl rfl rfl rfl rfl rfl rfl rfl h.post (BJ.nil _ _)
 have HX:Hid (BJ B (w.setCell ⟨g,8,none⟩ (.slice none 0 0)) r.vn n.log):=by
  refine h.log.kept q2 fun k hk e=> ?_;obtain rfl:k=g:=e;exact h.off (i:=0) (j:=5) (by decide) (by decide) (by decide) k rfl hk
 have HV:Hid _:=q1;have HK:Hid _:=q2;obtain⟨ow,cw,hvw,_⟩:=h.log.slice;obtain⟨lw,hlw⟩:=eX n.log.length;rw[←hlw] at hvw;obtain⟨vv,hvv⟩:=eX r.vn;rw[←hvv] at hvw c8 HX ⊢;clear q1 q2 h hlw hvv;subst hvw;go_enter Tryz.func19,Tryz.ntmps19;go_wp2_with fail;go_ret;exact⟨rfl,HX.out,HV.out,HK.out⟩
end
end Go.Proofs.YtbhkoipcpcoooaaGreat
