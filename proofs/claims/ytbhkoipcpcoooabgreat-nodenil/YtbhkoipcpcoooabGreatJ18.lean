import Derived.Test.YtbhkoipcpcoooabGreatJ17
import Derived.Test.YtbhkoipcpcoooabGreatJ11
import Derived.Test.YtbhkoipcpcoooabGreatJ6
import Derived.Test.YtbhkoipcpcoooabGreatJ16
import Derived.Test.YtbhkoipcpcoooabGreatJ7
import Derived.Test.YtbhkoipcpcoooabGreatJ8
namespace Go.Proofs.YtbhkoipcpcoooabGreat
set_option maxRecDepth 20000
set_option maxHeartbeats 64000000
open Go
open Go.Proofs.Tryz renaming prog → aA
open _root_.List renaming setIfInBounds_toArray → aB, set_cons_zero → aC, drop_succ_cons → aD, set_cons_succ → aG, map_cons → aI, map_nil → aJ, drop_zero → aK, headD_cons → aN, map_toArray → aR, take_succ_cons → aV, length_map → aX, take_zero → aY
open Go.World renaming drew → aH, ownsRow → aZ
open _root_.Nat renaming le_refl → aL, zero_add → aM, lt_succ_self → aQ
open Go.RowKit.Below renaming refl → aO
open _root_.Array renaming getElem?_eq_some_iff → aP
open Go.Act renaming put → aT
section
open Go.RowKit
set_option maxRecDepth 100000 in
theorem VI(a b:Int){L:List Int}(hL:L.length=13)(W:World):(Instr.build 82 #[(0,.int .i64 a),(1,.int .i64 b),(2,.agg (hv L)),(3,.int .i64 1)]).run aA W=.ok (.agg (AL ⟨a,b,L,1,0⟩)) W:=by
 rw[ZB hL];kernel_rfl
theorem Sk(B:Nat)(w:World)(g gt gh gw:Nat)(R:Rm)(n:Ap Ay)(r:DU)(h:BT B w g gt gh gw R n r){M:Nat}(hi:AQ M R n)(hM:M≤900000)(ix:Int)(hd:List Int)(hH:Ax hd)(now:Int):
  Calls aA 13 #[.pointer (some ⟨g,0,none⟩),.int .i64 ix,.agg (hv hd),.int .i64 now] w fun e w'=>e=.returned (.tuple #[])∧CZ B w w' g gt gh gw R (GT (Ar R) n ix hd now) r:=by
 obtain⟨w0,hw0⟩:∃w0,w0=w.alloc (.cells (hv hd) 23):=⟨_,rfl⟩;obtain⟨O1,hO1⟩:∃O1:Nat→Prop,O1=fun k=>k=w.heap.size:=⟨_,rfl⟩;have M10:Hid (O1 w.heap.size):=by show O1 _;rw[hO1]
 have B0:Below w.heap.size w w0:=by rw[hw0];exact(aO _ _).alloc (aL _) _
 have Zs:w0.heap.size=w.heap.size+1:=by rw[hw0,AI]
 have Z0:Hid (w0.heap[w.heap.size]?=some (.cells (hv hd) 23 (0,0))):=by show _=_;rw[hw0];exact Ac _ _ _ rfl
 have A0:Hid (An B w w0 g gt gh gw R n r O1):=An.begin h B0 (by rw[hO1];rintro k rfl;exact⟨aL _,by omega⟩);obtain⟨S',hS'⟩:∃S',S'=((Ar R).look n.tab now n.hold.use hd).1:=⟨_,rfl⟩;obtain⟨s,hs⟩:∃s,s=((Ar R).look n.tab now n.hold.use hd).2.1:=⟨_,rfl⟩;obtain⟨b,hb⟩:∃b,b=((Ar R).look n.tab now n.hold.use hd).2.2:=⟨_,rfl⟩;have hi1:AQ (M+1) R (Bm n S'):=by rw[hS'];exact Uf hi now n.hold.use hd
 have CL:Hid (∀W,An B w W g gt gh gw R n r O1→Calls aA 32 #[.pointer (some ⟨g,0,none⟩),.agg (hv hd),.int .i64 now] W fun e w'=>e=.returned (.tuple #[.agg (Ab s),.bool b])∧An B w w' g gt gh gw R (Bm n S') r O1∧Ec O1 W w'):=fun W hW=>by
  rw[hS',hs,hb];exact hW.call fun u hu=>U9 B W g gt gh gw R n u hu hi.tab (by omega) hd hH now
 have CM:=A0.out.ask fun u hu=>Qv B w0 g gt gh gw R n u hu hi.hold now
 have e0:GT (Ar R) n ix hd now=if Kw n now=true then (if b=true then (if s.bank=3 then (if (EY n.wait ix hd now).2.2=0 then Eb (IY (Bm n S') (EY n.wait ix hd now).1) (EY n.wait ix hd now).2.1 ix hd 1 s else Kl (Bm n S') ix 3) else Gb (Bm n S') ix s.action) else Kl (Bm n S') ix 6) else Kl n ix 2:=by
  unfold GT;rw[hS',hs,hb];split
  ·split
   ·rename_i t s' e;rw[e];rfl
   ·rename_i t s' e;rw[e];rfl
  ·rfl
 obtain⟨n1,hn1⟩:∃n1,n1=Bm n S':=⟨_,rfl⟩;rw[←hn1] at hi1 CL e0;have hw1:n1.wait=n.wait:=by rw[hn1];rfl
 have HNU0:n1.num=n.num∧n1.lease=n.lease∧n1.beat=n.beat:=by rw[hn1];exact⟨rfl,rfl,rfl⟩
 rw[←hw1] at e0;obtain⟨my,hmy⟩:∃my,my=Kw n now:=⟨_,rfl⟩;rw[←hmy] at CM e0;have CD:Hid (∀W m y,∀ {O:Nat→Prop},An B w W g gt gh gw R m r O∧m.log.length≤1000000→Calls aA 31 #[.pointer (some ⟨g,0,none⟩),.int .i64 ix,.int .i64 y] W fun e w'=>e=.returned (.tuple #[])∧An B w w' g gt gh gw R (Kl m ix y) r O∧Ec O W w'):=fun W m y O hW=>hW.1.call fun u hu=>VA B W g gt gh gw R m u hu hW.2 ix y;have CE:Hid (∀W y,∀ {O:Nat→Prop},An B w W g gt gh gw R n1 r O→Calls aA 33 #[.pointer (some ⟨g,0,none⟩),.int .i64 ix,.int .i64 y] W fun e w'=>e=.returned (.tuple #[])∧An B w w' g gt gh gw R (Gb n1 ix y) r O∧Ec O W w'):=fun W y O hW=>hW.call fun u hu=>Ly B W g gt gh gw R n1 u hu (by have:=hi1.log;omega) ix y;have HI:Hid (AQ M R n∧AQ (M+1) R n1∧M≤900000):=⟨hi,hi1,hM⟩;have HHL:Hid (hd.length=13):=hH.1;have HHS:Hid ((hv hd).size=13):=by show _=_;rw[DE];exact hH.1
 have HBY:Hid (Ax hd):=hH;have hw0':=hw0.symm;have Zs0:Hid (w0.heap.size=w.heap.size+1):=Zs;obtain⟨n2,hn2⟩:∃n2,n2=IY n1 (EY n1.wait ix hd now).1:=⟨_,rfl⟩;obtain⟨sq,hsq⟩:∃sq,sq=(EY n1.wait ix hd now).2.1:=⟨_,rfl⟩;obtain⟨er,her⟩:∃er,er=(EY n1.wait ix hd now).2.2:=⟨_,rfl⟩;obtain⟨nu,hnu0⟩:∃nu,nu=n.num:=⟨_,rfl⟩;obtain⟨le,hle0⟩:∃le,le=n.lease:=⟨_,rfl⟩;obtain⟨be,hbe0⟩:∃be,be=n.beat:=⟨_,rfl⟩
 have HNU:Hid ((n1.num=nu∧n1.lease=le∧n1.beat=be)∧n2.num=nu∧n2.lease=le∧n2.beat=be):=by
  show(_∧_∧_)∧_∧_∧_;rw[hnu0,hle0,hbe0,hn2];exact⟨HNU0,HNU0⟩
 have CAx:Hid (∀(W:World) (O:Nat→Prop),An B w W g gt gh gw R n1 r O→Calls aA 34 #[.pointer (some ⟨gw,0,none⟩),.int .i64 ix,.agg (hv hd),.int .i64 now] W fun e w'=>e=.returned (.tuple #[.int .i64 sq,.int .i64 er])∧An B w w' g gt gh gw R n2 r O∧Ec O W w'):=fun W O hW=>
  hW.call fun u hu=>by
   rw[hn2,hsq,her];exact(Aak B W gw n1.wait u.vw hu.wait HI.out.2.1.wait ix hd HHL.out now (by have:=HI.out.2.1.last;have:=HI.out.2.2;omega)).mono fun e w' q=>⟨q.1,hu.setWaitTo q.2⟩
 have hi2:AQ (M+1+1) R n2:=by
  rw[hn2];obtain⟨q1,q2,q3⟩:=Xz HI.out.2.1 ix HBY.out now;exact PG HI.out.2.1 q1 q2 q3
 have hsq1:BG sq:=by
  rw[hsq];unfold EY;split
  ·exact Ce
  ·have:=HI.out.2.1.last;have:=HI.out.2.2;exact⟨by show(0:Int)≤(n1.wait.last:Int)+1;omega,by show(n1.wait.last:Int)+1≤_;omega⟩
 have CR:Hid (∀(W:World) (O:Nat→Prop),An B w W g gt gh gw R n2 r O→Calls aA 35 #[.pointer (some ⟨g,0,none⟩),.agg (AL ⟨sq,ix,hd,1,0⟩),.agg (Ab s)] W fun e w'=>e=.returned (.tuple #[])∧An B w w' g gt gh gw R (Eb n2 sq ix hd 1 s) r O∧Ec O W w'):=fun W O hW=>
  hW.call fun u hu=>Pz B W g gt gh gw R n2 u hu hi2 (by have:=HI.out.2.2;omega) ⟨sq,ix,hd,1,0⟩ HBY.out hsq1 (by show(0:Int)≤1;decide) s
 have hlog2:n1.log.length≤1000000∧(er≠0→n2=n1):=by
  refine⟨by have:=HI.out.2.1.log;have:=HI.out.2.2;omega,fun he=> ?_⟩;rw[hn2];unfold EY;split
  ·rfl
  ·rename_i hc;exfalso;apply he;rw[her];unfold EY;rw[if_neg hc]
 have HL2:Hid _:=hlog2;rw[←hn2, ←hsq, ←her] at e0;have HE0:Hid _:=e0;clear e0 hS' hs hb hn1 hw1 hmy hi hi1 hM hH hw0 B0 Zs h hO1 hn2 hsq her hnu0 hle0 hbe0 HNU0 hi2 hsq1 hlog2;go_enter Tryz.func13,Tryz.ntmps13
 go_wp2_with (first
  | (go_at_call 21;refine CM.mono ?_;rintro e wm ⟨rfl,bm⟩;have BM:Hid _:=bm;clear bm CM;refine Aw ?_))
 unfold AZ
 cases my
 focus
  have AM:Hid (An B w wm g gt gh gw R n r O1):=A0.out.below BM.out;have CD1:=CD.out wm n 2 ⟨AM.out,by have:=HI.out.1.log;have:=HI.out.2.2;omega⟩;go_wp2_with (go_at_call 31;refine CD1.mono ?_;rintro e w7 ⟨rfl,a7⟩;have A7:Hid _:=a7;clear a7)
  first | go_end0 | refine bodyPost_ret (results_none rfl _ _ _) rfl ?_
  exact⟨rfl,by rw[HE0.out,if_neg (by decide)];exact A7.out.1.to⟩
 have AM:Hid (An B w wm g gt gh gw R n r O1):=A0.out.below BM.out;have ZM:wm.heap[w.heap.size]?=some (.cells (hv hd) 23 (0,0)):=(BM.out.block _ (by rw[Zs0.out];exact aQ _)).trans Z0.out;have CL1:=CL.out wm AM.out
 go_wp2_with (first
  | (go_at_call 32;refine CL1.mono ?_;rintro e w1 ⟨rfl,a1⟩;have A1:Hid _:=a1;clear a1 CL1)
  | ((with_reducible refine Bf 23 _ rfl ?_);refine Bc Iw rfl _ rfl w.heap.size 0 rfl _ _ _ (hv hd) HHS.out ZM (AA _ _) ?_)
  | ((with_reducible refine FW rfl ?_);refine C9 rfl rfl ?_;try rw[AI])
  | (((with_reducible refine Ex _ _ rfl ?_);refine BV rfl _ _ rfl w1.heap.size s Av rfl rfl (Ac _ _ _ rfl) _ (BD _ _ _ _ _ rfl) ?_);refine Aw ?_))
 unfold AZ;obtain⟨p6,hp6⟩:∃p6,p6=w1.heap.size:=⟨_,rfl⟩;obtain⟨wz,hwz⟩:∃wz,wz=w1.alloc (.cells (Ab s) 75):=⟨_,rfl⟩;rw[←hp6, ←hwz];obtain⟨O2,hO2⟩:∃O2:Nat→Prop,O2=fun k=>O1 k∨k=p6:=⟨_,rfl⟩;have M1:Hid (O2 w.heap.size):=by show O2 _;rw[hO2];exact .inl M10.out
 have M2:Hid (O2 p6):=by show O2 _;rw[hO2];exact .inr rfl
 have Bz:Below w1.heap.size w1 wz:=by rw[hwz];exact(aO _ _).alloc (aL _) _
 have A4:Hid (An B w wz g gt gh gw R n1 r O2):=A1.out.1.more Bz fun k hk=>by
  rw[hO2] at hk;rcases hk with e | rfl
  ·exact .inl e
  ·exact .inr ⟨by rw[hp6];exact aL _,by rw[hwz,AI,hp6];exact aQ _⟩
 have Y4:Hid (wz.heap[p6]?=some (.cells (Ab s) 75 (0,0))):=by show _=_;rw[hwz];exact Ac _ _ _ hp6
 have Z4:Hid (wz.heap[w.heap.size]?=some (.cells (hv hd) 23 (0,0))):=by
  have hz:=(A1.out.2 _ M10.out).trans ZM;exact(Bz.block _ (aP.1 hz).1).trans hz
 clear hp6 hwz hO2 Bz A1 ZM
 cases b
 focus
  have CD1:=CD.out wz n1 6 ⟨A4.out,by have:=HI.out.2.1.log;have:=HI.out.2.2;omega⟩;go_wp2_with (go_at_call 31;refine CD1.mono ?_;rintro e w7 ⟨rfl,a7⟩;have A7:Hid _:=a7;clear a7)
  first | go_end0 | refine bodyPost_ret (results_none rfl _ _ _) rfl ?_
  exact⟨rfl,by rw[HE0.out,if_pos trivial,if_neg (by decide)];exact A7.out.1.to⟩
 by_cases hbk:s.bank=3
 rotate_left
 focus
  have HBK:Hid (¬s.bank=3):=hbk;obtain⟨bk,hbk'⟩:∃bk,bk=s.bank:=⟨_,rfl⟩;have y0:wz.cell? ⟨p6,0,none⟩=some (.int .i64 bk):=by rw[hbk'];have:=(G3 Y4.out fun j hj=>by rw[aM]).c0;exact this
  have hbk3:(bk==3)=false:=by rw[hbk'];simpa using hbk
  clear hbk' hbk;have y30:wz.cell? ⟨p6,30,none⟩=some (.int .i64 s.action):=by have:=(G3 Y4.out fun j hj=>by rw[aM]).c30;rw[aM] at this;exact this
  have CE1:=CE.out wz s.action A4.out;go_wp2_with (go_at_call 33;refine CE1.mono ?_;rintro e w7 ⟨rfl,a7⟩;have A7:Hid _:=a7;clear a7)
  first | go_end0 | refine bodyPost_ret (results_none rfl _ _ _) rfl ?_
  exact⟨rfl,by rw[HE0.out,if_pos trivial,if_pos trivial,if_neg HBK.out];exact A7.out.1.to⟩
 have HBK:Hid (s.bank=3):=hbk;obtain⟨bk,hbk'⟩:∃bk,bk=s.bank:=⟨_,rfl⟩;have y0:wz.cell? ⟨p6,0,none⟩=some (.int .i64 bk):=by rw[hbk'];have:=(G3 Y4.out fun j hj=>by rw[aM]).c0;exact this
 have hbk3:(bk==3)=true:=by rw[hbk'];simpa using hbk
 clear hbk' hbk;have A5:Hid (An B w (aH wz) g gt gh gw R n1 r O2):=A4.out.below (aO _ _).drew;have Z5:Hid ((aH wz).heap[w.heap.size]?=some (.cells (hv hd) 23 (0,0))):=Z4.out;have Y5:Hid ((aH wz).heap[p6]?=some (.cells (Ab s) 75 (0,0))):=Y4.out;have CA:Hid _:=fun W (hW:An B w W g gt gh gw R n1 r O2)=>CAx.out W O2 hW;have HS5:Hid (Dv g gt gh gw nu le be (fun W=>W.heap[w.heap.size]?=some (.cells (hv hd) 23 (0,0))) (aH wz)):=A5.out.inN HNU.out.1.1 HNU.out.1.2.1 HNU.out.1.2.2 Z5.out;go_wp2_with fail;clear y0;have e6:∀z:Fh g gt gh gw nu le be (fun W=>W.heap[w.heap.size]?=some (.cells (hv hd) 23 (0,0))),z.world.cell? ⟨g,6,none⟩=some (.pointer (some ⟨gw,0,none⟩)):=fun z=>z.c6;have ne9:Nonempty (Fh g gt gh gw nu le be (fun W=>W.heap[w.heap.size]?=some (.cells (hv hd) 23 (0,0)))):=by obtain⟨z,_⟩:=HS5.out;exact⟨z⟩
 refine Em ?_;refine BJ (Dv g gt gh gw nu le be (fun W=>W.heap[w.heap.size]?=some (.cells (hv hd) 23 (0,0)))) 13 rfl (by kernel_rfl) ?_;refine AV [0,4,5,6,1,2,3] 7 6 rfl (by kernel_rfl) (by decide) (by kernel_rfl) (by kernel_rfl) (by intro d v c a w h;exact absurd h.1 (by simp)) HS5.out ?_;simp only[Df,aI,aJ,aD,aK,aN];go_big_quiet_step (fail);go_big_quiet_step (fail);refine Ij rfl 23 _ rfl w.heap.size rfl 23 (hv hd) (0,0) _ (fun w' h=>by obtain⟨z,rfl⟩:=h;exact z.x) Tryz.underlying23 rfl (Ic hd HHL.out) ?_;simp only[aT,aB,aG,aC]
 iterate 4 (go_big_quiet_step (fail))
 refine wpQuiet_nil ?_;refine Bb 7 (by kernel_rfl) ?_;refine Bp rfl rfl 34 #[.tmp 45,.tmp 46,.tmp 47,.tmp 48] (by intro b w;have hf:=Tryz.func34;simp[go_sem]) #[.pointer (some ⟨gw,0,none⟩),.int .i64 ix,.agg (hv hd),.int .i64 now] rfl (fun v w'=>v=.tuple #[.int .i64 sq,.int .i64 er]∧An B w w' g gt gh gw R n2 r O2∧Ec O2 (aH wz) w') ((CA.out (aH wz) A5.out).mono fun e w' h=>⟨_,h.1,rfl,h.2⟩) (some 49) rfl ?_;rintro v w6 ⟨rfl,a6,q6⟩;have A6:Hid _:=a6;have Z6:Hid (w6.heap[w.heap.size]?=some (.cells (hv hd) 23 (0,0))):=(q6 _ M1.out).trans Z5.out;have Y6:Hid (w6.heap[p6]?=some (.cells (Ab s) 75 (0,0))):=(q6 _ M2.out).trans Y5.out;clear a6 q6;have I6:Hid (Dv g gt gh gw nu le be (fun W=>W.heap[w.heap.size]?=some (.cells (hv hd) 23 (0,0))) w6):=A6.out.inN HNU.out.2.1 HNU.out.2.2.1 HNU.out.2.2.2 Z6.out;refine⟨I6.out,?_⟩;simp only[aT,aB,aG,aC];refine AV [8,9,10,11,12] 5 0 rfl (by kernel_rfl) (by decide) (by kernel_rfl) (by kernel_rfl) (by intro d v c a w h;exact absurd h.1 (by simp)) I6.out ?_;simp only[Df,aI,aJ,aD,aK,aN]
 iterate 5 (go_big_quiet_step (fail))
 refine wpQuiet_nil ?_;refine wpAnyH_done (by kernel_rfl) ?_ _;refine⟨rfl,?_⟩;by_cases her0:er=0
 focus
  have HR0:Hid (er=0):=her0;have hne:(er !=0)=false:=by simpa using her0
  clear her0;have h6x:w6.heap[w.heap.size]?=some (.cells (hv hd) 23 (0,0)):=Z6.out;have h6s:w6.heap[p6]?=some (.cells (Ab s) 75 (0,0)):=Y6.out;have CR1:=CR.out w6 O2 A6.out
  go_wp2_with (first
   | ((with_reducible refine Bf 23 _ rfl ?_);refine Bc Iw rfl _ rfl w.heap.size 0 rfl _ _ _ (hv hd) HHS.out h6x (AA _ _) ?_)
   | ((with_reducible refine BP 82 _ rfl ?_);refine Jq rfl _ _ rfl #[(0,.int .i64 sq),(1,.int .i64 ix),(2,.agg (hv hd)),(3,.int .i64 1)] (by simp only[aR,aI,aJ];rfl) _ (VI sq ix HHL.out _) ?_)
   | ((with_reducible refine Gs _ rfl ?_);refine Cw rfl _ rfl p6 0 rfl s (FJ h6s) ?_)
   | (go_at_call 35;refine CR1.mono ?_;rintro e w7 ⟨rfl,a7⟩;have A7:Hid _:=a7;clear a7))
  go_end0;exact⟨rfl,by rw[HE0.out,if_pos trivial,if_pos trivial,if_pos HBK.out,if_pos HR0.out];exact A7.out.1.to⟩
 have HR0:Hid (¬er=0):=her0;have hne:(er !=0)=true:=by simpa using her0
 have HE2:Hid (n2=n1):=HL2.out.2 her0;clear her0;have CD1:=CD.out w6 n1 3 ⟨by have:=A6.out;rw[HE2.out] at this;exact this,HL2.out.1⟩;go_wp2_with (go_at_call 31;refine CD1.mono ?_;rintro e w7 ⟨rfl,a7⟩;have A7:Hid _:=a7;clear a7)
 first | go_end0 | refine bodyPost_ret (results_none rfl _ _ _) rfl ?_
 exact⟨rfl,by rw[HE0.out,if_pos trivial,if_pos trivial,if_pos HBK.out,if_neg HR0.out];exact A7.out.1.to⟩
theorem Tn(B:Nat)(w:World)(g gt gh gw:Nat)(R:Rm)(n:Ap Ay)(r:DU)(h:BT B w g gt gh gw R n r):
  Calls aA 6 #[.pointer (some ⟨g,0,none⟩)] w fun e w'=>e=.returned r.vn∧BZ B w' r.vn n.log∧BT B w' g gt gh gw R {n with log:=[]} {r with vn:=.slice none 0 0}∧Ao (Cj g) w w':=by
 have c8:=h.f.c8;have fz:=h.f.fz 8;obtain⟨q1,q2⟩:=h.setCell (j:=8) (v:=.slice none 0 0) (n':={n with log:=[]}) (u:={r with vn:=.slice none 0 0}) rfl rfl rfl rfl rfl rfl rfl rfl h.post (BZ.nil _ _)
 have HX:Hid (BZ B (w.setCell ⟨g,8,none⟩ (.slice none 0 0)) r.vn n.log):=by
  refine h.log.kept q2 fun k hk e=> ?_;obtain rfl:k=g:=e;exact h.off (i:=0) (j:=5) (by decide) (by decide) (by decide) k rfl hk
 have HV:Hid _:=q1;have HK:Hid _:=q2;obtain⟨ow,cw,hvw,_⟩:=h.log.slice;obtain⟨lw,hlw⟩:=eX n.log.length;rw[←hlw] at hvw;obtain⟨vv,hvv⟩:=eX r.vn;rw[←hvv] at hvw c8 HX ⊢;clear q1 q2 h hlw hvv;subst hvw;go_enter Tryz.func6,Tryz.ntmps6;go_wp2_with fail;go_ret;exact⟨rfl,HX.out,HV.out,HK.out⟩
structure MsC(w:World)(p:Nat)(m:Aj):Prop where
 c0:w.cell? ⟨p,0,none⟩=some (.int .i64 m.kind)
 n:∀j,j<13→w.cell? ⟨p,j+1,none⟩=some (.int .i64 (Ad m j))
theorem Ci{w:World}{p:Nat}{m:Aj}{t:TypeId}{fr:Nat×Nat}(hm:Bj m)(h:w.heap[p]?=some (.cells (Ah m) t fr)):MsC w p m:=
 ⟨by rw[cell_of_row w p 0 _ _ _ h];exact Cx m,fun j hj=>by rw[cell_of_row w p (j+1) _ _ _ h];exact BC hm j hj⟩
theorem VH(k e a o ac on tw:Int)(c:List Int×List Int)(W:World):(Instr.build 75 #[(0,.int .i64 k),(1,.int .i64 e),(2,.int .i64 a),(3,.int .i64 o),(4,.agg (cv (Aq c.1) (Aq c.2))),(5,.int .i64 ac),(6,.int .i64 on),(7,.int .i64 tw)]).run aA W=.ok (.agg (Ab ⟨k,e,a,o,c,ac,on,tw,0,0,0⟩)) W:=by
 obtain⟨V,M⟩:=c;dsimp only;obtain⟨a0,a1,a2,a3,a4,a5,a6,a7,a8,a9,a10,a11,a12,h1⟩:=JJ (AB V);obtain⟨b0,b1,b2,b3,b4,b5,b6,b7,b8,b9,b10,b11,b12,h2⟩:=JJ (AB M);unfold Ab;dsimp only;rw[h1,h2];kernel_rfl
def JO(m:Aj):Ae:=⟨if m.kind=2 then 2 else 3,Ad m 1,Ad m 3,Ad m 5,m.cube,Ad m 6,Ad m 7,Ad m 8,0,0,0⟩
theorem Zq{m:Aj}(hr:Bo m=true)(hk:m.kind=1∨m.kind=2):JO m=Ha m:=by
 obtain⟨_,h2,_⟩:=(E5 m).1 hr;unfold JO Ha;rcases hk with hk | hk
 ·rw[if_neg (by rw[hk];decide),if_neg (by rw[hk];decide),(h2 5 (by decide)).2.2 (by rw[hk];decide),(h2 6 (by decide)).2.2 (by rw[hk];decide)]
 ·rw[if_pos hk,if_pos hk,(h2 7 (by decide)).2.2 (by rw[hk];decide),(h2 8 (by decide)).2.2 (by rw[hk];decide)]
theorem Aaf(x:Ae)(c:Int):Ab {x with bank:=c}=(Ab x).setIfInBounds 0 (.int .i64 c):=by
 have key:∀b,Ab {x with bank:=b}=(Value.int .i64 b::([.int .i64 x.epoch,.int .i64 x.place,.int .i64 x.order]++(cv (Aq x.cube.1) (Aq x.cube.2)).toList++[.int .i64 x.action,.int .i64 x.one,.int .i64 x.two,.int .i64 x.born,.int .i64 x.used,.int .i64 x.count])).toArray:=fun b=>by
  unfold Ab;apply Array.ext';simp only[Array.toList_append,List.cons_append,List.nil_append]
 have k2:Ab x=_:=key x.bank;rw[key c,k2,aB,aC]
theorem Vh(w:World)(m:Aj)(hm:Bj m):
  Calls aA 84 #[.agg (Ah m)] w fun e w'=>e=.returned (.agg (Ab (JO m)))∧Below w.heap.size w w':=by
 obtain⟨w0,hw0⟩:=eX ((w.alloc (.cells (Ah m) 27)).alloc (.cells (Ab Av) 75));have B0:Hid (Below w.heap.size w w0):=by show Below _ _ _;rw[hw0];exact((aO _ _).alloc (aL _) _).alloc (by rw[AI];exact Nat.le_succ _) _
 have Z0:Hid (w0.heap[w.heap.size]?=some (.cells (Ah m) 27 (0,0))):=by show _=_;rw[hw0];exact Af _ _ _ _ (Ac _ _ _ rfl)
 have Z1:Hid (w0.heap[w.heap.size+1]?=some (.cells (Ab Av) 75 (0,0))):=by show _=_;rw[hw0];exact Ac _ _ _ (by rw[AI])
 have Zs:Hid (w0.heap.size=w.heap.size+2):=by show _=_;rw[hw0,AI,AI]
 have MC:=Ci hm Z0.out;have e0:=MC.c0;have e2:=MC.n 1 (by decide);have e4:=MC.n 3 (by decide);have e6:=MC.n 5 (by decide);have e7:=MC.n 6 (by decide);have e8:=MC.n 7 (by decide);have e9:=MC.n 8 (by decide);have HCU:Hid (∀j,j<26→(Ah m)[14+j]?=(cv (Aq m.cube.1) (Aq m.cube.2))[j]?):=fun j hj=>by rw[DH hm.2.1.1,DH hm.2.2.1.1];exact Hz hm j hj
 have HCS:Hid ((cv (Aq m.cube.1) (Aq m.cube.2)).size=26):=AO _ _ (AB _) (AB _);have hw0':=hw0.symm;obtain⟨k,hk⟩:=eX m.kind;have HK:Hid _:=hk;rw[←hk] at e0;obtain⟨x,hx⟩:∃x:Ae,x=⟨3,Ad m 1,Ad m 3,Ad m 5,m.cube,Ad m 6,Ad m 7,Ad m 8,0,0,0⟩:=⟨_,rfl⟩;have HX:Hid _:=hx;have BI:Hid (∀W,(Instr.build 75 #[(0,.int .i64 3),(1,.int .i64 (Ad m 1)),(2,.int .i64 (Ad m 3)),(3,.int .i64 (Ad m 5)),(4,.agg (cv (Aq m.cube.1) (Aq m.cube.2))),(5,.int .i64 (Ad m 6)),(6,.int .i64 (Ad m 7)),(7,.int .i64 (Ad m 8))]).run aA W=.ok (.agg (Ab x)) W):=fun W=>by rw[HX.out];exact VH 3 (Ad m 1) (Ad m 3) (Ad m 5) (Ad m 6) (Ad m 7) (Ad m 8) m.cube W
 clear hm hk hx hw0 MC;go_enter Tryz.func84,Tryz.ntmps84
 go_wp2_with (first
  | ((with_reducible refine FW rfl ?_);refine C9 rfl rfl ?_;try rw[AI])
  | ((with_reducible refine Bf 25 _ rfl ?_);refine Bc Ds rfl _ rfl w.heap.size 14 rfl _ _ _ (cv (Aq m.cube.1) (Aq m.cube.2)) HCS.out Z0.out HCU.out ?_)
  | ((with_reducible refine BP 75 _ rfl ?_);refine Jq rfl _ _ rfl _ (by simp only[aR,aI,aJ];rfl) _ (BI.out _) ?_)
  | (((with_reducible refine Ex _ _ rfl ?_);refine BV rfl _ _ rfl w0.heap.size x Av rfl rfl (Ac _ _ _ rfl) _ (BD _ _ _ _ _ rfl) ?_);refine Aw ?_))
 unfold AZ;obtain⟨w1,hw1⟩:=eX (w0.alloc (.cells (Ab x) 75));rw[←hw1];obtain⟨q,hq⟩:=eX w0.heap.size;rw[←hq];have B1:Hid (Below w.heap.size w w1):=by show Below _ _ _;rw[hw1];exact B0.out.alloc B0.out.size _
 have Y0:Hid (w1.heap[w.heap.size]?=some (.cells (Ah m) 27 (0,0))):=by show _=_;rw[hw1];exact Af _ _ _ _ Z0.out
 have Y1:Hid (w1.heap[w.heap.size+1]?=some (.cells (Ab Av) 75 (0,0))):=by show _=_;rw[hw1];exact Af _ _ _ _ Z1.out
 have Y2:Hid (w1.heap[q]?=some (.cells (Ab x) 75 (0,0))):=by show _=_;rw[hw1];exact Ac _ _ _ hq
 have Qq:Hid (q=w.heap.size+2):=by show q=_;rw[hq];exact Zs.out
 have e0':w1.cell? ⟨w.heap.size,0,none⟩=some (.int .i64 k):=by rw[cell_of_row w1 _ 0 _ _ _ Y0.out,HK.out];exact Cx m
 clear e0 e2 e4 e6 e7 e8 e9 hw0' hw1 hq Z0 Z1 Zs B0 BI HCU HCS;by_cases hk2:k=2
 ·have hk2':(k==2)=true:=by simpa using hk2
  have hY2:=Y2.out;have fz:w1.frozen? ⟨q,0,none⟩=false:=by unfold World.frozen?;simp only[hY2];rfl
  have fc:w1.cell? ⟨q,0,none⟩=some (.int .i64 3):=by have:=(DP hY2).c0;rw[HX.out] at this;exact this
  obtain⟨y,hy⟩:∃y:Ae,y={x with bank:=2}:=⟨_,rfl⟩
  have HY:Hid (y=JO m):=by
   show y=_;rw[hy,HX.out];unfold JO;rw[if_pos (by rw[←HK.out];exact hk2)]
  have SR:w1.setCell ⟨q,0,none⟩ (.int .i64 2)=w1.setRow q (Ab y):=by
   rw[hy,Aaf];exact setCell_eq_setRow w1 q 0 _ _ _ _ hY2
  obtain⟨w2,hw2⟩:=eX (w1.setRow q (Ab y));rw[←hw2] at SR;have X2:Hid (w2.heap[q]?=some (.cells (Ab y) 75 (0,0))):=by show _=_;rw[hw2];exact setRow_heap _ _ _ _ _ _ hY2
  have X1:Hid (w2.heap[w.heap.size+1]?=some (.cells (Ab Av) 75 (0,0))):=by show _=_;rw[hw2,setRow_other _ _ _ _ (by have:=Qq.out;omega)];exact Y1.out
  have B2:Hid (Below w.heap.size w w2):=by show Below _ _ _;rw[hw2];exact Ak B1.out (by have:=Qq.out;omega) _
  clear hw2 hy hY2
  go_wp2_with (first
   | ((with_reducible refine Gs _ rfl ?_);refine Cw rfl _ rfl q 0 rfl y (FJ X2.out) ?_)
   | ((with_reducible refine Ex _ _ rfl ?_);refine BV rfl _ _ rfl (w.heap.size+1) y Av rfl rfl X1.out _ rfl ?_))
  refine JG Pg (p:=2) rfl rfl (w.heap.size+1) rfl (Ab y) (AK _) (setRow_heap _ _ _ _ _ _ X1.out) ⟨by rw[HY.out],?_⟩;exact Ak B2.out (by omega) _
 ·have hk2':(k==2)=false:=by simpa using hk2
  have HY:Hid (x=JO m):=by
   show x=_;rw[HX.out];unfold JO;rw[if_neg (by rw[←HK.out];exact hk2)]
  go_wp2_with (first
   | ((with_reducible refine Gs _ rfl ?_);refine Cw rfl _ rfl q 0 rfl x (FJ Y2.out) ?_)
   | ((with_reducible refine Ex _ _ rfl ?_);refine BV rfl _ _ rfl (w.heap.size+1) x Av rfl rfl Y1.out _ rfl ?_))
  refine JG Pg (p:=2) rfl rfl (w.heap.size+1) rfl (Ab x) (AK _) (setRow_heap _ _ _ _ _ _ Y1.out) ⟨by rw[HY.out],?_⟩;exact Ak B1.out (by omega) _
theorem An.newRow{B:Nat}{w W:World}{g gt gh gw:Nat}{R:Rm}{n:Ap Ay}{r:DU}{O:Nat→Prop}(a:An B w W g gt gh gw R n r O)(cs:Array Value)(t:TypeId):An B w (W.alloc (.cells cs t)) g gt gh gw R n r (fun k=>O k∨k=W.heap.size):=
 a.more ((aO _ _).alloc (aL _) _) fun k hk=>by
  rcases hk with e | rfl
  ·exact .inl e
  ·exact .inr ⟨aL _,by rw[AI];exact aQ _⟩
theorem OO(R:Rm)(n:Ap Ay)(m:Aj)(now:Int):JL (Ar R) n m now=BR (if ((Ar R).learn n.tab now (Ad m 1) m.cube (Ad m 6)).2.2=true then BR (Bm n ((Ar R).learn n.tab now (Ad m 1) m.cube (Ad m 6)).1) ⟨11,0,0,0,((Ar R).learn n.tab now (Ad m 1) m.cube (Ad m 6)).2.1.epoch,((Ar R).learn n.tab now (Ad m 1) m.cube (Ad m 6)).2.1.action,0,0,Z,((Ar R).learn n.tab now (Ad m 1) m.cube (Ad m 6)).2.1.cube⟩ else Bm n ((Ar R).learn n.tab now (Ad m 1) m.cube (Ad m 6)).1) ⟨10,0,0,0,Ad m 1,Ad m 6,0,0,Z,m.cube⟩:=rfl
theorem Zk{room:Nat}(h:room=0)(C:List Ae)(s:Ae):BO room C s=(C,Av,false,13):=by rw[h,Mk]
theorem Xr{room:Nat}(h:room≠0)(C:List Ae)(s:Ae):(BO room C s).2.2.2=0:=by
 unfold BO;rw[if_neg h];split
 ·rfl
 ·split
  ·split <;> rfl
  ·rfl
theorem Tu(B:Nat)(w:World)(g gt gh gw:Nat)(R:Rm)(n:Ap Ay)(r:DU)(h:BT B w g gt gh gw R n r){M:Nat}(hi:AQ M R n)(hM:M≤900000)(m:Aj)(hm:Bj m)(now:Int):
  Calls aA 90 #[.pointer (some ⟨g,0,none⟩),.agg (Ah m),.int .i64 now] w fun e w'=>e=.returned (.bool (decide (n.cache≠0)))∧CZ B w w' g gt gh gw R (if n.cache≠0 then JL (Ar R) n m now else n) r:=by
 obtain⟨w0,hw0⟩:∃w0,w0=w.alloc (.cells (Ah m) 27):=⟨_,rfl⟩;have B0:Below w.heap.size w w0:=by rw[hw0];exact(aO _ _).alloc (aL _) _
 have Z00:w0.heap[w.heap.size]?=some (.cells (Ah m) 27 (0,0)):=by rw[hw0];exact Ac _ _ _ rfl
 have Z0:Hid ((aH w0).heap[w.heap.size]?=some (.cells (Ah m) 27 (0,0))):=Z00;have A0:Hid (An B w (aH w0) g gt gh gw R n r (fun k=>k=w.heap.size)):=An.begin h B0.drew (by rintro k rfl;exact⟨aL _,by show _<w0.heap.size;rw[hw0,AI];exact aQ _⟩);have HCU:Hid (∀j,j<26→(Ah m)[14+j]?=(cv (Aq m.cube.1) (Aq m.cube.2))[j]?):=fun j hj=>by rw[DH hm.2.1.1,DH hm.2.2.1.1];exact Hz hm j hj
 have HCS:Hid ((cv (Aq m.cube.1) (Aq m.cube.2)).size=26):=AO _ _ (AB _) (AB _);obtain⟨S',hS'⟩:∃S',S'=((Ar R).learn n.tab now (Ad m 1) m.cube (Ad m 6)).1:=⟨_,rfl⟩;obtain⟨s,hs⟩:∃s,s=((Ar R).learn n.tab now (Ad m 1) m.cube (Ad m 6)).2.1:=⟨_,rfl⟩;obtain⟨b,hb⟩:∃b,b=((Ar R).learn n.tab now (Ad m 1) m.cube (Ad m 6)).2.2:=⟨_,rfl⟩;obtain⟨er,her⟩:∃er,er=(BO R.cache n.tab.c (BB now (Ad m 1) (AC m.cube) (Ad m 6))).2.2.2:=⟨_,rfl⟩
 have CL:Hid (∀W O,An B w W g gt gh gw R n r O→Calls aA 119 #[.pointer (some ⟨gt,0,none⟩),.int .i64 now,.int .i64 (Ad m 1),.agg (cv (Aq m.cube.1) (Aq m.cube.2)),.int .i64 (Ad m 6)] W fun e w'=>e=.returned (.tuple #[.agg (Ab s),.bool b,.int .i64 er])∧An B w w' g gt gh gw R (Bm n S') r O∧Ec O W w'):=fun W O hW=>by
  rw[hS',hs,hb,her];refine hW.call fun u hu=> ?_;have hc1:=hi.tab.inv.lc;have hc2:=hi.room;refine(Xs B W gt R n.tab u.v1 u.v2 u.v3 hu.tab now (Ad m 1) m.cube (Ad m 6) ⟨hm.2.1,hm.2.2.1⟩ (by omega) hi.tab.dist fun y hy=>(hi.tab.inv.c y hy).2.2.2.2.2.2.2).mono fun e w' q=>⟨q.1,hu.setTab q.2⟩
 have hlg:=hi.log;have e0:=OO R n m now
 have HNO:Hid (n.cache=0→(Bm n S'=n∧b=false∧er=13)):=fun h0=>by
  have h1:=Zk (by have:=hi.cache;omega:R.cache=0) n.tab.c (BB now (Ad m 1) (AC m.cube) (Ad m 6));refine⟨?_,?_,by rw[her,h1]⟩
  ·rw[hS'];show Bm n {n.tab with c:=(BO R.cache n.tab.c (BB now (Ad m 1) (AC m.cube) (Ad m 6))).1}=_;rw[h1];rfl
  ·rw[hb];show(BO R.cache n.tab.c (BB now (Ad m 1) (AC m.cube) (Ad m 6))).2.2.1=_;rw[h1]
 have HYES:Hid (n.cache≠0→er=0):=fun h0=>by rw[her];exact Xr (by have:=hi.cache;omega) _ _
 rw[←hS', ←hs, ←hb] at e0;obtain⟨ep,hep⟩:∃ep,ep=Ad m 1:=⟨_,rfl⟩;obtain⟨ac,hac⟩:∃ac,ac=Ad m 6:=⟨_,rfl⟩;have HEP:Hid (ep=Ad m 1):=hep;have HAC:Hid (ac=Ad m 6):=hac;rw[←hep, ←hac] at CL e0;have HM:Hid (Bj m):=hm;obtain⟨nu,hnu⟩:∃nu,nu=n.num:=⟨_,rfl⟩;obtain⟨le,hle⟩:∃le,le=n.lease:=⟨_,rfl⟩;obtain⟨be,hbe⟩:∃be,be=n.beat:=⟨_,rfl⟩;have HNU:Hid ((n.num=nu∧n.lease=le∧n.beat=be)∧(Bm n S').num=nu∧(Bm n S').lease=le∧(Bm n S').beat=be):=⟨⟨hnu.symm,hle.symm,hbe.symm⟩,hnu.symm,hle.symm,hbe.symm⟩;have HS0:Hid (Dv g gt gh gw nu le be (fun W=>W.heap[w.heap.size]?=some (.cells (Ah m) 27 (0,0))) (aH w0)):=A0.out.inN HNU.out.1.1 HNU.out.1.2.1 HNU.out.1.2.2 Z0.out;have hw0':=hw0.symm;have HLG0:Hid (n.log.length≤1000000):=by show _≤_;omega
 have HLG1:Hid (n.log.length+1≤1000000):=by show _≤_;omega
 have HE0:Hid _:=e0;clear hi hM hm hnu hle hbe hep hac hw0 B0 Z00 hlg hS' hs hb her e0 h;go_enter Tryz.func90,Tryz.ntmps90;go_wp2_with fail;have e4:∀z:Fh g gt gh gw nu le be (fun W=>W.heap[w.heap.size]?=some (.cells (Ah m) 27 (0,0))),z.world.cell? ⟨g,4,none⟩=some (.pointer (some ⟨gt,0,none⟩)):=fun z=>z.c4;have ne9:Nonempty (Fh g gt gh gw nu le be (fun W=>W.heap[w.heap.size]?=some (.cells (Ah m) 27 (0,0)))):=by obtain⟨z,_⟩:=HS0.out;exact⟨z⟩
 have e2:∀z:Fh g gt gh gw nu le be (fun W=>W.heap[w.heap.size]?=some (.cells (Ah m) 27 (0,0))),z.world.cell? ⟨w.heap.size,2,none⟩=some (.int .i64 ep):=fun z=>by rw[HEP.out];exact(Ci HM.out z.x).n 1 (by decide)
 have e7:∀z:Fh g gt gh gw nu le be (fun W=>W.heap[w.heap.size]?=some (.cells (Ah m) 27 (0,0))),z.world.cell? ⟨w.heap.size,7,none⟩=some (.int .i64 ac):=fun z=>by rw[HAC.out];exact(Ci HM.out z.x).n 6 (by decide)
 refine Em ?_;refine BJ (Dv g gt gh gw nu le be (fun W=>W.heap[w.heap.size]?=some (.cells (Ah m) 27 (0,0)))) 20 rfl (by kernel_rfl) ?_;refine AV [0,4,5,7,9,1,6,8,10,2,3] 11 9 rfl (by kernel_rfl) (by decide) (by kernel_rfl) (by kernel_rfl) (by intro d v c a w h;exact absurd h.1 (by simp)) HS0.out ?_;simp only[Df,aI,aJ,aD,aK,aN]
 iterate 7 (go_big_quiet_step (fail))
 refine G5 Ds rfl _ rfl w.heap.size 14 rfl _ _ _ (cv (Aq m.cube.1) (Aq m.cube.2)) HCS.out (fun w' h=>by obtain⟨z,rfl⟩:=h;exact z.x) HCU.out ?_;simp only[aT,aB,aG,aC]
 iterate 3 (go_big_quiet_step (fail))
 refine wpQuiet_nil ?_;refine wpAnyH_all (rs:=[11,16]) (by kernel_rfl) (by decide) ?_;intro i hi;simp only[List.mem_cons,List.not_mem_nil,or_false] at hi;rcases hi with rfl | rfl
 focus
  refine Bp rfl rfl 119 #[.tmp 14,.tmp 15,.tmp 17,.tmp 19,.tmp 21] (by intro b w;have hf:=Tryz.func119;simp[go_sem]) #[.pointer (some ⟨gt,0,none⟩),.int .i64 now,.int .i64 ep,.agg (cv (Aq m.cube.1) (Aq m.cube.2)),.int .i64 ac] rfl (fun v w'=>v=.tuple #[.agg (Ab s),.bool b,.int .i64 er]∧An B w w' g gt gh gw R (Bm n S') r (fun k=>k=w.heap.size)∧Ec (fun k=>k=w.heap.size) (aH w0) w') ((CL.out (aH w0) _ A0.out).mono fun e w' h=>⟨_,h.1,rfl,h.2⟩) (some 22) rfl ?_;rintro v w2 ⟨rfl,a2,k2⟩;have A2:Hid _:=a2;have Z2:Hid (w2.heap[w.heap.size]?=some (.cells (Ah m) 27 (0,0))):=(k2 _ rfl).trans Z0.out;clear a2 k2;have I2:Hid (Dv g gt gh gw nu le be (fun W=>W.heap[w.heap.size]?=some (.cells (Ah m) 27 (0,0))) w2):=A2.out.inN HNU.out.2.1 HNU.out.2.2.1 HNU.out.2.2.2 Z2.out;refine⟨I2.out,?_⟩;simp only[aT,aB,aG,aC];refine AV [12,13,14,15] 4 4 rfl (by kernel_rfl) (by decide) (by kernel_rfl) (by kernel_rfl) (by intro d v c a w h;exact absurd h.1 (by simp)) I2.out ?_;simp only[Df,aI,aJ,aD,aK,aN]
  iterate 4 (go_big_quiet_step (fail))
  refine wpQuiet_nil ?_;refine Bb 16 (by kernel_rfl) ?_;refine Hi D8 rfl rfl rfl (some 7) rfl ?_;obtain⟨p,hp⟩:∃p,p=(w2).heap.size:=⟨_,rfl⟩;rw[←hp];obtain⟨wa,hwa⟩:∃wa,wa=(w2).alloc (.cells DD.zero DD.elem):=⟨_,rfl⟩;rw[←hwa];have Aa:Hid (An B w wa g gt gh gw R (Bm n S') r (fun k=>k=w.heap.size∨k=p)):=by show An _ _ _ _ _ _ _ _ _ _ _;rw[hwa,hp];exact A2.out.newRow _ _
  have Ya:Hid (wa.heap[p]?=some (.cells (Ab Av) 75 (0,0))):=by show _=_;rw[hwa];exact Ac _ _ _ hp
  have Za:Hid (wa.heap[w.heap.size]?=some (.cells (Ah m) 27 (0,0))):=by show _=_;rw[hwa];exact Af _ _ _ _ Z2.out
  have Hp:Hid (w.heap.size≠p):=by show _≠_;have:=(aP.1 (Z2.out)).1;omega
  clear hp hwa;have Ia:Hid (Dv g gt gh gw nu le be (fun W=>W.heap[w.heap.size]?=some (.cells (Ah m) 27 (0,0))) wa):=Aa.out.inN HNU.out.2.1 HNU.out.2.2.1 HNU.out.2.2.2 Za.out;refine⟨Ia.out,?_⟩;simp only[aT,aB,aG,aC];refine Bb 17 (by kernel_rfl) ?_;refine Gx Pg rfl rfl _ _ rfl p (Ab s) (Hu s) rfl rfl _ Ya.out (AK _) none rfl ?_;obtain⟨w3,hw3⟩:∃w3,w3=(wa).setRow p (Ab s):=⟨_,rfl⟩;rw[←hw3];have A3:Hid (An B w w3 g gt gh gw R (Bm n S') r (fun k=>k=w.heap.size∨k=p)):=by show An _ _ _ _ _ _ _ _ _ _ _;rw[hw3];exact Aa.out.row (.inr rfl) _
  have Z3:Hid (w3.heap[w.heap.size]?=some (.cells (Ah m) 27 (0,0))):=by show _=_;rw[hw3,setRow_other _ _ _ _ Hp.out];exact Za.out
  have Y3:Hid (w3.heap[p]?=some (.cells (Ab s) 75 (0,0))):=by show _=_;rw[hw3];exact setRow_heap _ _ _ _ _ _ Ya.out
 rotate_left
 focus
  refine Hi D8 rfl rfl rfl (some 7) rfl ?_;obtain⟨p,hp⟩:∃p,p=(aH w0).heap.size:=⟨_,rfl⟩;rw[←hp];obtain⟨wa,hwa⟩:∃wa,wa=(aH w0).alloc (.cells DD.zero DD.elem):=⟨_,rfl⟩;rw[←hwa];have Aa:Hid (An B w wa g gt gh gw R n r (fun k=>k=w.heap.size∨k=p)):=by show An _ _ _ _ _ _ _ _ _ _ _;rw[hwa,hp];exact A0.out.newRow _ _
  have Ya:Hid (wa.heap[p]?=some (.cells (Ab Av) 75 (0,0))):=by show _=_;rw[hwa];exact Ac _ _ _ hp
  have Za:Hid (wa.heap[w.heap.size]?=some (.cells (Ah m) 27 (0,0))):=by show _=_;rw[hwa];exact Af _ _ _ _ Z0.out
  have Hp:Hid (w.heap.size≠p):=by show _≠_;have:=(aP.1 (Z0.out)).1;omega
  clear hp hwa;have Ia:Hid (Dv g gt gh gw nu le be (fun W=>W.heap[w.heap.size]?=some (.cells (Ah m) 27 (0,0))) wa):=Aa.out.inN HNU.out.1.1 HNU.out.1.2.1 HNU.out.1.2.2 Za.out;refine⟨Ia.out,?_⟩;simp only[aT,aB,aG,aC];refine Bb 11 (by kernel_rfl) ?_;refine Bp rfl rfl 119 #[.tmp 14,.tmp 15,.tmp 17,.tmp 19,.tmp 21] (by intro b w;have hf:=Tryz.func119;simp[go_sem]) #[.pointer (some ⟨gt,0,none⟩),.int .i64 now,.int .i64 ep,.agg (cv (Aq m.cube.1) (Aq m.cube.2)),.int .i64 ac] rfl (fun v w'=>v=.tuple #[.agg (Ab s),.bool b,.int .i64 er]∧An B w w' g gt gh gw R (Bm n S') r (fun k=>k=w.heap.size∨k=p)∧Ec (fun k=>k=w.heap.size∨k=p) (wa) w') ((CL.out (wa) _ Aa.out).mono fun e w' h=>⟨_,h.1,rfl,h.2⟩) (some 22) rfl ?_;rintro v w2 ⟨rfl,a2,k2⟩;have A2:Hid _:=a2;have Z2:Hid (w2.heap[w.heap.size]?=some (.cells (Ah m) 27 (0,0))):=(k2 _ (.inl rfl)).trans Za.out;have Y2:Hid (w2.heap[p]?=some (.cells (Ab Av) 75 (0,0))):=(k2 _ (.inr rfl)).trans Ya.out;clear a2 k2;have I2:Hid (Dv g gt gh gw nu le be (fun W=>W.heap[w.heap.size]?=some (.cells (Ah m) 27 (0,0))) w2):=A2.out.inN HNU.out.2.1 HNU.out.2.2.1 HNU.out.2.2.2 Z2.out;refine⟨I2.out,?_⟩;simp only[aT,aB,aG,aC]
  refine AV [12,13,14,15] 4 3 rfl (by kernel_rfl) (by decide) (by kernel_rfl) (by kernel_rfl) (by intro d v c a w h;exact absurd h.1 (by simp)) I2.out ?_;simp only[Df,aI,aJ,aD,aK,aN]
  iterate 4 (go_big_quiet_step (fail))
  refine wpQuiet_nil ?_;refine Bb 17 (by kernel_rfl) ?_;refine Gx Pg rfl rfl _ _ rfl p (Ab s) (Hu s) rfl rfl _ Y2.out (AK _) none rfl ?_;obtain⟨w3,hw3⟩:∃w3,w3=(w2).setRow p (Ab s):=⟨_,rfl⟩;rw[←hw3];have A3:Hid (An B w w3 g gt gh gw R (Bm n S') r (fun k=>k=w.heap.size∨k=p)):=by show An _ _ _ _ _ _ _ _ _ _ _;rw[hw3];exact A2.out.row (.inr rfl) _
  have Z3:Hid (w3.heap[w.heap.size]?=some (.cells (Ah m) 27 (0,0))):=by show _=_;rw[hw3,setRow_other _ _ _ _ Hp.out];exact Z2.out
  have Y3:Hid (w3.heap[p]?=some (.cells (Ab s) 75 (0,0))):=by show _=_;rw[hw3];exact setRow_heap _ _ _ _ _ _ Y2.out
 all_goals
  clear hw3;have I3:Hid (Dv g gt gh gw nu le be (fun W=>W.heap[w.heap.size]?=some (.cells (Ah m) 27 (0,0))) w3):=A3.out.inN HNU.out.2.1 HNU.out.2.2.1 HNU.out.2.2.2 Z3.out;refine⟨I3.out,?_⟩;simp only[aT];refine AV [18,19] 2 0 rfl (by kernel_rfl) (by decide) (by kernel_rfl) (by kernel_rfl) (by intro d v c a w h;exact absurd h.1 (by simp)) I3.out ?_;simp only[Df,aI,aJ,aD,aK,aN];go_big_quiet_step (fail);go_big_quiet_step (fail);refine wpQuiet_nil ?_;refine wpAnyH_done (by kernel_rfl) ?_ _;refine⟨rfl,?_⟩;by_cases hc0:n.cache=0
  focus
   obtain⟨q1,rfl,rfl⟩:=HNO.out hc0;have HC:Hid (n.cache=0):=hc0;clear hc0;go_wp2_with fail;go_ret;have h1:=A3.out.to;rw[q1] at h1;exact⟨rfl,by simpa[HC.out] using h1⟩
  obtain rfl:=HYES.out hc0;have HC:Hid (n.cache≠0):=hc0;clear hc0
  cases b
  focus
   obtain⟨N9,hn9⟩:∃N9,N9=BR (Bm n S') ⟨10,0,0,0,ep,ac,0,0,Z,m.cube⟩:=⟨_,rfl⟩;have HEN:Hid (JL (Ar R) n m now=N9):=HE0.out.trans hn9.symm;have HN9:Hid (N9=BR (Bm n S') ⟨10,0,0,0,ep,ac,0,0,Z,m.cube⟩):=hn9;have HLG:Hid ((Bm n S').log.length≤1000000):=HLG0;obtain⟨w4,hw4⟩:∃w4,w4=w3:=⟨_,rfl⟩;have Z4:Hid _:=Z3;have A4:Hid _:=A3;rw[←hw4] at Z4 A4 ⊢;clear hn9 hw4
  rotate_left
  focus
   obtain⟨se,hse⟩:∃se,se=s.epoch:=⟨_,rfl⟩;obtain⟨sa,hsa⟩:∃sa,sa=s.action:=⟨_,rfl⟩;have HSE:Hid (se=s.epoch):=hse;have HSA:Hid (sa=s.action):=hsa;obtain⟨N8,hn8⟩:∃N8,N8=BR (Bm n S') ⟨11,0,0,0,se,sa,0,0,Z,s.cube⟩:=⟨_,rfl⟩;have HN8:Hid (N8=BR (Bm n S') ⟨11,0,0,0,se,sa,0,0,Z,s.cube⟩):=hn8;obtain⟨N9,hn9⟩:∃N9,N9=BR N8 ⟨10,0,0,0,ep,ac,0,0,Z,m.cube⟩:=⟨_,rfl⟩;have HN9:Hid (N9=BR N8 ⟨10,0,0,0,ep,ac,0,0,Z,m.cube⟩):=hn9;have HEN:Hid (JL (Ar R) n m now=N9):=HE0.out.trans (by rw[if_pos rfl, ←hse, ←hsa, ←hn8, ←hn9])
   have HLG:Hid (N8.log.length≤1000000):=by
    show _≤_;rw[hn8];show(n.log++_).length≤_;rw[List.length_append,List.length_singleton];exact HLG1.out
   clear hn9 hn8 hse hsa;have f1:w3.cell? ⟨p,1,none⟩=some (.int .i64 se):=by rw[HSE.out];have:=(DP Y3.out).c1;rw[aM] at this;exact this
   have f30:w3.cell? ⟨p,30,none⟩=some (.int .i64 sa):=by rw[HSA.out];have:=(DP Y3.out).c30;rw[aM] at this;exact this
   have CE:=A3.out.call (n'':=N8) (P:=fun e _=>e=.returned (.tuple #[])) fun u hu=>by rw[HN8.out];exact Lh B w3 g gt gh gw R _ u hu (HLG0.out) ⟨11,0,0,0,se,sa,0,0,Z,s.cube⟩
   go_wp2_with (first
    | (refine IN rfl _ rfl p 4 rfl _ _ _ (Aq s.cube.1) (Aq s.cube.2) (AB _) (AB _) Y3.out (fun j hj=>FY s j hj) ?_)
    | ((with_reducible refine BP 56 _ rfl ?_);refine Jq rfl _ _ rfl #[(0,.int .i64 11),(4,.int .i64 se),(5,.int .i64 sa),(9,.agg (cv (Aq s.cube.1) (Aq s.cube.2)))] (by simp only[aR,aI,aJ];rfl) _ (SL 11 se sa s.cube _) ?_)
    | (go_at_call 38;refine CE.mono ?_;rintro e w4 ⟨rfl,a4,k4⟩;have A4:Hid _:=a4;have K4:Hid _:=k4;clear a4 k4 CE;refine Aw ?_))
   unfold AZ;have Z4:Hid (w4.heap[w.heap.size]?=some (.cells (Ah m) 27 (0,0))):=(K4.out _ (.inl rfl)).trans Z3.out
  all_goals
   have m2:w4.cell? ⟨w.heap.size,2,none⟩=some (.int .i64 ep):=by rw[HEP.out];exact(Ci HM.out Z4.out).n 1 (by decide)
   have m7:w4.cell? ⟨w.heap.size,7,none⟩=some (.int .i64 ac):=by rw[HAC.out];exact(Ci HM.out Z4.out).n 6 (by decide)
   have CN:=A4.out.call (n'':=N9) (P:=fun e _=>e=.returned (.tuple #[])) fun u hu=>by rw[HN9.out];exact Lh B w4 g gt gh gw R _ u hu (HLG.out) ⟨10,0,0,0,ep,ac,0,0,Z,m.cube⟩
   go_wp2_with (first
    | ((with_reducible refine Bf 25 _ rfl ?_);refine Bc Ds rfl _ rfl w.heap.size 14 rfl _ _ _ (cv (Aq m.cube.1) (Aq m.cube.2)) HCS.out Z4.out HCU.out ?_)
    | ((with_reducible refine BP 56 _ rfl ?_);refine Jq rfl _ _ rfl #[(0,.int .i64 10),(4,.int .i64 ep),(5,.int .i64 ac),(9,.agg (cv (Aq m.cube.1) (Aq m.cube.2)))] (by simp only[aR,aI,aJ];rfl) _ (SL 10 ep ac m.cube _) ?_)
    | (go_at_call 38;refine CN.mono ?_;rintro e w5 ⟨rfl,a5⟩;have A5:Hid _:=a5;clear a5 CN))
   go_ret;exact⟨rfl,by rw[HEN.out];exact A5.out.1.to⟩
theorem Th(B:Nat)(w:World)(g gt gh gw:Nat)(R:Rm)(n:Ap Ay)(r:DU)(h:BT B w g gt gh gw R n r){M:Nat}(hi:AQ M R n)(ep:Int):
  Calls aA 89 #[.pointer (some ⟨g,0,none⟩),.int .i64 ep] w fun e w'=>(∃v,e=.returned v∧DF w' v (qX n.tab ep))∧Below w.heap.size w w':=by
 have c4:=h.f.c4
 have CR:Calls aA 118 #[.pointer (some ⟨gt,0,none⟩),.int .i64 ep] w fun e w'=> ∃(L:List Ae) (o:Option Addr) (k c:Nat),e=.returned (.slice o k c)∧k=L.length∧L.map FF=qX n.tab ep∧(k≤4096∧∀x∈L,E6 x.cube)∧Am w.heap.size w' (.slice o k c) L∧Below w.heap.size w w':=by
  have hc1:=hi.tab.inv.la;have hc2:=hi.room;refine(WB B w gt R n.tab r.v1 r.v2 r.v3 h.tab ep (by omega)).mono fun e w' q=> ?_;obtain⟨⟨u,L,rfl,q2,q3⟩,q4⟩:=q;obtain⟨o,c,e1,_⟩:=q3.slice;have e2:=Abu q2;have hle:=Aav n.tab ep;rw[←e2,aX] at hle;have e3:=Qm q2;rw[e1] at q3;refine⟨L,o,L.length,c,by rw[e1],rfl,e2,⟨by omega,fun x hx=> ?_⟩,q3,q4⟩;rw[e3] at hx;exact(hi.tab.inv.a x (List.mem_filter.1 ((Pt _ _).1 hx)).1).2.2.2.2.2.2.2
 clear h hi;go_enter Tryz.func89,Tryz.ntmps89;go_wp2_with (go_at_call 118;refine CR.mono ?_;rintro e w1 ⟨L,o,k,c,rfl,hk0,hq,hok,hL,hb⟩;have HK:Hid (k=L.length):=hk0;have HQ:Hid _:=hq;have HOK:Hid (k≤4096∧_):=hok;have HL:Hid (Am w.heap.size w1 (.slice o k c) L):=hL;have HB1:Hid _:=hb;clear hk0 hq hok hL hb CR;refine Aw ?_);unfold AZ;clear c4
 have HQ8:Hid (∀x∈qX n.tab ep,D0 x):=fun x hx=>by
  rw[←HQ.out] at hx;obtain⟨y,hy,rfl⟩:=List.mem_map.1 hx;exact HOK.out.2 y hy
 have hk9:k≤4096:=HOK.out.1;go_wp2_with fail;go_loopw [5,15] (fun s5 i wr=> ∃j:Nat,j≤k∧i=.int .i64 (j:Int)∧Hid (wr.ownsRow w1.heap.size 174 28 s5 ((L.take j).map FF).length (Bh AE ((L.take j).map FF)))∧Hid (Below w1.heap.size w1 wr)) (fun _ i _=>k-(intOf i).toNat)
 case atStart=>exact⟨0,Nat.zero_le _,rfl,World.ownsRow_nil _ _ _ _,aO _ _⟩
 case round=>
  obtain⟨j,hj,rfl,HO,HB⟩:=hrel;by_cases hlt:j<k
  ·have hlt':(j:Int)<(k:Int):=by omega
   obtain⟨gb,off,cur,ty,fr,x,rfl,hgb,hcc,hxa⟩:=(HL.out.below HB.out).sl.at j hlt;have LD:Hid ((loadVar 75 ⟨gb,off+j*36,none⟩).run aA wr=.ok (.agg (Ab x)) wr):=Io hgb hcc;have hcx:E6 x.cube:=HOK.out.2 x (List.mem_of_getElem? hxa);have HRX:Hid (FF x=⟨x.order,(Aq x.cube.1,Aq x.cube.2),x.action⟩):=by show _=_;rw[DH hcx.1.1,DH hcx.2.1];rfl
   have HR8:Hid (D0 (⟨x.order,(Aq x.cube.1,Aq x.cube.2),x.action⟩:AN)):=by rw[←HRX.out];exact hcx
   have HTK:Hid ((L.take (j+1)).map FF=(L.take j).map FF++[⟨x.order,(Aq x.cube.1,Aq x.cube.2),x.action⟩]):=by
    show _=_;rw[List.take_add_one,hxa,Option.toList_some,List.map_append,List.map_singleton,HRX.out]
   have HLN:Hid (((L.take j).map FF).length≤4096):=by
    show _≤_;rw[aX];have:=List.length_take_le j L;omega
   obtain⟨r',hr'⟩:∃r':AN,r'=⟨x.order,(Aq x.cube.1,Aq x.cube.2),x.action⟩:=⟨_,rfl⟩;have hsz:(AE ⟨x.order,(Aq x.cube.1,Aq x.cube.2),x.action⟩).size=28:=Ek HR8.out;obtain⟨wx,hwx⟩:∃wx,wx=wr.alloc (.cells (Ab x) 75):=⟨_,rfl⟩;have Zx:Hid (wx.heap[wr.heap.size]?=some (.cells (Ab x) 75 (0,0))):=by show _=_;rw[hwx];exact Ac _ _ _ rfl
   obtain⟨xo,hxo⟩:∃xo,xo=x.order:=⟨_,rfl⟩;obtain⟨xc,hxc⟩:∃xc,xc=x.action:=⟨_,rfl⟩;have f3:wx.cell? ⟨wr.heap.size,3,none⟩=some (.int .i64 xo):=by rw[hxo];have:=(DP Zx.out).c3;rw[aM] at this;exact this
   have f30:wx.cell? ⟨wr.heap.size,30,none⟩=some (.int .i64 xc):=by rw[hxc];have:=(DP Zx.out).c30;rw[aM] at this;exact this
   rw[←hxo, ←hxc] at HRX HR8 HTK hsz;have SRx:(wr.alloc (.cells (Ab Av) 75)).setRow wr.heap.size (Ab x)=wx:=by rw[hwx];exact BD _ _ _ _ _ rfl
   have Bx:Hid (Below w1.heap.size w1 wx):=by show Below _ _ _;rw[hwx];exact HB.out.alloc HB.out.size _
   have Ox:Hid (wx.ownsRow w1.heap.size 174 28 u5 ((L.take j).map FF).length (Bh AE ((L.take j).map FF))):=by show aZ _ _ _ _ _ _ _;rw[hwx];exact HO.out.alloc _
   clear hxo hxc hwx hgb hcc hxa hcx hr' r'
   go_wp2_with (first
    | ((with_reducible refine FW rfl ?_);refine C9 rfl rfl ?_;try rw[AI])
    | ((with_reducible refine Gs _ rfl ?_);refine Cw rfl _ rfl gb (off+j*36) rfl x LD.out ?_)
    | (((with_reducible refine Ex _ _ rfl ?_);refine BV rfl _ _ rfl wr.heap.size x Av rfl rfl (Ac _ _ _ rfl) _ SRx ?_);refine Aw ?_))
   unfold AZ;clear SRx HO;have Ox2:Hid ((wx.alloc (.cells (AE ⟨xo,(Aq x.cube.1,Aq x.cube.2),xc⟩) 174)).ownsRow w1.heap.size 174 28 u5 ((L.take j).map FF).length (Bh AE ((L.take j).map FF))):=Ox.out.alloc _
   go_wp2_with (first
    | (refine IN rfl _ rfl wr.heap.size 4 rfl _ _ _ (Aq x.cube.1) (Aq x.cube.2) (AB _) (AB _) Zx.out (fun j hj=>FY x j hj) ?_)
    | (refine Wd rfl _ _ _ rfl xo (Aq x.cube.1) (Aq x.cube.2) xc (AB _) (AB _) rfl rfl rfl ?_)
    | (refine IOx (E:=Dh) Fg rfl _ rfl (AE ⟨xo,(Aq x.cube.1,Aq x.cube.2),xc⟩) hsz rfl ?_)
    | (at_builtin;refine Aw ?_))
   unfold AZ;refine H9 (E:=Dh) Fg AE rfl _ _ rfl w1.heap.size u5 ((L.take j).map FF) ⟨xo,(Aq x.cube.1,Aq x.cube.2),xc⟩ (GC HR8.out) rfl Ox2.out wx.heap.size 1 rfl (Ac _ _ _ rfl) (by have:=HLN.out;omega) (by have:=Bx.out.size;simp;omega) ?_;intro v' w3 hown3 hgr3 _;have Bx2:Below w1.heap.size w1 (wx.alloc (.cells (AE ⟨xo,(Aq x.cube.1,Aq x.cube.2),xc⟩) 174)):=Bx.out.alloc Bx.out.size _;have B3:Hid (Below w1.heap.size w1 w3):=Bx2.trans ((aO _ _).grown hgr3 Bx2.size fun q hq=>(World.ownsRow.lt Ox2.out q hq).1);have O3:Hid (w3.ownsRow w1.heap.size 174 28 v' ((L.take (j+1)).map FF).length (Bh AE ((L.take (j+1)).map FF))):=by show aZ _ _ _ _ _ _ _;rw[HTK.out];exact hown3
   clear hown3 hgr3 Bx2;simp only[aT,aB,aG,aC];go_wp2_with fail;go_roundw
   case rel=>exact⟨j+1,by omega,by go_num,O3,B3⟩
   case measure=>simp[intOf];omega
  ·have hlt':¬(j:Int)<(k:Int):=by omega
   have EL:Hid (wr.ownsRow w1.heap.size 174 28 u5 (qX n.tab ep).length (Bh AE (qX n.tab ep))):=by
    have:=HO.out;rw[List.take_of_length_le (by have:=HK.out;omega),HQ.out] at this;exact this
   clear HO;go_wp2_with fail;go_ret;exact⟨⟨_,rfl,OV (E:=Dh) EL.out fun x hx=>Ek (HQ8.out x hx)⟩,HB1.out.trans (HB.out.mono HB1.out.size)⟩
theorem Pf{M:Nat}{R:Rm}{n:Ap Ay}(h:AQ M R n):∀c,(AY n.tab c).length≤1000000:=fun c=>by
 have h1:=h.tab.inv.lc
 have h2:=h.tab.inv.la
 have h3:=h.tab.inv.lp
 have h4:=h.room
 unfold AY
 split
 ·omega
 ·split
  ·omega
  ·split
   ·omega
   ·simp
theorem LV(B:Nat)(w W:World)(g gt gh gw:Nat)(R:Rm)(n:Ap Ay)(r:DU)(O:Nat→Prop)(A:An B w W g gt gh gw R n r O){M:Nat}(hi:AQ M R n)(hM:M≤900000)(k:AP)
  (f:Nat) (cb:Array Value) (eg:∀args w,(callFunc f args).run aA w=.ok (.enter f args) w) (P:World→Prop)
  (hc:∀W',Below W.heap.size W W'→Calls aA f cb W' fun e w2=>e=.returned (.tuple #[])∧An B w w2 g gt gh gw R (Bg n k) r O∧P w2)
  (hP:∀W1 W2,P W1→Ec O W1 W2→P W2) (hP2:∀W1 W2,P W1→Below W1.heap.size W1 W2→P W2):
  Calls aA 80 #[.pointer (some ⟨g,0,none⟩),.func (.func f) #[] cb] W fun e w'=>e=.returned (.bool (decide (k.use≠n.hold.use)))∧An B w w' g gt gh gw R (Fj (Ar R) (Bg n k) n.hold) r O∧P w':=by
 have c5:∀u:Al W,u.world.cell? ⟨g,5,none⟩=some (.pointer (some ⟨gh,0,none⟩)):=fun u=>by obtain⟨x,hx⟩:=(A.below u.below).ndV;exact hx.f.c5
 have CF:∀u:Al W,Calls aA 22 #[.pointer (some ⟨gh,0,none⟩)] u.world fun e w'=>e=.returned (.int .i64 n.hold.floor)∧w'=u.world:=fun u=>(A.below u.below).ask fun x hx=>(Fn _ gh n.hold hx.hold).2.1;have CT:∀u:Al W,Calls aA 23 #[.pointer (some ⟨gh,0,none⟩)] u.world fun e w'=>e=.returned (.int .i64 n.hold.top)∧w'=u.world:=fun u=>(A.below u.below).ask fun x hx=>(Fn _ gh n.hold hx.hold).2.2;have CU:∀u:Al W,Calls aA 20 #[.pointer (some ⟨gh,0,none⟩)] u.world fun e w'=>e=.returned (.int .i64 n.hold.use)∧w'=u.world:=fun u=>(A.below u.below).ask fun x hx=>Ht _ gh n.hold hx.hold;obtain⟨fl0,hfl0⟩:∃x,x=n.hold.floor:=⟨_,rfl⟩;obtain⟨tp0,htp0⟩:∃x,x=n.hold.top:=⟨_,rfl⟩;obtain⟨us0,hus0⟩:∃x,x=n.hold.use:=⟨_,rfl⟩;rw[←hfl0] at CF;rw[←htp0] at CT;rw[←hus0] at CU;have HFL0:Hid (fl0=n.hold.floor∧tp0=n.hold.top∧us0=n.hold.use):=⟨hfl0,htp0,hus0⟩;clear hfl0 htp0 hus0;have ne9:=Al.ne W;obtain⟨fv,hfv⟩:∃fv,fv=Value.func (.func f) #[] cb:=⟨_,rfl⟩;have HFV:Hid (fv=Value.func (.func f) #[] cb):=hfv;have HC:Hid (∀W',Below W.heap.size W W'→Calls aA f cb W' fun e w2=>e=.returned (.tuple #[])∧An B w w2 g gt gh gw R (Bg n k) r O∧P w2):=hc;rw[←hfv];clear hfv hc A;go_enter Tryz.func80,Tryz.ntmps80;go_wp2_with fail;refine AR (by kernel_rfl) (by kernel_rfl) ?_
 iterate 4 (go_big_quiet_step (fail))
 go_big_quiet_want;go_big_quiet_op;refine⟨_,fun u=>Calls.later_sameT (CF u),?_⟩;go_big_quiet_on
 iterate 4 (go_big_quiet_step (fail))
 go_big_quiet_want;go_big_quiet_op;refine⟨_,fun u=>Calls.later_sameT (CT u),?_⟩;go_big_quiet_on
 iterate 4 (go_big_quiet_step (fail))
 go_big_quiet_want;go_big_quiet_op;refine⟨_,fun u=>Calls.later_sameT (CU u),?_⟩;go_big_quiet_on
 iterate 3 (go_big_quiet_step (fail))
 refine wpQuiet_nil ?_;rintro w' ⟨uL,rfl⟩;have B1:Hid (Below W.heap.size W uL.world):=uL.below;obtain⟨w1,hw1⟩:∃w1,w1=uL.world:=⟨_,rfl⟩;rw[←hw1] at B1 ⊢;clear hw1 uL c5 CF CT CU ne9;rw[HFV.out];go_wp2_with fail;refine(HC.out _ B1.out).mono ?_;rintro e w2 ⟨rfl,a2,p2⟩;have A2:Hid (An B w w2 g gt gh gw R (Bg n k) r O):=a2;have P2:Hid (P w2):=p2;clear a2 p2 B1 HC HFV;obtain⟨kf,hkf⟩:∃x,x=k.floor:=⟨_,rfl⟩;obtain⟨kt,hkt⟩:∃x,x=k.top:=⟨_,rfl⟩;obtain⟨ku,hku⟩:∃x,x=k.use:=⟨_,rfl⟩
 have HDF:Hid (∀n3,n3=(if kf≠fl0∨kt≠tp0 then Bm (Bg n k) (GS n.tab kf kt) else Bg n k)→Fj (Ar R) (Bg n k) n.hold=if ku≠us0 then BR n3 ⟨16,0,0,0,ku,0,0,0,Z,(Z,Z)⟩ else n3):=fun n3 h3=>by
  rw[h3,hkf,hkt,hku,HFL0.out.1,HFL0.out.2.1,HFL0.out.2.2];rfl
 have HKU:Hid (decide (k.use≠n.hold.use)=decide (ku≠us0)):=by show _=_;rw[hku,HFL0.out.2.2]
 have HLG:Hid (n.log.length≤1000000):=by show _≤_;have:=hi.log;omega
 have CF2:Calls aA 22 #[.pointer (some ⟨gh,0,none⟩)] w2 fun e w'=>e=.returned (.int .i64 kf)∧w'=w2:=by rw[hkf];exact A2.out.ask fun x hx=>(Fn _ gh k hx.hold).2.1
 have CT2:Calls aA 23 #[.pointer (some ⟨gh,0,none⟩)] w2 fun e w'=>e=.returned (.int .i64 kt)∧w'=w2:=by rw[hkt];exact A2.out.ask fun x hx=>(Fn _ gh k hx.hold).2.2
 have HFD0:∀W',Below w2.heap.size w2 W'→Calls aA 22 #[.pointer (some ⟨gh,0,none⟩)] W' fun e w'=>e=.returned (.int .i64 kf)∧w'=W':=fun W' hW'=>by rw[hkf];exact(A2.out.below hW').ask fun x hx=>(Fn _ gh k hx.hold).2.1
 have HTD0:∀W',Below w2.heap.size w2 W'→Calls aA 23 #[.pointer (some ⟨gh,0,none⟩)] W' fun e w'=>e=.returned (.int .i64 kt)∧w'=W':=fun W' hW'=>by rw[hkt];exact(A2.out.below hW').ask fun x hx=>(Fn _ gh k hx.hold).2.2
 have c5:w2.cell? ⟨g,5,none⟩=some (.pointer (some ⟨gh,0,none⟩)):=by obtain⟨x,hx⟩:=A2.out.ndV;exact hx.f.c5
 have HU:Hid (∀W3 n3,n3.hold=k→An B w W3 g gt gh gw R n3 r O→Calls aA 20 #[.pointer (some ⟨gh,0,none⟩)] W3 fun e w'=>e=.returned (.int .i64 ku)∧w'=W3):=fun W3 n3 h3 hW=>by
  rw[hku];exact hW.ask fun x hx=>Ht _ gh k (by have:=hx.hold;rw[h3] at this;exact this)
 have HN:Hid (∀W3 n3,n3.log=n.log→An B w W3 g gt gh gw R n3 r O→P W3→Calls aA 38 #[.pointer (some ⟨g,0,none⟩),.agg (Mf 16 0 0 ku 0 0)] W3 fun e w'=>e=.returned (.tuple #[])∧An B w w' g gt gh gw R (BR n3 ⟨16,0,0,0,ku,0,0,0,Z,(Z,Z)⟩) r O∧P w'):=fun W3 n3 h3 hW hp=>
  (hW.call (n'':=BR n3 ⟨16,0,0,0,ku,0,0,0,Z,(Z,Z)⟩) (P:=fun e _=>e=.returned (.tuple #[])) fun u hu=>EH B W3 g gt gh gw R n3 u hu (by rw[h3];exact HLG.out) 16 0 0 ku 0 0).mono fun e w' q=>⟨q.1,q.2.1,hP _ _ hp q.2.2⟩
 have HKP:Hid (∀W',Below w2.heap.size w2 W'→Calls aA 104 #[.pointer (some ⟨gt,0,none⟩),.int .i64 kf,.int .i64 kt] W' fun e w3=> ∃q,e=.returned (.int .i64 q)∧An B w w3 g gt gh gw R (Bm (Bg n k) (GS n.tab kf kt)) r O∧P w3):=fun W' hW'=>by
  have AW:=A2.out.below hW';refine(AW.call (n'':=Bm (Bg n k) (GS n.tab kf kt)) (P:=fun e _=> ∃q,e=.returned (.int .i64 q)) fun u hu=> ?_).mono fun e w' q=> ?_
  ·exact(Zp B W' gt R n.tab u.v1 u.v2 u.v3 hu.tab kf kt (Pf hi)).mono fun e w' q=>⟨⟨_,q.1⟩,hu.setTab q.2⟩
  ·obtain⟨⟨q,h1⟩,h2,h3⟩:=q;exact⟨q,h1,h2,hP _ _ (hP2 _ _ P2.out hW') h3⟩
 clear hi hkf hkt hku hP HFL0;have HFD:Hid (∀W',Below w2.heap.size w2 W'→Calls aA 22 #[.pointer (some ⟨gh,0,none⟩)] W' fun e w'=>e=.returned (.int .i64 kf)∧w'=W'):=HFD0;have HTD:Hid (∀W',Below w2.heap.size w2 W'→Calls aA 23 #[.pointer (some ⟨gh,0,none⟩)] W' fun e w'=>e=.returned (.int .i64 kt)∧w'=W'):=HTD0;clear HFD0 HTD0;by_cases hf:kf=fl0
 ·have hfb:(kf !=fl0)=false:=by simpa using hf
  have HF:Hid (kf=fl0):=hf;clear hf;by_cases ht:kt=tp0
  ·have htb:(kt !=tp0)=false:=by simpa using ht
   have HT:Hid (kt=tp0):=ht;clear ht
   go_wp2_with (first
    | (go_at_call 22;refine CF2.mono ?_;rintro e w9 ⟨rfl,hw9⟩;have hw9:=hw9.symm;subst hw9)
    | (go_at_call 23;refine CT2.mono ?_;rintro e w9 ⟨rfl,hw9⟩;have hw9:=hw9.symm;subst hw9;refine Aw ?_))
   unfold AZ;clear CF2 CT2 c5;have c5c:w2.cell? ⟨g,5,none⟩=some (.pointer (some ⟨gh,0,none⟩)):=by obtain⟨x,hx⟩:=A2.out.ndV;exact hx.f.c5
   have CU3:=HU.out w2 (Bg n k) rfl A2.out;have HD3:=HDF.out (Bg n k) (by rw[if_neg (by rintro(e | e);exact e HF.out;exact e HT.out)]);have HD3':Hid _:=HD3;clear HD3;by_cases hu:ku=us0
   ·have hub:(ku==us0)=true:=by simpa using hu
    have HUU:Hid (ku=us0):=hu;clear hu;go_wp2_with (go_at_call 20;refine CU3.mono ?_;rintro e w9 ⟨rfl,hw9⟩;have hw9:=hw9.symm;subst hw9);go_ret;exact⟨by rw[HKU.out,decide_eq_false (fun e=>e HUU.out)];rfl,by rw[HD3'.out,if_neg (fun e=>e HUU.out)];exact A2.out,P2.out⟩
   ·have hub:(ku==us0)=false:=by simpa using hu
    have HUU:Hid (ku≠us0):=hu;clear hu;have CN3:=HN.out w2 (Bg n k) rfl A2.out P2.out
    go_wp2_with (first
     | (go_at_call 20;refine CU3.mono ?_;rintro e w9 ⟨rfl,hw9⟩;have hw9:=hw9.symm;subst hw9)
     | (go_at_call 38;refine CN3.mono ?_;rintro e w4 ⟨rfl,a4,p4⟩;have A4:Hid (An B w w4 g gt gh gw R _ r O):=a4;have P4:Hid (P w4):=p4;clear a4 p4 CN3))
    go_ret;exact⟨by rw[HKU.out,decide_eq_true HUU.out];rfl,by rw[HD3'.out,if_pos HUU.out];exact A4.out,P4.out⟩
  ·have htb:(kt !=tp0)=true:=by simpa using ht
   have HT:Hid (kt≠tp0):=ht;clear ht
   go_wp2_with (first
    | (go_at_call 22;refine CF2.mono ?_;rintro e w9 ⟨rfl,hw9⟩;have hw9:=hw9.symm;subst hw9)
    | (go_at_call 23;refine CT2.mono ?_;rintro e w9 ⟨rfl,hw9⟩;have hw9:=hw9.symm;subst hw9))
   have c5d:∀u:Al w2,u.world.cell? ⟨g,5,none⟩=some (.pointer (some ⟨gh,0,none⟩)):=fun u=>by obtain⟨x,hx⟩:=(A2.out.below u.below).ndV;exact hx.f.c5
   have c4d:∀u:Al w2,u.world.cell? ⟨g,4,none⟩=some (.pointer (some ⟨gt,0,none⟩)):=fun u=>by obtain⟨x,hx⟩:=(A2.out.below u.below).ndV;exact hx.f.c4
   have CFd:∀u:Al w2,Calls aA 22 #[.pointer (some ⟨gh,0,none⟩)] u.world fun e w'=>e=.returned (.int .i64 kf)∧w'=u.world:=fun u=>HFD.out _ u.below;have CTd:∀u:Al w2,Calls aA 23 #[.pointer (some ⟨gh,0,none⟩)] u.world fun e w'=>e=.returned (.int .i64 kt)∧w'=u.world:=fun u=>HTD.out _ u.below;have ne9:=Al.ne w2;clear CF2 CT2 c5;refine Ca 14 (by kernel_rfl) (by kernel_rfl) ?_;simp only[aV,aY,aD,aK]
   iterate 8 (go_big_quiet_step (fail))
   go_big_quiet_want;go_big_quiet_op;refine⟨_,fun u=>Calls.later_sameT (CFd u),?_⟩;go_big_quiet_on
   iterate 4 (go_big_quiet_step (fail))
   go_big_quiet_want;go_big_quiet_op;refine⟨_,fun u=>Calls.later_sameT (CTd u),?_⟩;go_big_quiet_on;refine wpQuiet_nil ?_;rintro w' ⟨uL,rfl⟩;have CK:=HKP.out _ uL.below;obtain⟨wu,hwu⟩:∃wu,wu=uL.world:=⟨_,rfl⟩;rw[←hwu] at CK ⊢;clear c5d c4d CFd CTd ne9 hwu uL;go_wp2_with (go_at_call 104;refine CK.mono ?_;rintro e w3 ⟨q3,rfl,a3,p3⟩;have A3:Hid (An B w w3 g gt gh gw R _ r O):=a3;have P3:Hid (P w3):=p3;clear a3 p3 CK;refine Aw ?_);unfold AZ;have c5c:w3.cell? ⟨g,5,none⟩=some (.pointer (some ⟨gh,0,none⟩)):=by obtain⟨x,hx⟩:=A3.out.ndV;exact hx.f.c5
   have CU3:=HU.out w3 (Bm (Bg n k) (GS n.tab kf kt)) rfl A3.out;have HD3:=HDF.out (Bm (Bg n k) (GS n.tab kf kt)) (by rw[if_pos (.inr HT.out)]);have HD3':Hid _:=HD3;clear HD3;by_cases hu:ku=us0
   ·have hub:(ku==us0)=true:=by simpa using hu
    have HUU:Hid (ku=us0):=hu;clear hu;go_wp2_with (go_at_call 20;refine CU3.mono ?_;rintro e w9 ⟨rfl,hw9⟩;have hw9:=hw9.symm;subst hw9);go_ret;exact⟨by rw[HKU.out,decide_eq_false (fun e=>e HUU.out)];rfl,by rw[HD3'.out,if_neg (fun e=>e HUU.out)];exact A3.out,P3.out⟩
   ·have hub:(ku==us0)=false:=by simpa using hu
    have HUU:Hid (ku≠us0):=hu;clear hu;have CN3:=HN.out w3 (Bm (Bg n k) (GS n.tab kf kt)) rfl A3.out P3.out
    go_wp2_with (first
     | (go_at_call 20;refine CU3.mono ?_;rintro e w9 ⟨rfl,hw9⟩;have hw9:=hw9.symm;subst hw9)
     | (go_at_call 38;refine CN3.mono ?_;rintro e w4 ⟨rfl,a4,p4⟩;have A4:Hid (An B w w4 g gt gh gw R _ r O):=a4;have P4:Hid (P w4):=p4;clear a4 p4 CN3))
    go_ret;exact⟨by rw[HKU.out,decide_eq_true HUU.out];rfl,by rw[HD3'.out,if_pos HUU.out];exact A4.out,P4.out⟩
 ·have hfb:(kf !=fl0)=true:=by simpa using hf
  have HF:Hid (kf≠fl0):=hf;clear hf
  go_wp2_with (first
   | (go_at_call 22;refine CF2.mono ?_;rintro e w9 ⟨rfl,hw9⟩;have hw9:=hw9.symm;subst hw9)
   | (go_at_call 23;refine CT2.mono ?_;rintro e w9 ⟨rfl,hw9⟩;have hw9:=hw9.symm;subst hw9))
  have c5d:∀u:Al w2,u.world.cell? ⟨g,5,none⟩=some (.pointer (some ⟨gh,0,none⟩)):=fun u=>by obtain⟨x,hx⟩:=(A2.out.below u.below).ndV;exact hx.f.c5
  have c4d:∀u:Al w2,u.world.cell? ⟨g,4,none⟩=some (.pointer (some ⟨gt,0,none⟩)):=fun u=>by obtain⟨x,hx⟩:=(A2.out.below u.below).ndV;exact hx.f.c4
  have CFd:∀u:Al w2,Calls aA 22 #[.pointer (some ⟨gh,0,none⟩)] u.world fun e w'=>e=.returned (.int .i64 kf)∧w'=u.world:=fun u=>HFD.out _ u.below;have CTd:∀u:Al w2,Calls aA 23 #[.pointer (some ⟨gh,0,none⟩)] u.world fun e w'=>e=.returned (.int .i64 kt)∧w'=u.world:=fun u=>HTD.out _ u.below;have ne9:=Al.ne w2;clear CF2 CT2 c5;refine Ca 14 (by kernel_rfl) (by kernel_rfl) ?_;simp only[aV,aY,aD,aK]
  iterate 8 (go_big_quiet_step (fail))
  go_big_quiet_want;go_big_quiet_op;refine⟨_,fun u=>Calls.later_sameT (CFd u),?_⟩;go_big_quiet_on
  iterate 4 (go_big_quiet_step (fail))
  go_big_quiet_want;go_big_quiet_op;refine⟨_,fun u=>Calls.later_sameT (CTd u),?_⟩;go_big_quiet_on;refine wpQuiet_nil ?_;rintro w' ⟨uL,rfl⟩;have CK:=HKP.out _ uL.below;obtain⟨wu,hwu⟩:∃wu,wu=uL.world:=⟨_,rfl⟩;rw[←hwu] at CK ⊢;clear c5d c4d CFd CTd ne9 hwu uL;go_wp2_with (go_at_call 104;refine CK.mono ?_;rintro e w3 ⟨q3,rfl,a3,p3⟩;have A3:Hid (An B w w3 g gt gh gw R _ r O):=a3;have P3:Hid (P w3):=p3;clear a3 p3 CK;refine Aw ?_);unfold AZ;have c5c:w3.cell? ⟨g,5,none⟩=some (.pointer (some ⟨gh,0,none⟩)):=by obtain⟨x,hx⟩:=A3.out.ndV;exact hx.f.c5
  have CU3:=HU.out w3 (Bm (Bg n k) (GS n.tab kf kt)) rfl A3.out;have HD3:=HDF.out (Bm (Bg n k) (GS n.tab kf kt)) (by rw[if_pos (.inl HF.out)]);have HD3':Hid _:=HD3;clear HD3;by_cases hu:ku=us0
  ·have hub:(ku==us0)=true:=by simpa using hu
   have HUU:Hid (ku=us0):=hu;clear hu;go_wp2_with (go_at_call 20;refine CU3.mono ?_;rintro e w9 ⟨rfl,hw9⟩;have hw9:=hw9.symm;subst hw9);go_ret;exact⟨by rw[HKU.out,decide_eq_false (fun e=>e HUU.out)];rfl,by rw[HD3'.out,if_neg (fun e=>e HUU.out)];exact A3.out,P3.out⟩
  ·have hub:(ku==us0)=false:=by simpa using hu
   have HUU:Hid (ku≠us0):=hu;clear hu;have CN3:=HN.out w3 (Bm (Bg n k) (GS n.tab kf kt)) rfl A3.out P3.out
   go_wp2_with (first
    | (go_at_call 20;refine CU3.mono ?_;rintro e w9 ⟨rfl,hw9⟩;have hw9:=hw9.symm;subst hw9)
    | (go_at_call 38;refine CN3.mono ?_;rintro e w4 ⟨rfl,a4,p4⟩;have A4:Hid (An B w w4 g gt gh gw R _ r O):=a4;have P4:Hid (P w4):=p4;clear a4 p4 CN3))
   go_ret;exact⟨by rw[HKU.out,decide_eq_true HUU.out];rfl,by rw[HD3'.out,if_pos HUU.out];exact A4.out,P4.out⟩
end
end Go.Proofs.YtbhkoipcpcoooabGreat
