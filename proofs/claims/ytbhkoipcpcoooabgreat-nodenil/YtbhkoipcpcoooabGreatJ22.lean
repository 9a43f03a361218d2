import Derived.Test.YtbhkoipcpcoooabGreatJ21
import Derived.Test.YtbhkoipcpcoooabGreatJ15
import Derived.Test.YtbhkoipcpcoooabGreatJ14
import Derived.Test.YtbhkoipcpcoooabGreatJ9
import Derived.Test.YtbhkoipcpcoooabGreatJ3
namespace Go.Proofs.YtbhkoipcpcoooabGreat
set_option maxRecDepth 20000
set_option maxHeartbeats 64000000
open Go
open _root_.Array renaming getElem?_eq_some_iff → aA
open _root_.List renaming setIfInBounds_toArray → aB, drop_succ_cons → aG, set_cons_succ → aH, set_cons_zero → aI, drop_zero → aJ, headD_cons → aM, map_cons → aN, map_nil → aO, take_succ_cons → aQ, take_zero → aY
open _root_.Nat renaming le_refl → aC, lt_succ_self → aX
open Go.Proofs.Tryz renaming prog → aD, ntmps37 → aR, ntmps36 → aT, func37 → aV, func36 → aW
open Go.RowKit.Below renaming refl → aK
open Go.World renaming drew → aL
open Go.Act renaming put → aP
section
open Go.RowKit
theorem Re{w:BQ}{s:Int}(h:(Br w s).2=none):(Br w s).1=w:=by
 unfold Br at h ⊢;split at h
 ·cases h
 ·rfl
theorem Xx{R:Rm}{N:Nat}{n:Ap Ay}(h:AQ N R n){m:Aj}(hm:Bj m)(now:Int):AQ (N+3) R (JL (Ar R) n m now):=by
 rw[OO];have h1:=Zy h now (Ad m 1) (c:=m.cube) ⟨hm.2.1,hm.2.2.1⟩ (Ad m 6);refine EI (N:=N+2) ?_ _;split
 ·exact EI h1 _
 ·exact h1.le (Nat.le_succ _)
theorem Sm{R:Rm}{N:Nat}{n:Ap Ay}(h:AQ N R n){m:Aj}(hm:Bj m)(now:Int):AQ (N+3) R (Ez (Ar R) n m now):=by
 unfold Ez;split
 ·exact Xx h hm now
 ·exact h.le (by omega)
def I9(R:Rm)(n:Ap Ay)(m:Aj)(now:Int):Ap Ay×Bool:=
 match Br (Ez (Ar R) n m now).wait (Ad m 11) with
 | (w,some x)=>(Gb (IY (Ez (Ar R) n m now) w) x.index (Ad m 6),true)
 | (_,none)=>(Ez (Ar R) n m now,Mi n m)
theorem Sj(R:Rm)(n:Ap Ay)(m:Aj)(now:Int):I9 R n m now=if (Br (Ez (Ar R) n m now).wait (Ad m 11)).2.isSome=true then (Gb (IY (Ez (Ar R) n m now) (Br (Ez (Ar R) n m now).wait (Ad m 11)).1) ((Br (Ez (Ar R) n m now).wait (Ad m 11)).2.getD Cr).index (Ad m 6),true) else (IY (Ez (Ar R) n m now) (Br (Ez (Ar R) n m now).wait (Ad m 11)).1,Mi n m):=by
 unfold I9
 cases he:(Br (Ez (Ar R) n m now).wait (Ad m 11)).2 with
 | none=>
  have h1:=Re he;rw[h1,if_neg (by decide)];obtain⟨p,hp⟩:=eX (Br (Ez (Ar R) n m now).wait (Ad m 11));rw[←hp] at he ⊢;obtain⟨a,b⟩:=p;dsimp only at he;subst he;rfl
 | some x=>
  obtain⟨p,hp⟩:=eX (Br (Ez (Ar R) n m now).wait (Ad m 11));rw[←hp] at he ⊢;obtain⟨a,b⟩:=p;dsimp only at he;subst he;rfl
theorem Rc(B:Nat)(w:World)(g gt gh gw:Nat)(R:Rm)(n:Ap Ay)(r:DU)(h:BT B w g gt gh gw R n r){M:Nat}(hi:AQ M R n)(hM:M≤900000)(m:Aj)(hm:Bj m)(now:Int):
  Calls aD 60 #[.pointer (some ⟨g,0,none⟩),.agg (Ah m),.int .i64 now] w fun e w'=>e=.returned (.bool (I9 R n m now).2)∧CZ B w w' g gt gh gw R (I9 R n m now).1 r:=by
 obtain⟨w0,hw0⟩:∃w0,w0=w.alloc (.cells (Ah m) 27):=⟨_,rfl⟩;have B0:Below w.heap.size w w0:=by rw[hw0];exact(aK _ _).alloc (aC _) _
 have Z0:w0.heap[w.heap.size]?=some (.cells (Ah m) 27 (0,0)):=by rw[hw0];exact Ac _ _ _ rfl
 have A0:An B w w0 g gt gh gw R n r (fun k=>k=w.heap.size):=An.begin h B0 (by rintro k rfl;exact⟨aC _,by rw[hw0,AI];exact aX _⟩);have hip:=Sm hi hm now;have hdd:=Sj R n m now;obtain⟨ep,hep⟩:∃ep,ep=Ad m 1:=⟨_,rfl⟩;obtain⟨ac,hac⟩:∃ac,ac=Ad m 6:=⟨_,rfl⟩;obtain⟨sq,hsq⟩:∃sq,sq=Ad m 11:=⟨_,rfl⟩;have HEP:Hid (ep=Ad m 1):=hep;have HAC:Hid (ac=Ad m 6):=hac;have HSQ:Hid (sq=Ad m 11):=hsq;have HM:Hid (Bj m):=hm;obtain⟨n1,hn1⟩:∃n1,n1=Ez (Ar R) n m now:=⟨_,rfl⟩;obtain⟨lb,hlb⟩:∃lb,lb=Mi n m:=⟨_,rfl⟩;rw[←hn1] at hip;rw[←hn1, ←hlb, ←hac, ←hsq] at hdd;obtain⟨wb,hwb⟩:∃wb,wb=(Br n1.wait sq).2.isSome:=⟨_,rfl⟩;obtain⟨y,hy⟩:∃y,y=(Br n1.wait sq).2.getD Cr:=⟨_,rfl⟩;obtain⟨n2,hn2⟩:∃n2,n2=IY n1 (Br n1.wait sq).1:=⟨_,rfl⟩;obtain⟨yi,hyi⟩:∃yi,yi=y.index:=⟨_,rfl⟩;rw[←hwb, ←hy, ←hn2, ←hyi] at hdd;have HDD:Hid _:=hdd;have HYI:Hid (yi=y.index):=hyi;have HYS:Hid ((AL y).size=17∧(AL y).all (·.oneCell')=true):=JZ y;have HLG:Hid (n2.log.length≤1000000):=by show _≤_;rw[hn2];show n1.log.length≤_;have:=hip.log;omega
 have CA:Hid (∀W O,An B w W g gt gh gw R n1 r O→Calls aD 71 #[.pointer (some ⟨gw,0,none⟩),.int .i64 sq] W fun e w'=>e=.returned (.tuple #[.agg (AL y),.bool wb])∧An B w w' g gt gh gw R n2 r O∧Ec O W w'):=fun W O hW=>by
  rw[hn2,hy,hwb];exact hW.call fun u hu=>(TO B W gw n1.wait u.vw hu.wait hip.wait sq).mono fun e w' q=>⟨q.1,hu.setWaitTo q.2⟩
 obtain⟨nu,hnu⟩:∃nu,nu=n1.num:=⟨_,rfl⟩;obtain⟨le,hle⟩:∃le,le=n1.lease:=⟨_,rfl⟩;obtain⟨be,hbe⟩:∃be,be=n1.beat:=⟨_,rfl⟩;have HNU:Hid ((n1.num=nu∧n1.lease=le∧n1.beat=be)∧n2.num=nu∧n2.lease=le∧n2.beat=be):=by rw[hn2];exact⟨⟨hnu.symm,hle.symm,hbe.symm⟩,hnu.symm,hle.symm,hbe.symm⟩
 obtain⟨us,hus⟩:∃us,us=n.hold.use:=⟨_,rfl⟩;have c5:∀u:Al w0,u.world.cell? ⟨g,5,none⟩=some (.pointer (some ⟨gh,0,none⟩)):=fun u=>by obtain⟨x,hx⟩:=(A0.below u.below).ndV;exact hx.f.c5
 have hZ:∀u:Al w0,u.world.heap[w.heap.size]?=some (.cells (Ah m) 27 (0,0)):=fun u=>(u.below.block _ (aA.1 Z0).1).trans Z0;have e2:∀u:Al w0,u.world.cell? ⟨w.heap.size,2,none⟩=some (.int .i64 ep):=fun u=>by rw[HEP.out];exact(Ci HM.out (hZ u)).n 1 (by decide)
 have CU:∀u:Al w0,Calls aD 20 #[.pointer (some ⟨gh,0,none⟩)] u.world fun e w'=>e=.returned (.int .i64 us)∧w'=u.world:=fun u=>by rw[hus];exact(A0.below u.below).ask fun x hx=>Ht _ gh n.hold hx.hold
 have HMS:Hid ((Ah m).size=53):=Ch hm;have ne9:=Al.ne w0;have hw0':=hw0.symm;by_cases hu:ep=us
 focus
  have hub:(ep==us)=true:=by simpa using hu
  have hn1':n1=if n.cache≠0 then JL (Ar R) n m now else n:=by
   rw[hn1];unfold Ez Mi;rw[←hep,hu,hus,decide_eq_true rfl,Bool.true_and];by_cases hc:n.cache≠0
   ·rw[decide_eq_true hc,if_pos rfl,if_pos hc]
   ·rw[decide_eq_false hc,if_neg (by decide),if_neg hc]
  have hlb':lb=decide (n.cache≠0):=by
   rw[hlb];unfold Mi;rw[←hep,hu,hus,decide_eq_true rfl,Bool.true_and]
  have CN:Hid (∀W,Below w0.heap.size w0 W→Calls aD 90 #[.pointer (some ⟨g,0,none⟩),.agg (Ah m),.int .i64 now] W fun e w'=>e=.returned (.bool lb)∧An B w w' g gt gh gw R n1 r (fun k=>k=w.heap.size)∧w'.heap[w.heap.size]?=some (.cells (Ah m) 27 (0,0))):=fun W hW=>by
   rw[hn1',hlb'];exact((A0.below hW).call (P:=fun e _=>e=.returned (.bool (decide (n.cache≠0)))) fun u hu=>Tu B W g gt gh gw R n u hu hi hM m hm now).mono fun e w' q=>⟨q.1,q.2.1,(q.2.2 _ rfl).trans ((hW.block _ (aA.1 Z0).1).trans Z0)⟩
  clear hi hM hm hip hdd hep hac hsq hn1 hlb hn1' hlb' hwb hy hn2 hyi hnu hle hbe hus A0 B0 Z0 hw0 h hu;go_enter Tryz.func60,Tryz.ntmps60;go_wp2_with fail;refine Ca 12 (by kernel_rfl) (by kernel_rfl) ?_;simp only[aQ,aY,aG,aJ]
  iterate 6 (go_big_quiet_step (fail))
  go_big_quiet_want;go_big_quiet_op;refine⟨_,fun u=>Calls.later_sameT (CU u),?_⟩;go_big_quiet_on
  iterate 3 (go_big_quiet_step (fail))
  refine G5 DJ rfl _ rfl w.heap.size 0 rfl _ _ _ (Ah m) HMS.out (fun w' h=>by obtain⟨z,rfl⟩:=h;exact hZ z) (AA _ _) ?_;simp only[aP,aB,aH,aI];go_big_quiet_step (fail);refine wpQuiet_nil ?_;rintro w' ⟨uL,rfl⟩;have CN1:=CN.out _ uL.below;obtain⟨wu,hwu⟩:∃wu,wu=uL.world:=⟨_,rfl⟩;rw[←hwu] at CN1 ⊢;clear hwu uL CU c5 e2 hZ ne9 CN hw0';go_wp2_with (go_at_call 90;refine CN1.mono ?_;rintro e w2 ⟨rfl,a2,z2⟩;have A2:Hid (An B w (aL w2) g gt gh gw R n1 r (fun k=>k=w.heap.size)):=a2.below (aK _ _).drew;have Z2:Hid ((aL w2).heap[w.heap.size]?=some (.cells (Ah m) 27 (0,0))):=z2;clear a2 z2 CN1;refine Aw ?_);unfold AZ
  cases lb
 rotate_right
 focus
  have hub:(ep==us)=false:=by simpa using hu
  have hlb':lb=false:=by
   rw[hlb];unfold Mi;rw[←hep, ←hus,decide_eq_false hu,Bool.false_and]
  have hn1':n1=n:=by
   rw[hn1];unfold Ez;rw[←hlb,hlb',if_neg (by decide)]
  have HA0:Hid (∀W,Below w0.heap.size w0 W→An B w W g gt gh gw R n1 r (fun k=>k=w.heap.size)∧W.heap[w.heap.size]?=some (.cells (Ah m) 27 (0,0))):=fun W hW=>⟨by rw[hn1'];exact A0.below hW,(hW.block _ (aA.1 Z0).1).trans Z0⟩;clear hi hM hm hip hdd hep hac hsq hn1 hlb hn1' hwb hy hn2 hyi hnu hle hbe hus A0 B0 Z0 hw0 h hu;obtain rfl:lb=false:=hlb';go_enter Tryz.func60,Tryz.ntmps60;go_wp2_with fail;refine AR (by kernel_rfl) (by kernel_rfl) ?_
  iterate 6 (go_big_quiet_step (fail))
  go_big_quiet_want;go_big_quiet_op;refine⟨_,fun u=>Calls.later_sameT (CU u),?_⟩;go_big_quiet_on
  iterate 8 (go_big_quiet_step (fail))
  refine wpQuiet_nil ?_;rintro w' ⟨uL,rfl⟩;obtain⟨w2,hw2⟩:∃w2,w2=uL.world:=⟨_,rfl⟩;have A2:Hid (An B w (aL w2) g gt gh gw R n1 r (fun k=>k=w.heap.size)):=by show An _ _ _ _ _ _ _ _ _ _ _;rw[hw2];exact(HA0.out _ uL.below.drew).1
  have Z2:Hid ((aL w2).heap[w.heap.size]?=some (.cells (Ah m) 27 (0,0))):=by show _=_;rw[hw2];exact(HA0.out _ uL.below.drew).2
  rw[←hw2];clear hw2 uL CU c5 e2 hZ ne9 HA0 hw0'
 all_goals
  have HS2:Hid (Dv g gt gh gw nu le be (fun W=>W.heap[w.heap.size]?=some (.cells (Ah m) 27 (0,0))) (aL w2)):=A2.out.inN HNU.out.1.1 HNU.out.1.2.1 HNU.out.1.2.2 Z2.out;go_wp2_with fail;have e6:∀z:Fh g gt gh gw nu le be (fun W=>W.heap[w.heap.size]?=some (.cells (Ah m) 27 (0,0))),z.world.cell? ⟨g,6,none⟩=some (.pointer (some ⟨gw,0,none⟩)):=fun z=>z.c6;have ne9:Nonempty (Fh g gt gh gw nu le be (fun W=>W.heap[w.heap.size]?=some (.cells (Ah m) 27 (0,0)))):=by obtain⟨z,_⟩:=HS2.out;exact⟨z⟩
  have q12:∀z:Fh g gt gh gw nu le be (fun W=>W.heap[w.heap.size]?=some (.cells (Ah m) 27 (0,0))),z.world.cell? ⟨w.heap.size,12,none⟩=some (.int .i64 sq):=fun z=>by rw[HSQ.out];exact(Ci HM.out z.x).n 11 (by decide)
  refine Em ?_;refine BJ (Dv g gt gh gw nu le be (fun W=>W.heap[w.heap.size]?=some (.cells (Ah m) 27 (0,0)))) 13 rfl (by kernel_rfl) ?_;refine AV [0,4,1,5,2,3] 6 7 rfl (by kernel_rfl) (by decide) (by kernel_rfl) (by kernel_rfl) (by intro d v c a w h;exact absurd h.1 (by simp)) HS2.out ?_;simp only[Df,aN,aO,aG,aJ,aM]
  iterate 6 (go_big_quiet_step (fail))
  refine wpQuiet_nil ?_;refine wpAnyH_all (rs:=[6,10]) (by kernel_rfl) (by decide) ?_;intro i hi;simp only[List.mem_cons,List.not_mem_nil,or_false] at hi;rcases hi with rfl | rfl
  ·refine Bp rfl rfl 71 #[.tmp 28,.tmp 30] (by intro b w;have hf:=Tryz.func71;simp[go_sem]) #[.pointer (some ⟨gw,0,none⟩),.int .i64 sq] rfl (fun v w'=>v=.tuple #[.agg (AL y),.bool wb]∧An B w w' g gt gh gw R n2 r (fun k=>k=w.heap.size)∧Ec (fun k=>k=w.heap.size) (aL w2) w') ((CA.out (aL w2) _ A2.out).mono fun e w' h=>⟨_,h.1,rfl,h.2⟩) (some 31) rfl ?_;rintro v w4 ⟨rfl,a2,k2⟩;have A4:Hid _:=a2;have Z4:Hid (w4.heap[w.heap.size]?=some (.cells (Ah m) 27 (0,0))):=(k2 _ rfl).trans Z2.out;clear a2 k2;have I4:Hid (Dv g gt gh gw nu le be (fun W=>W.heap[w.heap.size]?=some (.cells (Ah m) 27 (0,0))) w4):=A4.out.inN HNU.out.2.1 HNU.out.2.2.1 HNU.out.2.2.2 Z4.out;refine⟨I4.out,?_⟩;simp only[aP,aB,aH,aI];refine AV [7,8,9] 3 3 rfl (by kernel_rfl) (by decide) (by kernel_rfl) (by kernel_rfl) (by intro d v c a w h;exact absurd h.1 (by simp)) I4.out ?_;simp only[Df,aN,aO,aG,aJ,aM]
   iterate 3 (go_big_quiet_step (fail))
   refine wpQuiet_nil ?_;refine Bb 10 (by kernel_rfl) ?_;refine Hi Ks rfl rfl rfl (some 8) rfl ?_;obtain⟨p,hp⟩:∃p,p=(w4).heap.size:=⟨_,rfl⟩;rw[←hp];obtain⟨wa,hwa⟩:∃wa,wa=(w4).alloc (.cells Ix.zero Ix.elem):=⟨_,rfl⟩;rw[←hwa];have Aa:Hid (An B w wa g gt gh gw R n2 r (fun k=>k=w.heap.size∨k=p)):=by show An _ _ _ _ _ _ _ _ _ _ _;rw[hwa,hp];exact A4.out.newRow _ _
   have Ya:Hid (wa.heap[p]?=some (.cells (AL Cr) 82 (0,0))):=by show _=_;rw[hwa];exact Ac _ _ _ hp
   have Za:Hid (wa.heap[w.heap.size]?=some (.cells (Ah m) 27 (0,0))):=by show _=_;rw[hwa];exact Af _ _ _ _ Z4.out
   have Hp:Hid (w.heap.size≠p):=by show _≠_;have:=(aA.1 (Z4.out)).1;omega
   clear hp hwa;have Ia:Hid (Dv g gt gh gw nu le be (fun W=>W.heap[w.heap.size]?=some (.cells (Ah m) 27 (0,0))) wa):=Aa.out.inN HNU.out.2.1 HNU.out.2.2.1 HNU.out.2.2.2 Za.out;refine⟨Ia.out,?_⟩;simp only[aP,aB,aH,aI];refine Bb 11 (by kernel_rfl) ?_;refine Gx Pn rfl rfl _ _ rfl p (AL y) HYS.out rfl rfl _ Ya.out rfl none rfl ?_;obtain⟨w3,hw3⟩:∃w3,w3=(wa).setRow p (AL y):=⟨_,rfl⟩;rw[←hw3];have A3:Hid (An B w w3 g gt gh gw R n2 r (fun k=>k=w.heap.size∨k=p)):=by show An _ _ _ _ _ _ _ _ _ _ _;rw[hw3];exact Aa.out.row (.inr rfl) _
   have Z3:Hid (w3.heap[w.heap.size]?=some (.cells (Ah m) 27 (0,0))):=by show _=_;rw[hw3,setRow_other _ _ _ _ Hp.out];exact Za.out
   have Y3:Hid (w3.heap[p]?=some (.cells (AL y) 82 (0,0))):=by show _=_;rw[hw3];exact setRow_heap _ _ _ _ _ _ Ya.out
   clear hw3;have I3:Hid (Dv g gt gh gw nu le be (fun W=>W.heap[w.heap.size]?=some (.cells (Ah m) 27 (0,0))) w3):=A3.out.inN HNU.out.2.1 HNU.out.2.2.1 HNU.out.2.2.2 Z3.out;refine⟨I3.out,?_⟩;simp only[aP];refine AV [12] 1 0 rfl (by kernel_rfl) (by decide) (by kernel_rfl) (by kernel_rfl) (by intro d v c a w h;exact absurd h.1 (by simp)) I3.out ?_;simp only[Df,aN,aO,aG,aJ,aM];go_big_quiet_step (fail);refine wpQuiet_nil ?_;refine wpAnyH_done (by kernel_rfl) ?_ _;refine⟨rfl,?_⟩
   cases wb
   focus
    have HD0:=HDD.out;rw[if_neg (by decide)] at HD0;go_wp2_with fail;go_ret;exact⟨by rw[HD0];rfl,by rw[HD0];exact A3.out.to⟩
   have HD0:Hid _:=HDD.out.trans (if_pos rfl);have f1:w3.cell? ⟨p,1,none⟩=some (.int .i64 yi):=by rw[HYI.out];exact(IF Y3.out).c1
   have m7:w3.cell? ⟨w.heap.size,7,none⟩=some (.int .i64 ac):=by rw[HAC.out];exact(Ci HM.out Z3.out).n 6 (by decide)
   have CE:=A3.out.call (n'':=Gb n2 yi ac) (P:=fun e _=>e=.returned (.tuple #[])) fun u hu=>Ly B w3 g gt gh gw R n2 u hu HLG.out yi ac;obtain⟨n9,hn9⟩:∃n9,n9=Gb n2 yi ac:=⟨_,rfl⟩;have HN9:Hid (n9=Gb n2 yi ac):=hn9;rw[←hn9] at CE;clear hn9;go_wp2_with (go_at_call 33;refine CE.mono ?_;rintro e w9 ⟨rfl,a9,_⟩;have A9:Hid (An B w w9 g gt gh gw R n9 r (fun k=>k=w.heap.size∨k=p)):=a9;clear a9 CE;refine Aw ?_);unfold AZ;clear f1 m7;go_wp2_with fail;go_ret;exact⟨by rw[HD0.out];rfl,by rw[HD0.out];show CZ _ _ _ _ _ _ _ _ (Gb n2 yi ac) _;rw[←HN9.out];exact A9.out.to⟩
  ·refine Hi Ks rfl rfl rfl (some 8) rfl ?_;obtain⟨p,hp⟩:∃p,p=(aL w2).heap.size:=⟨_,rfl⟩;rw[←hp];obtain⟨wa,hwa⟩:∃wa,wa=(aL w2).alloc (.cells Ix.zero Ix.elem):=⟨_,rfl⟩;rw[←hwa];have Aa:Hid (An B w wa g gt gh gw R n1 r (fun k=>k=w.heap.size∨k=p)):=by show An _ _ _ _ _ _ _ _ _ _ _;rw[hwa,hp];exact A2.out.newRow _ _
   have Ya:Hid (wa.heap[p]?=some (.cells (AL Cr) 82 (0,0))):=by show _=_;rw[hwa];exact Ac _ _ _ hp
   have Za:Hid (wa.heap[w.heap.size]?=some (.cells (Ah m) 27 (0,0))):=by show _=_;rw[hwa];exact Af _ _ _ _ Z2.out
   have Hp:Hid (w.heap.size≠p):=by show _≠_;have:=(aA.1 (Z2.out)).1;omega
   clear hp hwa;have Ia:Hid (Dv g gt gh gw nu le be (fun W=>W.heap[w.heap.size]?=some (.cells (Ah m) 27 (0,0))) wa):=Aa.out.inN HNU.out.1.1 HNU.out.1.2.1 HNU.out.1.2.2 Za.out;refine⟨Ia.out,?_⟩;simp only[aP,aB,aH,aI];refine Bb 6 (by kernel_rfl) ?_;refine Bp rfl rfl 71 #[.tmp 28,.tmp 30] (by intro b w;have hf:=Tryz.func71;simp[go_sem]) #[.pointer (some ⟨gw,0,none⟩),.int .i64 sq] rfl (fun v w'=>v=.tuple #[.agg (AL y),.bool wb]∧An B w w' g gt gh gw R n2 r (fun k=>k=w.heap.size∨k=p)∧Ec (fun k=>k=w.heap.size∨k=p) (wa) w') ((CA.out (wa) _ Aa.out).mono fun e w' h=>⟨_,h.1,rfl,h.2⟩) (some 31) rfl ?_;rintro v w4 ⟨rfl,a2,k2⟩;have A4:Hid _:=a2;have Z4:Hid (w4.heap[w.heap.size]?=some (.cells (Ah m) 27 (0,0))):=(k2 _ (.inl rfl)).trans Za.out;have Y4:Hid (w4.heap[p]?=some (.cells (AL Cr) 82 (0,0))):=(k2 _ (.inr rfl)).trans Ya.out;clear a2 k2;have I4:Hid (Dv g gt gh gw nu le be (fun W=>W.heap[w.heap.size]?=some (.cells (Ah m) 27 (0,0))) w4):=A4.out.inN HNU.out.2.1 HNU.out.2.2.1 HNU.out.2.2.2 Z4.out;refine⟨I4.out,?_⟩;simp only[aP,aB,aH,aI];refine AV [7,8,9] 3 2 rfl (by kernel_rfl) (by decide) (by kernel_rfl) (by kernel_rfl) (by intro d v c a w h;exact absurd h.1 (by simp)) I4.out ?_
   simp only[Df,aN,aO,aG,aJ,aM]
   iterate 3 (go_big_quiet_step (fail))
   refine wpQuiet_nil ?_;refine Bb 11 (by kernel_rfl) ?_;refine Gx Pn rfl rfl _ _ rfl p (AL y) HYS.out rfl rfl _ Y4.out rfl none rfl ?_;obtain⟨w3,hw3⟩:∃w3,w3=(w4).setRow p (AL y):=⟨_,rfl⟩;rw[←hw3];have A3:Hid (An B w w3 g gt gh gw R n2 r (fun k=>k=w.heap.size∨k=p)):=by show An _ _ _ _ _ _ _ _ _ _ _;rw[hw3];exact A4.out.row (.inr rfl) _
   have Z3:Hid (w3.heap[w.heap.size]?=some (.cells (Ah m) 27 (0,0))):=by show _=_;rw[hw3,setRow_other _ _ _ _ Hp.out];exact Z4.out
   have Y3:Hid (w3.heap[p]?=some (.cells (AL y) 82 (0,0))):=by show _=_;rw[hw3];exact setRow_heap _ _ _ _ _ _ Y4.out
   clear hw3;have I3:Hid (Dv g gt gh gw nu le be (fun W=>W.heap[w.heap.size]?=some (.cells (Ah m) 27 (0,0))) w3):=A3.out.inN HNU.out.2.1 HNU.out.2.2.1 HNU.out.2.2.2 Z3.out;refine⟨I3.out,?_⟩;simp only[aP];refine AV [12] 1 0 rfl (by kernel_rfl) (by decide) (by kernel_rfl) (by kernel_rfl) (by intro d v c a w h;exact absurd h.1 (by simp)) I3.out ?_;simp only[Df,aN,aO,aG,aJ,aM];go_big_quiet_step (fail);refine wpQuiet_nil ?_;refine wpAnyH_done (by kernel_rfl) ?_ _;refine⟨rfl,?_⟩
   cases wb
   focus
    have HD0:=HDD.out;rw[if_neg (by decide)] at HD0;go_wp2_with fail;go_ret;exact⟨by rw[HD0];rfl,by rw[HD0];exact A3.out.to⟩
   have HD0:Hid _:=HDD.out.trans (if_pos rfl);have f1:w3.cell? ⟨p,1,none⟩=some (.int .i64 yi):=by rw[HYI.out];exact(IF Y3.out).c1
   have m7:w3.cell? ⟨w.heap.size,7,none⟩=some (.int .i64 ac):=by rw[HAC.out];exact(Ci HM.out Z3.out).n 6 (by decide)
   have CE:=A3.out.call (n'':=Gb n2 yi ac) (P:=fun e _=>e=.returned (.tuple #[])) fun u hu=>Ly B w3 g gt gh gw R n2 u hu HLG.out yi ac;obtain⟨n9,hn9⟩:∃n9,n9=Gb n2 yi ac:=⟨_,rfl⟩;have HN9:Hid (n9=Gb n2 yi ac):=hn9;rw[←hn9] at CE;clear hn9;go_wp2_with (go_at_call 33;refine CE.mono ?_;rintro e w9 ⟨rfl,a9,_⟩;have A9:Hid (An B w w9 g gt gh gw R n9 r (fun k=>k=w.heap.size∨k=p)):=a9;clear a9 CE;refine Aw ?_);unfold AZ;clear f1 m7;go_wp2_with fail;go_ret;exact⟨by rw[HD0.out];rfl,by rw[HD0.out];show CZ _ _ _ _ _ _ _ _ (Gb n2 yi ac) _;rw[←HN9.out];exact A9.out.to⟩
def Bs(R:Rm)(n:Ap Ay)(src:Int)(m:Aj)(now:Int):Ap Ay×Bool:=
 if m.kind=1∨m.kind=2 then (if src=0∧decide (Ad m 0=n.hold.life)=true then EX (Ar R) n m else (n,false))
 else if m.kind=3 then (if src=0∧decide (Ad m 0=n.hold.life)=true then (Lm (Ar R) n m,true) else (n,false))
 else if m.kind=6 then (if src≠0 then D9 (Ar R) n src m else (n,false))
 else if m.kind=7 then (if src≠0∧decide (Ad m 0=n.hold.life)=true then NC (Ar R) n m now else (n,false))
 else (n,false)
theorem Wz(R:Rm)(n:Ap Ay)(src:Int)(data:List UInt8)(now:Int):Rg (Ar R) n src data now=match Gc data with
 | none=>(n,false)
 | some m=>Bs R n src m now:=rfl
theorem Nb(R:Rm)(n:Ap Ay)(m:Aj)(now:Int):NC (Ar R) n m now=if Kw n now=true then I9 R n m now else (n,false):=rfl
theorem UY(B:Nat)(w:World)(g gt gh gw:Nat)(R:Rm)(n:Ap Ay)(r:DU)(h:BT B w g gt gh gw R n r){M:Nat}(hi:AQ M R n)(hM:M≤900000)(src:Int)(m:Aj)(hm:Bj m)(hr:Bo m=true)(hn:∀j,BG (Ad m j))(now:Int):
  Calls aD 37 #[.pointer (some ⟨g,0,none⟩),.int .i64 src,.agg (Ah m),.int .i64 now] w fun e w'=>e=.returned (.bool (Bs R n src m now).2)∧CZ B w w' g gt gh gw R (Bs R n src m now).1 r:=by
 obtain⟨w0,hw0⟩:∃w0,w0=w.alloc (.cells (Ah m) 27):=⟨_,rfl⟩;have B0:Below w.heap.size w w0:=by rw[hw0];exact(aK _ _).alloc (aC _) _
 have Z0:w0.heap[w.heap.size]?=some (.cells (Ah m) 27 (0,0)):=by rw[hw0];exact Ac _ _ _ rfl
 have A0:An B w w0 g gt gh gw R n r (fun k=>k=w.heap.size):=An.begin h B0 (by rintro k rfl;exact⟨aC _,by rw[hw0,AI];exact aX _⟩);have HA0:Hid (∀W,Below w0.heap.size w0 W→An B w W g gt gh gw R n r (fun k=>k=w.heap.size)∧W.heap[w.heap.size]?=some (.cells (Ah m) 27 (0,0))):=fun W hW=>⟨A0.below hW,(hW.block _ (aA.1 Z0).1).trans Z0⟩;have HM:Hid (Bj m):=hm;have HRM:Hid (Bo m=true):=hr;have HMN:Hid (∀j,BG (Ad m j)):=hn;have HI:Hid (AQ M R n∧M≤900000):=⟨hi,hM⟩;have HMS:Hid ((Ah m).size=53):=Ch hm;obtain⟨kd,hkd⟩:∃kd,kd=m.kind:=⟨_,rfl⟩;have HKD:Hid (kd=m.kind):=hkd;have HK6:Hid (kd=1∨kd=2∨kd=3∨kd=6∨kd=7∨(kd≠1∧kd≠2∧kd≠3∧kd≠6∧kd≠7)):=by show _∨_;omega
 obtain⟨ic,hic⟩:∃ic,ic=Ad m 0:=⟨_,rfl⟩;obtain⟨lf,hlf⟩:∃lf,lf=n.hold.life:=⟨_,rfl⟩;have HIC:Hid (ic=Ad m 0):=hic;have HLF:Hid (lf=n.hold.life):=hlf;obtain⟨inb,hinb⟩:∃inb,inb=decide (Ad m 0=n.hold.life):=⟨_,rfl⟩;have HINB:Hid (inb=decide (Ad m 0=n.hold.life)):=hinb;obtain⟨myb,hmyb⟩:∃myb,myb=Kw n now:=⟨_,rfl⟩;have HMY:Hid (myb=Kw n now):=hmyb;have c5:∀u:Al w0,u.world.cell? ⟨g,5,none⟩=some (.pointer (some ⟨gh,0,none⟩)):=fun u=>by obtain⟨x,hx⟩:=(A0.below u.below).ndV;exact hx.f.c5
 have e1:∀u:Al w0,u.world.cell? ⟨w.heap.size,1,none⟩=some (.int .i64 ic):=fun u=>by rw[hic];exact(Ci HM.out (HA0.out _ u.below).2).n 0 (by decide)
 have CI:∀u:Al w0,Calls aD 19 #[.pointer (some ⟨gh,0,none⟩)] u.world fun e w'=>e=.returned (.int .i64 lf)∧w'=u.world:=fun u=>by rw[hlf];exact(A0.below u.below).ask fun x hx=>(Fn _ gh n.hold hx.hold).1
 have ne9:=Al.ne w0;have hw0':=hw0.symm;by_cases hs:src=0
 ·subst hs;by_cases hin:ic=lf
  ·have hib:(ic==lf)=true:=by simpa using hin
   have HIN:Hid (Ad m 0=n.hold.life):=by show _=_;rw[←hic, ←hlf,hin]
   clear hin hi hM hm hr hn hkd hic hlf hinb hmyb A0 B0 Z0 hw0 h;go_enter aV,aR;go_wp2_with fail;refine AR (by kernel_rfl) (by kernel_rfl) ?_
   iterate 9 (go_big_quiet_step (fail))
   go_big_quiet_want;go_big_quiet_op;refine⟨_,fun u=>Calls.later_sameT (CI u),?_⟩;go_big_quiet_on
   iterate 3 (go_big_quiet_step (fail))
   refine wpQuiet_nil ?_;rintro w' ⟨uL,rfl⟩;obtain⟨w1,hw1⟩:∃w1,w1=uL.world:=⟨_,rfl⟩;have A1:Hid (An B w w1 g gt gh gw R n r (fun k=>k=w.heap.size)):=by show An _ _ _ _ _ _ _ _ _ _ _;rw[hw1];exact(HA0.out _ uL.below).1
   have Z1:Hid (w1.heap[w.heap.size]?=some (.cells (Ah m) 27 (0,0))):=by show _=_;rw[hw1];exact(HA0.out _ uL.below).2
   rw[←hw1];clear hw1 uL CI c5 e1 ne9 hw0' HA0;have e0:w1.cell? ⟨w.heap.size,0,none⟩=some (.int .i64 kd):=by rw[HKD.out];exact(Ci HM.out Z1.out).c0
   rcases HK6.out with rfl | rfl | rfl | rfl | rfl | ⟨n1,n2,n3,n6,n7⟩
   ·have HD0:Hid (Bs R n 0 m now=EX (Ar R) n m):=by show _=_;unfold Bs;rw[←HKD.out];simp[HIN.out]
    have CX:=A1.out.call (n'':=(EX (Ar R) n m).1) (P:=fun e _=>e=.returned (.bool (EX (Ar R) n m).2)) fun u hu=>Na B w1 g gt gh gw R n u hu HI.out.1 HI.out.2 m HM.out HRM.out (by rw[←HKD.out];decide) HMN.out;obtain⟨rv,hrv⟩:∃rv,rv=(EX (Ar R) n m).2:=⟨_,rfl⟩;have HRV:Hid (rv=(EX (Ar R) n m).2):=hrv;rw[←hrv] at CX;clear hrv
    go_wp2_with (first
     | ((with_reducible refine Bf 27 _ rfl ?_);refine Bc DJ rfl _ rfl w.heap.size 0 rfl _ _ _ (Ah m) HMS.out Z1.out (AA _ _) ?_)
     | (go_at_call 57;refine CX.mono ?_;rintro e w2 ⟨rfl,a2,_⟩;have A2:Hid (An B w w2 g gt gh gw R _ r (fun k=>k=w.heap.size)):=a2;clear a2 CX;refine Aw ?_))
    unfold AZ
    cases rv with
    | false=>
     go_wp2_with fail;go_ret;exact⟨by rw[HD0.out, ←HRV.out];rfl,by rw[HD0.out];exact A2.out.to⟩
    | true=>
     go_wp2_with fail;go_ret;exact⟨by rw[HD0.out, ←HRV.out];rfl,by rw[HD0.out];exact A2.out.to⟩
   ·have HD0:Hid (Bs R n 0 m now=EX (Ar R) n m):=by show _=_;unfold Bs;rw[←HKD.out];simp[HIN.out]
    have CX:=A1.out.call (n'':=(EX (Ar R) n m).1) (P:=fun e _=>e=.returned (.bool (EX (Ar R) n m).2)) fun u hu=>Na B w1 g gt gh gw R n u hu HI.out.1 HI.out.2 m HM.out HRM.out (by rw[←HKD.out];decide) HMN.out;obtain⟨rv,hrv⟩:∃rv,rv=(EX (Ar R) n m).2:=⟨_,rfl⟩;have HRV:Hid (rv=(EX (Ar R) n m).2):=hrv;rw[←hrv] at CX;clear hrv
    go_wp2_with (first
     | ((with_reducible refine Bf 27 _ rfl ?_);refine Bc DJ rfl _ rfl w.heap.size 0 rfl _ _ _ (Ah m) HMS.out Z1.out (AA _ _) ?_)
     | (go_at_call 57;refine CX.mono ?_;rintro e w2 ⟨rfl,a2,_⟩;have A2:Hid (An B w w2 g gt gh gw R _ r (fun k=>k=w.heap.size)):=a2;clear a2 CX;refine Aw ?_))
    unfold AZ
    cases rv with
    | false=>
     go_wp2_with fail;go_ret;exact⟨by rw[HD0.out, ←HRV.out];rfl,by rw[HD0.out];exact A2.out.to⟩
    | true=>
     go_wp2_with fail;go_ret;exact⟨by rw[HD0.out, ←HRV.out];rfl,by rw[HD0.out];exact A2.out.to⟩
   ·have HD0:Hid (Bs R n 0 m now=(Lm (Ar R) n m,true)):=by show _=_;unfold Bs;rw[←HKD.out];simp[HIN.out]
    have CX:=A1.out.call (n'':=((Lm (Ar R) n m,true)).1) (P:=fun e _=>e=.returned (.bool true)) fun u hu=>Vf B w1 g gt gh gw R n u hu HI.out.1 HI.out.2 m HM.out HMN.out
    go_wp2_with (first
     | ((with_reducible refine Bf 27 _ rfl ?_);refine Bc DJ rfl _ rfl w.heap.size 0 rfl _ _ _ (Ah m) HMS.out Z1.out (AA _ _) ?_)
     | (go_at_call 58;refine CX.mono ?_;rintro e w2 ⟨rfl,a2,_⟩;have A2:Hid (An B w w2 g gt gh gw R _ r (fun k=>k=w.heap.size)):=a2;clear a2 CX))
    go_ret;exact⟨by rw[HD0.out];rfl,by rw[HD0.out];exact A2.out.to⟩
   ·have HD0:Hid (Bs R n 0 m now=(n,false)):=by show _=_;unfold Bs;rw[←HKD.out];simp
    go_wp2_with fail;go_ret;exact⟨by rw[HD0.out];rfl,by rw[HD0.out];exact A1.out.to⟩
   ·have HD0:Hid (Bs R n 0 m now=(n,false)):=by show _=_;unfold Bs;rw[←HKD.out];simp
    go_wp2_with fail;have ne9:=Al.ne w1;refine AR (by kernel_rfl) (by kernel_rfl) ?_
    iterate 24 (go_big_quiet_step (fail))
    refine wpQuiet_nil ?_;rintro w' ⟨uL,rfl⟩;obtain⟨w2,hw2⟩:∃w2,w2=uL.world:=⟨_,rfl⟩;have A2:Hid (An B w w2 g gt gh gw R n r (fun k=>k=w.heap.size)):=by show An _ _ _ _ _ _ _ _ _ _ _;rw[hw2];exact A1.out.below uL.below
    rw[←hw2];clear hw2 uL ne9;go_wp2_with fail;go_ret;exact⟨by rw[HD0.out];rfl,by rw[HD0.out];exact A2.out.to⟩
   ·have b1:(kd==1)=false:=by simpa using n1
    have b2:(kd==2)=false:=by simpa using n2
    have b3:(kd==3)=false:=by simpa using n3
    have b6:(kd==6)=false:=by simpa using n6
    have b7:(kd==7)=false:=by simpa using n7
    have HD0:Hid (Bs R n 0 m now=(n,false)):=by show _=_;unfold Bs;rw[←HKD.out];simp[n1,n2,n3,n6,n7]
    go_wp2_with fail;go_ret;exact⟨by rw[HD0.out];rfl,by rw[HD0.out];exact A1.out.to⟩
  ·have hib:(ic==lf)=false:=by simpa using hin
   have HIN:Hid (¬Ad m 0=n.hold.life):=by show¬_;rw[←hic, ←hlf];exact hin
   clear hin hi hM hm hr hn hkd hic hlf hinb hmyb A0 B0 Z0 hw0 h;go_enter aV,aR;go_wp2_with fail;refine AR (by kernel_rfl) (by kernel_rfl) ?_
   iterate 9 (go_big_quiet_step (fail))
   go_big_quiet_want;go_big_quiet_op;refine⟨_,fun u=>Calls.later_sameT (CI u),?_⟩;go_big_quiet_on
   iterate 3 (go_big_quiet_step (fail))
   refine wpQuiet_nil ?_;rintro w' ⟨uL,rfl⟩;obtain⟨w1,hw1⟩:∃w1,w1=uL.world:=⟨_,rfl⟩;have A1:Hid (An B w w1 g gt gh gw R n r (fun k=>k=w.heap.size)):=by show An _ _ _ _ _ _ _ _ _ _ _;rw[hw1];exact(HA0.out _ uL.below).1
   have Z1:Hid (w1.heap[w.heap.size]?=some (.cells (Ah m) 27 (0,0))):=by show _=_;rw[hw1];exact(HA0.out _ uL.below).2
   rw[←hw1];clear hw1 uL CI c5 e1 ne9 hw0' HA0;have e0:w1.cell? ⟨w.heap.size,0,none⟩=some (.int .i64 kd):=by rw[HKD.out];exact(Ci HM.out Z1.out).c0
   rcases HK6.out with rfl | rfl | rfl | rfl | rfl | ⟨n1,n2,n3,n6,n7⟩
   ·have HD0:Hid (Bs R n 0 m now=(n,false)):=by show _=_;unfold Bs;rw[←HKD.out];simp[HIN.out]
    go_wp2_with fail;go_ret;exact⟨by rw[HD0.out];rfl,by rw[HD0.out];exact A1.out.to⟩
   ·have HD0:Hid (Bs R n 0 m now=(n,false)):=by show _=_;unfold Bs;rw[←HKD.out];simp[HIN.out]
    go_wp2_with fail;go_ret;exact⟨by rw[HD0.out];rfl,by rw[HD0.out];exact A1.out.to⟩
   ·have HD0:Hid (Bs R n 0 m now=(n,false)):=by show _=_;unfold Bs;rw[←HKD.out];simp[HIN.out]
    go_wp2_with fail;go_ret;exact⟨by rw[HD0.out];rfl,by rw[HD0.out];exact A1.out.to⟩
   ·have HD0:Hid (Bs R n 0 m now=(n,false)):=by show _=_;unfold Bs;rw[←HKD.out];simp
    go_wp2_with fail;go_ret;exact⟨by rw[HD0.out];rfl,by rw[HD0.out];exact A1.out.to⟩
   ·have HD0:Hid (Bs R n 0 m now=(n,false)):=by show _=_;unfold Bs;rw[←HKD.out];simp
    go_wp2_with fail;have ne9:=Al.ne w1;refine AR (by kernel_rfl) (by kernel_rfl) ?_
    iterate 24 (go_big_quiet_step (fail))
    refine wpQuiet_nil ?_;rintro w' ⟨uL,rfl⟩;obtain⟨w2,hw2⟩:∃w2,w2=uL.world:=⟨_,rfl⟩;have A2:Hid (An B w w2 g gt gh gw R n r (fun k=>k=w.heap.size)):=by show An _ _ _ _ _ _ _ _ _ _ _;rw[hw2];exact A1.out.below uL.below
    rw[←hw2];clear hw2 uL ne9;go_wp2_with fail;go_ret;exact⟨by rw[HD0.out];rfl,by rw[HD0.out];exact A2.out.to⟩
   ·have b1:(kd==1)=false:=by simpa using n1
    have b2:(kd==2)=false:=by simpa using n2
    have b3:(kd==3)=false:=by simpa using n3
    have b6:(kd==6)=false:=by simpa using n6
    have b7:(kd==7)=false:=by simpa using n7
    have HD0:Hid (Bs R n 0 m now=(n,false)):=by show _=_;unfold Bs;rw[←HKD.out];simp[n1,n2,n3,n6,n7]
    go_wp2_with fail;go_ret;exact⟨by rw[HD0.out];rfl,by rw[HD0.out];exact A1.out.to⟩
 ·have hsb:(src==0)=false:=by simpa using hs
  have hsn:(src !=0)=true:=by simpa using hs
  have HS:Hid (¬src=0):=hs;clear hs hi hM hm hr hn hkd hic hlf hinb hmyb A0 B0 Z0 hw0 h;go_enter aV,aR;go_wp2_with fail;refine AR (by kernel_rfl) (by kernel_rfl) ?_
  iterate 13 (go_big_quiet_step (fail))
  refine wpQuiet_nil ?_;rintro w' ⟨uL,rfl⟩;obtain⟨w1,hw1⟩:∃w1,w1=uL.world:=⟨_,rfl⟩;have A1:Hid (An B w w1 g gt gh gw R n r (fun k=>k=w.heap.size)):=by show An _ _ _ _ _ _ _ _ _ _ _;rw[hw1];exact(HA0.out _ uL.below).1
  have Z1:Hid (w1.heap[w.heap.size]?=some (.cells (Ah m) 27 (0,0))):=by show _=_;rw[hw1];exact(HA0.out _ uL.below).2
  rw[←hw1];clear hw1 uL CI c5 e1 ne9 hw0' HA0;have e0:w1.cell? ⟨w.heap.size,0,none⟩=some (.int .i64 kd):=by rw[HKD.out];exact(Ci HM.out Z1.out).c0
  rcases HK6.out with rfl | rfl | rfl | rfl | rfl | ⟨n1,n2,n3,n6,n7⟩
  ·have HD0:Hid (Bs R n src m now=(n,false)):=by show _=_;unfold Bs;rw[←HKD.out];simp[HS.out]
   go_wp2_with fail;go_ret;exact⟨by rw[HD0.out];rfl,by rw[HD0.out];exact A1.out.to⟩
  ·have HD0:Hid (Bs R n src m now=(n,false)):=by show _=_;unfold Bs;rw[←HKD.out];simp[HS.out]
   go_wp2_with fail;go_ret;exact⟨by rw[HD0.out];rfl,by rw[HD0.out];exact A1.out.to⟩
  ·have HD0:Hid (Bs R n src m now=(n,false)):=by show _=_;unfold Bs;rw[←HKD.out];simp[HS.out]
   go_wp2_with fail;go_ret;exact⟨by rw[HD0.out];rfl,by rw[HD0.out];exact A1.out.to⟩
  ·have HD0:Hid (Bs R n src m now=D9 (Ar R) n src m):=by show _=_;unfold Bs;rw[←HKD.out];simp[HS.out]
   have CX:=A1.out.call (n'':=(D9 (Ar R) n src m).1) (P:=fun e _=>e=.returned (.bool (D9 (Ar R) n src m).2)) fun u hu=>SW B w1 g gt gh gw R n u hu HI.out.1 HI.out.2 src m HM.out HMN.out;obtain⟨rv,hrv⟩:∃rv,rv=(D9 (Ar R) n src m).2:=⟨_,rfl⟩;have HRV:Hid (rv=(D9 (Ar R) n src m).2):=hrv;rw[←hrv] at CX;clear hrv
   go_wp2_with (first
    | ((with_reducible refine Bf 27 _ rfl ?_);refine Bc DJ rfl _ rfl w.heap.size 0 rfl _ _ _ (Ah m) HMS.out Z1.out (AA _ _) ?_)
    | (go_at_call 59;refine CX.mono ?_;rintro e w2 ⟨rfl,a2,_⟩;have A2:Hid (An B w w2 g gt gh gw R _ r (fun k=>k=w.heap.size)):=a2;clear a2 CX;refine Aw ?_))
   unfold AZ
   cases rv with
   | false=>
    go_wp2_with fail;go_ret;exact⟨by rw[HD0.out, ←HRV.out];rfl,by rw[HD0.out];exact A2.out.to⟩
   | true=>
    go_wp2_with fail;go_ret;exact⟨by rw[HD0.out, ←HRV.out];rfl,by rw[HD0.out];exact A2.out.to⟩
  ·have HD7:Hid (Bs R n src m now=if inb=true∧myb=true then I9 R n m now else (n,false)):=by
    show _=_;unfold Bs;rw[←HKD.out,Nb, ←HMY.out, ←HINB.out]
    cases inb <;> cases myb <;> simp[HS.out]
   go_wp2_with fail;have c5:∀u:Al w1,u.world.cell? ⟨g,5,none⟩=some (.pointer (some ⟨gh,0,none⟩)):=fun u=>by obtain⟨x,hx⟩:=(A1.out.below u.below).ndV;exact hx.f.c5
   have hZ:∀u:Al w1,u.world.heap[w.heap.size]?=some (.cells (Ah m) 27 (0,0)):=fun u=>(u.below.block _ (aA.1 Z1.out).1).trans Z1.out;have e1:∀u:Al w1,u.world.cell? ⟨w.heap.size,1,none⟩=some (.int .i64 ic):=fun u=>by rw[HIC.out];exact(Ci HM.out (hZ u)).n 0 (by decide)
   have CI:∀u:Al w1,Calls aD 19 #[.pointer (some ⟨gh,0,none⟩)] u.world fun e w'=>e=.returned (.int .i64 lf)∧w'=u.world:=fun u=>by rw[HLF.out];exact(A1.out.below u.below).ask fun x hx=>(Fn _ gh n.hold hx.hold).1
   have CM:∀u:Al w1,Calls aD 21 #[.pointer (some ⟨g,0,none⟩),.int .i64 now] u.world fun e w'=>e=.returned (.bool myb)∧Below u.world.heap.size u.world w':=fun u=>by rw[HMY.out];exact(A1.out.below u.below).ask fun x hx=>Qv B u.world g gt gh gw R n x hx HI.out.1.hold now
   have ne9:=Al.ne w1;by_cases hin:ic=lf
   ·have hib:(ic==lf)=true:=by simpa using hin
    obtain rfl:inb=true:=by rw[HINB.out, ←HIC.out, ←HLF.out,decide_eq_true hin]
    clear hin
    cases myb with
    | false=>
     refine AR (by kernel_rfl) (by kernel_rfl) ?_
     iterate 9 (go_big_quiet_step (fail))
     go_big_quiet_want;go_big_quiet_op;refine⟨_,fun u=>Calls.later_sameT (CI u),?_⟩;go_big_quiet_on
     iterate 5 (go_big_quiet_step (fail))
     go_big_quiet_want;go_big_quiet_op;refine⟨_,fun u=>Calls.later_of (CM u),?_⟩;go_big_quiet_on
     iterate 8 (go_big_quiet_step (fail))
     refine wpQuiet_nil ?_;rintro w' ⟨uL,rfl⟩;obtain⟨w2,hw2⟩:∃w2,w2=uL.world:=⟨_,rfl⟩;have A2:Hid (An B w w2 g gt gh gw R n r (fun k=>k=w.heap.size)):=by show An _ _ _ _ _ _ _ _ _ _ _;rw[hw2];exact A1.out.below uL.below
     rw[←hw2];clear hw2 uL CI CM c5 e1 hZ ne9;go_wp2_with fail;go_ret;exact⟨by rw[HD7.out];rfl,by rw[HD7.out];exact A2.out.to⟩
    | true=>
     refine Ca 21 (by kernel_rfl) (by kernel_rfl) ?_;simp only[aQ,aY,aG,aJ]
     iterate 9 (go_big_quiet_step (fail))
     go_big_quiet_want;go_big_quiet_op;refine⟨_,fun u=>Calls.later_sameT (CI u),?_⟩;go_big_quiet_on
     iterate 5 (go_big_quiet_step (fail))
     go_big_quiet_want;go_big_quiet_op;refine⟨_,fun u=>Calls.later_of (CM u),?_⟩;go_big_quiet_on
     iterate 3 (go_big_quiet_step (fail))
     refine G5 DJ rfl _ rfl w.heap.size 0 rfl _ _ _ (Ah m) HMS.out (fun w' h=>by obtain⟨z,rfl⟩:=h;exact hZ z) (AA _ _) ?_;simp only[aP,aB,aH,aI];go_big_quiet_step (fail);refine wpQuiet_nil ?_;rintro w' ⟨uL,rfl⟩;obtain⟨w2,hw2⟩:∃w2,w2=uL.world:=⟨_,rfl⟩;have A2:Hid (An B w w2 g gt gh gw R n r (fun k=>k=w.heap.size)):=by show An _ _ _ _ _ _ _ _ _ _ _;rw[hw2];exact A1.out.below uL.below
     rw[←hw2];have CX:=A2.out.call (n'':=(I9 R n m now).1) (P:=fun e _=>e=.returned (.bool (I9 R n m now).2)) fun u hu=>Rc B w2 g gt gh gw R n u hu HI.out.1 HI.out.2 m HM.out now;obtain⟨rv,hrv⟩:∃rv,rv=(I9 R n m now).2:=⟨_,rfl⟩;have HRV:Hid (rv=(I9 R n m now).2):=hrv;rw[←hrv] at CX;clear hrv hw2 uL CI CM c5 e1 hZ ne9;go_wp2_with (go_at_call 60;refine CX.mono ?_;rintro e w3 ⟨rfl,a3,_⟩;have A3:Hid (An B w w3 g gt gh gw R _ r (fun k=>k=w.heap.size)):=a3;clear a3 CX;refine Aw ?_);unfold AZ;have HD8:Hid (Bs R n src m now=I9 R n m now):=by show _=_;rw[HD7.out];simp
     cases rv with
     | false=>
      go_wp2_with fail;go_ret;exact⟨by rw[HD8.out, ←HRV.out];rfl,by rw[HD8.out];exact A3.out.to⟩
     | true=>
      go_wp2_with fail;go_ret;exact⟨by rw[HD8.out, ←HRV.out];rfl,by rw[HD8.out];exact A3.out.to⟩
   ·have hib:(ic==lf)=false:=by simpa using hin
    obtain rfl:inb=false:=by rw[HINB.out, ←HIC.out, ←HLF.out,decide_eq_false hin]
    clear hin;refine AR (by kernel_rfl) (by kernel_rfl) ?_
    iterate 9 (go_big_quiet_step (fail))
    go_big_quiet_want;go_big_quiet_op;refine⟨_,fun u=>Calls.later_sameT (CI u),?_⟩;go_big_quiet_on
    iterate 14 (go_big_quiet_step (fail))
    refine wpQuiet_nil ?_;rintro w' ⟨uL,rfl⟩;obtain⟨w2,hw2⟩:∃w2,w2=uL.world:=⟨_,rfl⟩;have A2:Hid (An B w w2 g gt gh gw R n r (fun k=>k=w.heap.size)):=by show An _ _ _ _ _ _ _ _ _ _ _;rw[hw2];exact A1.out.below uL.below
    rw[←hw2];clear hw2 uL CI CM c5 e1 hZ ne9;go_wp2_with fail;go_ret;exact⟨by rw[HD7.out];rfl,by rw[HD7.out];exact A2.out.to⟩
  ·have b1:(kd==1)=false:=by simpa using n1
   have b2:(kd==2)=false:=by simpa using n2
   have b3:(kd==3)=false:=by simpa using n3
   have b6:(kd==6)=false:=by simpa using n6
   have b7:(kd==7)=false:=by simpa using n7
   have HD0:Hid (Bs R n src m now=(n,false)):=by show _=_;unfold Bs;rw[←HKD.out];simp[n1,n2,n3,n6,n7]
   go_wp2_with fail;go_ret;exact⟨by rw[HD0.out];rfl,by rw[HD0.out];exact A1.out.to⟩
end
section
open Go.Lib Go.RowKit
abbrev Co:Array Value:=#[.int .i64 0,.int .i64 0,.int .i64 0,.int .i64 0,.int .i64 0,.int .i64 0,.int .i64 0,.int .i64 0,.int .i64 0,.int .i64 0,.int .i64 0,.int .i64 0,.int .i64 0,.int .i64 0,.int .u8 0,.int .u8 0,.int .u8 0,.int .u8 0,.int .u8 0,.int .u8 0,.int .u8 0,.int .u8 0,.int .u8 0,.int .u8 0,.int .u8 0,.int .u8 0,.int .u8 0,.int .u8 0,.int .u8 0,.int .u8 0,.int .u8 0,.int .u8 0,.int .u8 0,.int .u8 0,.int .u8 0,.int .u8 0,.int .u8 0,.int .u8 0,.int .u8 0,.int .u8 0,.int .u8 0,.int .u8 0,.int .u8 0,.int .u8 0,.int .u8 0,.int .u8 0,.int .u8 0,.int .u8 0,.int .u8 0,.int .u8 0,.int .u8 0,.int .u8 0,.int .u8 0]
def Afh(L:List UInt8)(w:World)(e:Ending)(w':World):Prop:=e=.returned (.tuple #[.agg (Ah (Kx L).1),.int .i64 (Kx L).2])∧Below w.heap.size w w'
theorem Km{L:List UInt8}(h:Gc L=none):Kx L=(Bk 0,12):=by unfold Kx;rw[h]
theorem QT{L:List UInt8}{m:Aj}(h:Gc L=some m):Kx L=(m,0):=by unfold Kx;rw[h]
theorem UV{L:List UInt8}(h:(DZ L).2.2=0):∃k body,Gu L=some (k,body)∧DZ L=((k:Int),body,0):=by
 unfold DZ at h ⊢
 cases e:Gu L with
 | none=>rw[e] at h;cases h
 | some kb=>exact⟨kb.1,kb.2,rfl,rfl⟩
theorem UW{L:List UInt8}(h:(DZ L).2.2≠0):Gu L=none∧(DZ L).2.2=12:=by
 unfold DZ at h ⊢
 cases e:Gu L with
 | none=>exact⟨rfl,rfl⟩
 | some kb=>rw[e] at h;exact absurd rfl h
theorem XQ{L:List UInt8}(h:Gu L=none):Gc L=none:=by unfold Gc;rw[h]
theorem Ze(v:Value)(L:List UInt8)(w:World)(hL:Be w v L)(hl:L.length≤140737488355328):Calls aD 36 #[v] w fun e w'=>Afh L w e w':=by
 have HL:Hid (Be w v L):=hL;obtain⟨ov,nv,cx,rfl⟩:∃o n c,v=.slice o n c:=by obtain⟨o,c,h,_⟩:=hL.slice;exact⟨o,_,c,h⟩
 clear hL;obtain⟨w1,hw1⟩:∃w1,w1=w.alloc (.cells Co 27):=⟨_,rfl⟩;have g1:w1.heap[w.heap.size]?=some (.cells Co 27 (0,0)):=by rw[hw1];exact Ac _ _ _ rfl
 have B1:Below w.heap.size w w1:=by rw[hw1];exact(aK _ _).alloc (aC _) _
 have hs1:=(aA.1 g1).1;have CO:Hid (Calls aD 54 #[.slice ov nv cx] w1 fun e w'=> ∃u,e=.returned (.tuple #[.int .i64 (DZ L).1,u,.int .i64 (DZ L).2.2])∧Au w1.heap.size w' u (DZ L).2.1∧Below w1.heap.size w1 w'):=Wa _ L w1 (HL.out.below B1) hl;clear hl HL;by_cases he:(DZ L).2.2=0
 ·obtain⟨k,body,ho,hT⟩:=UV he;rw[hT] at CO;clear he hT;have hz:=Ch (Ee (k:Int));by_cases hk:AS (k:Int)=[]
  ·have HD:Hid (Kx L=(Bk 0,12)):=Km (Z7 ho hk);have CF:Hid (∀(g:Nat) (W:World),W.heap[g]?=some (.cells (Ah (Bk (k:Int))) 27 (0,0))→Calls aD 55 #[.pointer (some ⟨g,0,none⟩)] W fun e w'=>e=.returned (.tuple #[.agg IT,.bool false])∧Below W.heap.size W w'):=fun g W hW=>Ul g (Bk (k:Int)) hk W hW;clear ho hk;go_enter aW,aT;go_wp2_with fail;rw[←hw1];clear hw1;refine CO.out.mono ?_;rintro e w2 ⟨u,rfl,hO,hb2⟩;have g2:w2.heap[w.heap.size]?=some (.cells Co 27 (0,0)):=(hb2.block _ hs1).trans g1;have B2:Below w.heap.size w w2:=B1.trans (hb2.mono B1.size);have hs2:=(aA.1 g2).1;clear hO hb2 g1 B1;have n0:=Ac w2 (.cells Co 27) _ rfl;have n1:=setRow_heap _ _ _ (Ah (Bk (k:Int))) _ _ n0;have g3:((w2.alloc (.cells Co 27)).setRow w2.heap.size (Ah (Bk (k:Int)))).heap[w.heap.size]?=some (.cells Co 27 (0,0)):=(setRow_other _ _ _ _ (by omega)).trans (Af _ _ _ _ g2);have B3:Below w.heap.size w ((w2.alloc (.cells Co 27)).setRow w2.heap.size (Ah (Bk (k:Int)))):=Ak (B2.alloc B2.size _) B2.size _
   go_wp2_with (first
    | ((with_reducible refine BP 27 _ rfl ?_);refine LT rfl _ rfl (k:Int) rfl ?_)
    | ((with_reducible refine Da 27 _ _ rfl ?_);refine Du DJ rfl _ _ rfl w2.heap.size (Ah (Bk (k:Int))) (Hy (Ee (k:Int))) rfl rfl _ n0 rfl _ rfl ?_))
   refine(CF.out _ _ n1).mono ?_;rintro e w4 ⟨rfl,hb4⟩;obtain⟨w3,hw3⟩:∃w3,w3=(w2.alloc (.cells Co 27)).setRow w2.heap.size (Ah (Bk (k:Int))):=⟨_,rfl⟩;rw[←hw3] at hb4 g3 B3;clear hw3 n0 n1 g2;have hs3:=(aA.1 g3).1;have g4:w4.heap[w.heap.size]?=some (.cells Co 27 (0,0)):=(hb4.block _ hs3).trans g3;have B4:Below w.heap.size w w4:=B3.trans (hb4.mono B3.size);clear hb4 g3 B3;have g5:(w4.alloc (.cells IT 118)).heap[w.heap.size]?=some (.cells Co 27 (0,0)):=Af _ _ _ _ g4
   go_wp2_with (first
    | go_skip
    | ((with_reducible refine BP 27 _ rfl ?_);refine KX rfl rfl ?_)
    | ((with_reducible refine Da 27 _ _ rfl ?_);refine Du DJ rfl _ _ rfl w.heap.size (Ah (Bk 0)) (Hy (Ee 0)) rfl rfl _ g5 rfl _ rfl ?_))
   refine Gt DJ (p:=2) (u:=3) rfl rfl w.heap.size rfl (Ah (Bk 0)) (Ch (Ee 0)) (setRow_heap _ _ _ _ _ _ g5) _ rfl ⟨?_,Ak (B4.alloc B4.size _) (aC _) _⟩;rw[HD.out];rfl
  ·obtain⟨ns,hns⟩:∃ns,ns=Iz (k:Int):=⟨_,rfl⟩;obtain⟨c,hc⟩:∃c,c=Iq (k:Int):=⟨_,rfl⟩;obtain⟨d,hd⟩:∃d,d=Ki (k:Int):=⟨_,rfl⟩;have hlt:∀j∈ns,j<13:=by rw[hns];exact OG _
   have hl7:ns.length≤7:=by rw[hns];exact PB _
   have hcd:¬(c=true∧d=true):=by rw[hc,hd];exact Agi _
   have HDF:Hid (Gc L=Ga ns c d body (Bk (k:Int))):=by rw[hns,hc,hd];exact Z8 ho hk
   have CF:Hid (∀(g:Nat) (W:World),W.heap[g]?=some (.cells (Ah (Bk (k:Int))) 27 (0,0))→Calls aD 55 #[.pointer (some ⟨g,0,none⟩)] W fun e w'=>J6 g ns c d W e w'):=fun g W hW=>by
    rw[hns,hc,hd];exact Lw g (Bk (k:Int)) hk W hW
   clear hns hc hd hk ho;obtain⟨n,hn⟩:∃n,n=ns.length:=⟨_,rfl⟩;have HN:Hid (n=ns.length):=hn;clear hn;go_enter aW,aT;go_wp2_with fail;rw[←hw1];clear hw1;refine CO.out.mono ?_;rintro e w2 ⟨u,rfl,hO,hb2⟩;obtain⟨ou,nu,cu,rfl⟩:=Ea hO.sl;have g2:w2.heap[w.heap.size]?=some (.cells Co 27 (0,0)):=(hb2.block _ hs1).trans g1;have B2:Below w.heap.size w w2:=B1.trans (hb2.mono B1.size);have hs2:=(aA.1 g2).1;have HO:Hid (Au w1.heap.size w2 (.slice ou nu cu) body):=hO;clear hO hb2 g1 B1;have n0:=Ac w2 (.cells Co 27) _ rfl;have n1:=setRow_heap _ _ _ (Ah (Bk (k:Int))) _ _ n0;have g3:((w2.alloc (.cells Co 27)).setRow w2.heap.size (Ah (Bk (k:Int)))).heap[w.heap.size]?=some (.cells Co 27 (0,0)):=(setRow_other _ _ _ _ (by omega)).trans (Af _ _ _ _ g2);have Bx:Below w2.heap.size w2 ((w2.alloc (.cells Co 27)).setRow w2.heap.size (Ah (Bk (k:Int)))):=Ak ((aK _ _).alloc (aC _) _) (aC _) _;have B3:Below w.heap.size w ((w2.alloc (.cells Co 27)).setRow w2.heap.size (Ah (Bk (k:Int)))):=B2.trans (Bx.mono B2.size);have HS3:Hid (Be ((w2.alloc (.cells Co 27)).setRow w2.heap.size (Ah (Bk (k:Int)))) (.slice ou nu cu) body):=HO.out.sl.below Bx;have HOB:Hid (Value.ownBlock (.slice ou nu cu)≠some w2.heap.size):=fun e=>by have:=(HO.out.ge _ e).2;omega
   go_wp2_with (first
    | ((with_reducible refine BP 27 _ rfl ?_);refine LT rfl _ rfl (k:Int) rfl ?_)
    | ((with_reducible refine Da 27 _ _ rfl ?_);refine Du DJ rfl _ _ rfl w2.heap.size (Ah (Bk (k:Int))) (Hy (Ee (k:Int))) rfl rfl _ n0 rfl _ rfl ?_))
   refine(CF.out _ _ n1).mono ?_;rintro e w4 ⟨h,rfl,hh1,hh2,hb4⟩;rw[←HN.out];obtain⟨w3,hw3⟩:∃w3,w3=(w2.alloc (.cells Co 27)).setRow w2.heap.size (Ah (Bk (k:Int))):=⟨_,rfl⟩;rw[←hw3] at hb4 g3 B3 n1 hh1 HS3;clear hw3 n0 g2 Bx;have hs3:=(aA.1 g3).1;have hs3':=(aA.1 n1).1;have g4:w4.heap[w.heap.size]?=some (.cells Co 27 (0,0)):=(hb4.block _ hs3).trans g3;have B4:Below w.heap.size w w4:=B3.trans (hb4.mono B3.size);have hI4:Fi w4 h w2.heap.size ns (Bk (k:Int)):=⟨(hb4.block _ hs3').trans n1,hh2,Ee _,hlt⟩;have HS4:Hid (Be w4 (.slice ou nu cu) body):=HS3.out.below hb4;have hs4:=(aA.1 g4).1;have hne:h≠w2.heap.size:=by omega
   clear hb4 g3 B3 HS3 n1;have p0:=Ac w4 (.cells IT 118) _ rfl;have p1:=setRow_heap _ _ _ (Cc h w2.heap.size n c d) _ _ p0;have By:Below w4.heap.size w4 ((w4.alloc (.cells IT 118)).setRow w4.heap.size (Cc h w2.heap.size n c d)):=Ak ((aK _ _).alloc (aC _) _) (aC _) _
   go_wp2_with (first
    | go_skip
    | ((with_reducible refine Da 118 _ _ rfl ?_);refine Du Gq rfl _ _ rfl w4.heap.size (Cc h w2.heap.size n c d) (NF _ _ _ _ _) rfl rfl _ p0 rfl _ rfl ?_)
    | ((with_reducible refine Bf 118 _ rfl ?_);refine Bc Gq rfl _ rfl w4.heap.size 0 rfl _ _ _ (Cc h w2.heap.size n c d) rfl p1 (AA _ _) ?_))
   obtain⟨w5,hw5⟩:∃w5,w5=(w4.alloc (.cells IT 118)).setRow w4.heap.size (Cc h w2.heap.size n c d):=⟨_,rfl⟩;rw[←hw5] at By ⊢;clear hw5 p0 p1;have B5:Below w.heap.size w w5:=B4.trans (By.mono B4.size);have g5:w5.heap[w.heap.size]?=some (.cells Co 27 (0,0)):=(By.block _ hs4).trans g4;have CFI:=XK h w2.heap.size ns c d (Bk (k:Int)) w5 (hI4.below By) hl7 hne hcd (.slice ou nu cu) body (HS4.out.below By) HOB.out;rw[←HN.out] at CFI;clear By g4 B4 hI4 HS4;have hs5:=(aA.1 g5).1;refine CFI.mono ?_;rintro e w6 ⟨m',hgr,hm',gm,hcase⟩;have g6:w6.heap[w.heap.size]?=some (.cells Co 27 (0,0)):=(hgr.block _ hs5 (by simp;omega)).trans g5;have B6:Below w.heap.size w w6:=LJ B5 hgr B2.size B5.size;clear hgr CFI g5 B5;rcases hcase with ⟨hf,rfl⟩ | ⟨hf,rfl⟩
   ·have HD:Hid (Kx L=(m',0)):=QT (HDF.out.trans hf);have hms:=Ch hm';clear hf
    go_wp2_with (first
     | ((with_reducible refine Bf 27 _ rfl ?_);refine Bc DJ rfl _ rfl w2.heap.size 0 rfl _ _ _ (Ah m') hms gm (AA _ _) ?_)
     | ((with_reducible refine Da 27 _ _ rfl ?_);refine Du DJ rfl _ _ rfl w.heap.size (Ah m') (Hy hm') rfl rfl _ g6 rfl _ rfl ?_))
    refine Gt DJ (p:=2) (u:=3) rfl rfl w.heap.size rfl (Ah m') hms (setRow_heap _ _ _ _ _ _ g6) _ rfl ⟨?_,Ak B6 (aC _) _⟩;rw[HD.out];rfl
   ·have HD:Hid (Kx L=(Bk 0,12)):=Km (HDF.out.trans hf);clear hf
    go_wp2_with (first
     | ((with_reducible refine BP 27 _ rfl ?_);refine KX rfl rfl ?_)
     | ((with_reducible refine Da 27 _ _ rfl ?_);refine Du DJ rfl _ _ rfl w.heap.size (Ah (Bk 0)) (Hy (Ee 0)) rfl rfl _ g6 rfl _ rfl ?_))
    refine Gt DJ (p:=2) (u:=3) rfl rfl w.heap.size rfl (Ah (Bk 0)) (Ch (Ee 0)) (setRow_heap _ _ _ _ _ _ g6) _ rfl ⟨?_,Ak B6 (aC _) _⟩;rw[HD.out];rfl
 ·obtain⟨ho,h12⟩:=UW he;have HD:Hid (Kx L=(Bk 0,12)):=Km (XQ ho);rw[h12] at CO;clear ho h12 he;go_enter aW,aT;go_wp2_with fail;rw[←hw1];clear hw1;refine CO.out.mono ?_;rintro e w2 ⟨u,rfl,hO,hb2⟩;have g2:w2.heap[w.heap.size]?=some (.cells Co 27 (0,0)):=(hb2.block _ hs1).trans g1;have B2:Below w.heap.size w w2:=B1.trans (hb2.mono B1.size);clear hO hb2 g1 B1
  go_wp2_with (first
   | ((with_reducible refine BP 27 _ rfl ?_);refine KX rfl rfl ?_)
   | ((with_reducible refine Da 27 _ _ rfl ?_);refine Du DJ rfl _ _ rfl w.heap.size (Ah (Bk 0)) (Hy (Ee 0)) rfl rfl _ g2 rfl _ rfl ?_))
  refine Gt DJ (p:=2) (u:=3) rfl rfl w.heap.size rfl (Ah (Bk 0)) (Ch (Ee 0)) (setRow_heap _ _ _ _ _ _ g2) _ rfl ⟨?_,Ak B2 (aC _) _⟩;rw[HD.out];rfl
end
section
open Go.RowKit
theorem ZA{R:Rm}{N:Nat}{n:Ap Ay}(h:AQ N R n){m:Aj}(hm:Bj m)(hn:∀j,BG (Ad m j)):AQ (N+5) R (EX (Ar R) n m).1:=by
 have hkn:=(OS h.hold (Ad m 2) (Ad m 1) (Ad m 3) (Ad m 4) (hn 2).2 (hn 1).2 (hn 4).2).1;have hit:=MR h _ hkn;show AQ _ _ (if (Dg n.hold (Ad m 2) (Ad m 1) (Ad m 3) (Ad m 4)).2=0 then (Fj (Ar R) (Bg n (Dg n.hold (Ad m 2) (Ad m 1) (Ad m 3) (Ad m 4)).1) n.hold,false) else (KC (if (Dg n.hold (Ad m 2) (Ad m 1) (Ad m 3) (Ad m 4)).2=1 then Ml (Ar R) (Fj (Ar R) (Bg n (Dg n.hold (Ad m 2) (Ad m 1) (Ad m 3) (Ad m 4)).1) n.hold) m else Fj (Ar R) (Bg n (Dg n.hold (Ad m 2) (Ad m 1) (Ad m 3) (Ad m 4)).1) n.hold) m,true)).1;by_cases h0:(Dg n.hold (Ad m 2) (Ad m 1) (Ad m 3) (Ad m 4)).2=0
 ·rw[if_pos h0];exact hit.le (by omega)
 ·rw[if_neg h0];by_cases h1:(Dg n.hold (Ad m 2) (Ad m 1) (Ad m 3) (Ad m 4)).2=1
  ·rw[if_pos h1];exact KS (Ug hit hm (hn 6)) _ _
  ·rw[if_neg h1];exact(KS hit _ _).le (by omega)
theorem Zz{R:Rm}{N:Nat}{n:Ap Ay}(h:AQ N R n){m:Aj}(hn:∀j,BG (Ad m j)):AQ (N+3) R (Lm (Ar R) n m):=by
 have hkn:=(OR h.hold (Ad m 9) (Ad m 10) (Ad m 2) (hn 9).2 (hn 2).2).1;have hit:=MR h _ hkn;show AQ _ _ (if (Eo n.hold (Ad m 9) (Ad m 10) (Ad m 2)).1.use≠n.hold.use then Kn (Fj (Ar R) (Bg n (Eo n.hold (Ad m 9) (Ad m 10) (Ad m 2)).1) n.hold) else Fj (Ar R) (Bg n (Eo n.hold (Ad m 9) (Ad m 10) (Ad m 2)).1) n.hold);split
 ·exact KS hit _ _
 ·exact hit.le (by omega)
theorem Vk{R:Rm}{N:Nat}{n:Ap Ay}(h:AQ N R n)(src:Int)(m:Aj):AQ (N+1) R (D9 (Ar R) n src m).1:=by
 rw[Nj R n h.hold.ok];by_cases h1:Fr n.hold (Ad m 1)=true
 ·rw[if_pos h1];by_cases h2:(Kp R n.tab (Ad m 1) m.head).2=true
  ·rw[if_pos h2];exact KS (Ad2 h (by have:=h.load;unfold BG at this ⊢;split <;> omega)) _ _
  ·rw[if_neg h2];exact h.le (by omega)
 ·rw[if_neg h1];exact h.le (by omega)
theorem Ad4{R:Rm}{N:Nat}{n:Ap Ay}(h:AQ N R n){m:Aj}(hm:Bj m)(now:Int):AQ (N+5) R (I9 R n m now).1:=by
 have h1:=Sm h hm now;obtain⟨q1,q2,q3⟩:=Xy h1 (Ad m 11);have h2:=PG h1 q1 q2 q3;rw[Sj];split
 ·exact EI h2 _
 ·exact h2.le (by omega)
theorem PH{R:Rm}{N:Nat}{n:Ap Ay}(h:AQ N R n)(src:Int){m:Aj}(hm:Bj m)(hn:∀j,BG (Ad m j))(now:Int):AQ (N+5) R (Bs R n src m now).1:=by
 have h0:AQ (N+5) R n:=h.le (by omega);unfold Bs;split
 ·split
  ·exact ZA h hm hn
  ·exact h0
 ·split
  ·split
   ·exact(Zz h hn).le (by omega)
   ·exact h0
  ·split
   ·split
    ·exact(Vk h src m).le (by omega)
    ·exact h0
   ·split
    ·split
     ·rw[Nb];split
      ·exact Ad4 h hm now
      ·exact h0
     ·exact h0
    ·exact h0
theorem Qe(R:Rm)(n:Ap Ay)(src:Int)(data:List UInt8)(now:Int)(hd:Gc data=none):G1 (Ar R) n src data now=BR n ⟨13,0,0,0,0,0,0,0,Z,(Z,Z)⟩:=by
 unfold G1 Rg;rw[hd];rfl
theorem Qd(R:Rm)(n:Ap Ay)(src:Int)(data:List UInt8)(now:Int){m:Aj}(hd:Gc data=some m):G1 (Ar R) n src data now=if (Bs R n src m now).2=true then (Bs R n src m now).1 else BR (Bs R n src m now).1 ⟨13,0,0,0,0,0,0,0,Z,(Z,Z)⟩:=by
 unfold G1;have e:Rg (Ar R) n src data now=Bs R n src m now:=by rw[Wz,hd]
 rw[e];obtain⟨a,b⟩:=Bs R n src m now
 cases b <;> rfl
theorem Mm{R:Rm}{N:Nat}{n:Ap Ay}(h:AQ N R n)(src:Int)(data:List UInt8)(now:Int):AQ (N+6) R (G1 (Ar R) n src data now):=by
 cases hd:Gc data with
 | none=>rw[Qe R n src data now hd];exact(EI h _).le (by omega)
 | some m=>
  obtain⟨h1,h2,_⟩:=NK hd;rw[Qd R n src data now hd];split
  ·exact(PH h src h1 h2 now).le (by omega)
  ·exact EI (PH h src h1 h2 now) _
theorem UC(B:Nat)(w:World)(g gt gh gw:Nat)(R:Rm)(n:Ap Ay)(r:DU)(h:BT B w g gt gh gw R n r){M:Nat}(hi:AQ M R n)(hM:M≤900000)(src:Int)(data:List UInt8)(hl:data.length≤140737488355328)(now:Int):
  Calls aD 14 #[.pointer (some ⟨g,0,none⟩),.int .i64 src,.string ⟨data.toArray⟩,.int .i64 now] w fun e w'=>e=.returned (.tuple #[])∧CZ B w w' g gt gh gw R (G1 (Ar R) n src data now) r:=by
 obtain⟨cap,hcap⟩:=eX (grownCap w data.length 0 5);have hc1:data.length≤cap:=by rw[hcap];exact grownCap_ge _ _ _ _
 have hc2:cap≤maxLen:=by rw[hcap];exact grownCap_le_maxLen _ _ _ _ (by unfold maxLen;omega)
 obtain⟨w1,hw1⟩:=eX (w.drew.alloc (.cells (bytesRow ⟨data.toArray⟩ cap) 5 ((bytesRow ⟨data.toArray⟩ cap).size,(bytesRow ⟨data.toArray⟩ cap).size+1)))
 have hcv:(convert 9 85 (.string ⟨data.toArray⟩)).run aD w=.ok (.slice (some ⟨w.heap.size,0,none⟩) data.length cap) w1:=by
  rw[hw1,hcap];exact run_bytes_of_string w 9 85 5 ⟨data.toArray⟩ Tryz.underlying9 Tryz.underlying85 Tryz.underlying5
 have B1:Hid (Below w.heap.size w w1):=by show Below _ _ _;rw[hw1];exact((aK _ _).drew).alloc (aC _) _
 have BS:Be w1 (.slice (some ⟨w.heap.size,0,none⟩) data.length cap) data:=by
  refine⟨_,cap,rfl,hc1,hc2,fun e=>(by cases e),fun i hi=>⟨w.heap.size,0,_,_,_,rfl,by rw[hw1];exact Ac _ _ _ rfl,?_⟩⟩;rw[Nat.zero_add,bytesRow_at _ _ _ (by simpa using hi)];rfl
 have CD:=Ze _ data w1 BS hl;have A0:Hid (∀W,Below w.heap.size w W→An B w W g gt gh gw R n r (fun _=>False)):=fun W hW=>An.begin h hW fun k e=>e.elim;have HI:Hid (AQ M R n∧M≤900000):=⟨hi,hM⟩;unfold Afh at CD;clear hw1 hcap hc1 hc2 hl BS hi hM h
 cases hd:Gc data with
 | none=>
  have HD:Hid _:=Qe R n src data now hd;rw[Km hd] at CD;clear hd;obtain⟨md,hmd⟩:=eX (Bk 0);have HFT:Hid ((Ah md).size=53∧(Ah md).all (·.oneCell')=true):=by show _∧_;rw[hmd];exact Hy (Ee 0)
  rw[←hmd] at CD;clear hmd;go_enter Tryz.func14,Tryz.ntmps14;go_wp2_with (go_at_call 36;refine CD.mono ?_;rintro e w2 ⟨rfl,b2⟩;have B2:Hid _:=b2;clear b2 CD hcv;refine Aw ?_);unfold AZ;have N0:Hid ((w2.alloc (.cells Co 27)).heap[w2.heap.size]?=some (.cells Co 27 (0,0))):=Ac _ _ _ rfl;have N1:Hid (((w2.alloc (.cells Co 27)).setRow w2.heap.size (Ah md)).heap[w2.heap.size]?=some (.cells (Ah md) 27 (0,0))):=setRow_heap _ _ _ _ _ _ N0.out;have Bw:Hid _:=B1.out.trans (B2.out.mono B1.out.size);have A3:=A0.out _ (Ak (Bw.out.alloc Bw.out.size (.cells Co 27)) Bw.out.size (Ah md));have CN:=A3.call (n'':=BR n ⟨13,0,0,0,0,0,0,0,Z,(Z,Z)⟩) (P:=fun e _=>e=.returned (.tuple #[])) fun u hu=>EH B _ g gt gh gw R n u hu (by have:=HI.out.1.log;have:=HI.out.2;omega) 13 0 0 0 0 0;go_wp2_with (first
  | ((with_reducible refine Da 27 _ _ rfl ?_);refine Du DJ rfl _ _ rfl w2.heap.size (Ah md) HFT.out rfl rfl _ N0.out rfl _ rfl ?_)
  | ((with_reducible refine Bf 27 _ rfl ?_);refine Bc DJ rfl _ rfl w2.heap.size 0 rfl _ _ _ (Ah md) HFT.out.1 N1.out (AA _ _) ?_)
  | (go_at_call 38;refine CN.mono ?_;rintro e w4 ⟨rfl,a4,_⟩;have A4:Hid _:=a4;clear a4 CN))
  go_end0;exact⟨rfl,by rw[HD.out];exact A4.out.to⟩
 | some m=>
  have HD:Hid _:=Qd R n src data now hd;have HDN:Hid (Bj m∧∀j,BG (Ad m j)):=⟨(NK hd).1,(NK hd).2.1⟩;have HRM:Hid (Bo m=true):=(Un hd).2.1;rw[QT hd] at CD;clear hd;obtain⟨md,hmd⟩:=eX m;have HFT:Hid ((Ah md).size=53∧(Ah md).all (·.oneCell')=true):=by show _∧_;rw[hmd];exact Hy HDN.out.1
  rw[←hmd] at CD HD HDN HRM;clear hmd;obtain⟨rb,hrb⟩:=eX ((Bs R n src md now).2);have HRB:Hid _:=hrb
  have CO:Hid (∀W,An B w W g gt gh gw R n r (fun _=>False)→Calls aD 37 #[.pointer (some ⟨g,0,none⟩),.int .i64 src,.agg (Ah md),.int .i64 now] W fun e w'=>e=.returned (.bool rb)∧An B w w' g gt gh gw R (Bs R n src md now).1 r (fun _=>False)):=fun W hW=>by
   rw[hrb];exact(hW.call (P:=fun e _=>e=.returned (.bool (Bs R n src md now).2)) fun u hu=>UY B W g gt gh gw R n u hu HI.out.1 HI.out.2 src md HDN.out.1 HRM.out HDN.out.2 now).mono fun e w' q=>⟨q.1,q.2.1⟩
  rw[←hrb] at HD;clear hrb;have HLG:Hid ((Bs R n src md now).1.log.length≤1000000):=by show _≤_;have:=(PH HI.out.1 src HDN.out.1 HDN.out.2 now).log;have:=HI.out.2;omega
  obtain⟨n3,hn3⟩:=eX ((Bs R n src md now).1);rw[←hn3] at CO HD HLG;clear hn3;go_enter Tryz.func14,Tryz.ntmps14;go_wp2_with (go_at_call 36;refine CD.mono ?_;rintro e w2 ⟨rfl,b2⟩;have B2:Hid _:=b2;clear b2 CD hcv;refine Aw ?_);unfold AZ;have N0:Hid ((w2.alloc (.cells Co 27)).heap[w2.heap.size]?=some (.cells Co 27 (0,0))):=Ac _ _ _ rfl;have N1:Hid (((w2.alloc (.cells Co 27)).setRow w2.heap.size (Ah md)).heap[w2.heap.size]?=some (.cells (Ah md) 27 (0,0))):=setRow_heap _ _ _ _ _ _ N0.out;have Bw:Hid _:=B1.out.trans (B2.out.mono B1.out.size);have CX:=CO.out _ (A0.out _ (Ak (Bw.out.alloc Bw.out.size (.cells Co 27)) Bw.out.size (Ah md)));go_wp2_with (first
  | ((with_reducible refine Da 27 _ _ rfl ?_);refine Du DJ rfl _ _ rfl w2.heap.size (Ah md) HFT.out rfl rfl _ N0.out rfl _ rfl ?_)
  | ((with_reducible refine Bf 27 _ rfl ?_);refine Bc DJ rfl _ rfl w2.heap.size 0 rfl _ _ _ (Ah md) HFT.out.1 N1.out (AA _ _) ?_)
  | (go_at_call 37;refine CX.mono ?_;rintro e w4 ⟨rfl,a4⟩;have A4:Hid _:=a4;clear a4 CX;refine Aw ?_))
  unfold AZ
  cases rb with
  | true=>
   go_wp2_with fail;go_end0;exact⟨rfl,by rw[HD.out,if_pos (by trivial)];exact A4.out.to⟩
  | false=>
   have CN:=A4.out.call (n'':=BR n3 ⟨13,0,0,0,0,0,0,0,Z,(Z,Z)⟩) (P:=fun e _=>e=.returned (.tuple #[])) fun u hu=>EH B w4 g gt gh gw R n3 u hu HLG.out 13 0 0 0 0 0;go_wp2_with (go_at_call 38;refine CN.mono ?_;rintro e w5 ⟨rfl,a5,_⟩;have A5:Hid _:=a5;clear a5 CN);go_end0;exact⟨rfl,by rw[HD.out,if_neg (by decide)];exact A5.out.to⟩
end
section
open Go.Lib Go.RowKit
structure H6 where
 sw:Int
 au:Int
 ca:Int
 ro:Int
 pa:Int
 idl:Int
 hd:Int
 gr:Int
 bi:Nat
 wi:Int
 qu:Int
 wa:Int
 tr:Int
 ti:Int
 be:Int
 le:Int
 lo:Int
def DN(s:H6):Array Value:=#[.int .i64 s.sw,.int .i64 s.au,.int .i64 s.ca,.int .i64 s.ro,.int .i64 s.pa,.int .i64 s.idl,.int .i64 s.hd,.int .i64 s.gr,.float .f64 s.bi,.int .i64 s.wi,.int .i64 s.qu,.int .i64 s.wa,.int .i64 s.tr,.int .i64 s.ti,.int .i64 s.be,.int .i64 s.le,.int .i64 s.lo]
def OQ(n a b:Int):Bool:=decide (n≥a)&&decide (n≤b)
theorem TK(n a b:Int)(w:World):Calls aD 50 #[.int .i64 n,.int .i64 a,.int .i64 b] w fun e w'=>e=.returned (.bool (OQ n a b))∧Below w.heap.size w w':=by
 by_cases h1:n≥a
 ·have h1':decide (n≥a)=true:=by simpa using h1
  have hi:Hid (OQ n a b=decide (n≤b)):=by show _=_;unfold OQ;rw[h1'];rfl
  go_enter Tryz.func50,Tryz.ntmps50;go_wp2_with fail;go_ret;exact⟨by rw[hi.out];rfl,aK _ _⟩
 ·have h1':decide (n≥a)=false:=by simpa using h1
  have hi:Hid (OQ n a b=false):=by show _=_;unfold OQ;rw[h1'];rfl
  go_enter Tryz.func50,Tryz.ntmps50;go_wp2_with fail;go_ret;exact⟨by rw[hi.out];rfl,aK _ _⟩
theorem Yp{s:H6}{w:World}{g:Nat}{t:TypeId}{fr:Nat×Nat}(h:w.heap[g]?=some (.cells (DN s) t fr)):w.cell? ⟨g,0,none⟩=some (.int .i64 s.sw)∧w.cell? ⟨g,1,none⟩=some (.int .i64 s.au)∧w.cell? ⟨g,2,none⟩=some (.int .i64 s.ca)∧w.cell? ⟨g,3,none⟩=some (.int .i64 s.ro)∧w.cell? ⟨g,4,none⟩=some (.int .i64 s.pa)∧w.cell? ⟨g,5,none⟩=some (.int .i64 s.idl)∧w.cell? ⟨g,6,none⟩=some (.int .i64 s.hd)∧w.cell? ⟨g,7,none⟩=some (.int .i64 s.gr)∧w.cell? ⟨g,8,none⟩=some (.float .f64 s.bi)∧w.cell? ⟨g,9,none⟩=some (.int .i64 s.wi)∧w.cell? ⟨g,10,none⟩=some (.int .i64 s.qu)∧w.cell? ⟨g,11,none⟩=some (.int .i64 s.wa)∧w.cell? ⟨g,12,none⟩=some (.int .i64 s.tr)∧w.cell? ⟨g,13,none⟩=some (.int .i64 s.ti)∧w.cell? ⟨g,14,none⟩=some (.int .i64 s.be)∧w.cell? ⟨g,15,none⟩=some (.int .i64 s.le)∧w.cell? ⟨g,16,none⟩=some (.int .i64 s.lo):=by
 refine⟨?_,?_,?_,?_,?_,?_,?_,?_,?_,?_,?_,?_,?_,?_,?_,?_,?_⟩ <;> exact(cell_of_row _ _ _ _ _ _ h).trans rfl
theorem Ae8(s:H6)(w:World)(t:TypeId):(w.alloc (.cells (DN s) t)).heap[w.heap.size]?=some (.cells (DN s) t (0,0)):=Ac _ _ _ rfl
def Agm:Ag:=⟨50,17⟩
theorem LG:Agm.Ok:=⟨⟨_,Tryz.underlying50,rfl⟩,by kernel_rfl⟩
theorem Abn(s:H6):(DN s).size=17∧(DN s).all (·.oneCell')=true:=by
 refine⟨rfl,?_⟩;unfold DN;simp[Value.oneCell']
def stZ:Array Value:=#[.int .i64 0,.int .i64 0,.int .i64 0,.int .i64 0,.int .i64 0,.int .i64 0,.int .i64 0,.int .i64 0,.float .f64 0,.int .i64 0,.int .i64 0,.int .i64 0,.int .i64 0,.int .i64 0,.int .i64 0,.int .i64 0,.int .i64 0]
end
end Go.Proofs.YtbhkoipcpcoooabGreat
