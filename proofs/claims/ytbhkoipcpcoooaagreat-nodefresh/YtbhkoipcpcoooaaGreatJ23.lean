import Derived.Test.YtbhkoipcpcoooaaGreatJ22
import Derived.Test.YtbhkoipcpcoooaaGreatJ15
import Derived.Test.YtbhkoipcpcoooaaGreatJ14
import Derived.Test.YtbhkoipcpcoooaaGreatJ9
import Derived.Test.YtbhkoipcpcoooaaGreatJ3
import Derived.Test.YtbhkoipcpcoooaaGreatJ10
import Derived.Test.YtbhkoipcpcoooaaGreatJ6
import Derived.Test.YtbhkoipcpcoooaaGreatJ8
namespace Go.Proofs.YtbhkoipcpcoooaaGreat
set_option maxRecDepth 20000
set_option maxHeartbeats 64000000
open Go
open _root_.Array renaming getElem?_eq_some_iff → aA
open _root_.Nat renaming le_refl → aB
open Go.Proofs.Tryz renaming prog → aC, ntmps77 → aM, ntmps34 → aN, func77 → aO, func34 → aP
open _root_.List renaming take_succ_cons → aD, drop_succ_cons → aG, take_zero → aH, drop_zero → aI
open Go.RowKit.Below renaming refl → aJ
open _root_.Int renaming toNat_of_nonneg → aK
section
open Go.RowKit
def Cd(R:Rm)(n:Af Aq)(src:Int)(m:An)(now:Int):Af Aq×Bool:=
 if m.kind=1∨m.kind=2 then (if src=0∧decide (Ad m 0=n.hold.life)=true then Ea (Al R) n m else (n,false))
 else if m.kind=3 then (if src=0∧decide (Ad m 0=n.hold.life)=true then (IC (Al R) n m,true) else (n,false))
 else if m.kind=6 then (if src≠0 then DT (Al R) n src m else (n,false))
 else if m.kind=7 then (if src≠0∧decide (Ad m 0=n.hold.life)=true then FL (Al R) n m now else (n,false))
 else (n,false)
theorem Adz(R:Rm)(n:Af Aq)(src:Int)(data:List UInt8)(now:Int):IA (Al R) n src data now=match DQ data with
 | none=>(n,false)
 | some m=>Cd R n src m now:=rfl
theorem Rh(R:Rm)(n:Af Aq)(m:An)(now:Int):FL (Al R) n m now=if EC n now=true then L4 R n m now else (n,false):=rfl
theorem Aaw(B:Nat)(w:World)(g gt gh gw:Nat)(R:Rm)(n:Af Aq)(r:D0)(h:Cb B w g gt gh gw R n r){M:Nat}(hi:Az M R n)(hM:M≤900000)(src:Int)(m:An)(hm:BB m)(hr:Ca m=true)(hn:∀j,Ch (Ad m j))(now:Int):
  Calls aC 77 #[.pointer (some ⟨g,0,none⟩),.int .i64 src,.agg (Ae m),.int .i64 now] w fun e w'=>e=.returned (.bool (Cd R n src m now).2)∧Dl B w w' g gt gh gw R (Cd R n src m now).1 r:=by
 obtain⟨w0,hw0⟩:∃w0,w0=w.alloc (.cells (Ae m) 39):=⟨_,rfl⟩;have B0:Below w.heap.size w w0:=by rw[hw0];exact(aJ _ _).alloc (aB _) _
 have Z0:w0.heap[w.heap.size]?=some (.cells (Ae m) 39 (0,0)):=by rw[hw0];exact Ab _ _ _ rfl
 have A0:Av B w w0 g gt gh gw R n r (fun k=>k=w.heap.size):=Av.begin h B0 (by rintro k rfl;exact⟨aB _,by rw[hw0,Bf];exact Nat.lt_succ_self _⟩);have HA0:Hid (∀W,Below w0.heap.size w0 W→Av B w W g gt gh gw R n r (fun k=>k=w.heap.size)∧W.heap[w.heap.size]?=some (.cells (Ae m) 39 (0,0))):=fun W hW=>⟨A0.below hW,(hW.block _ (aA.1 Z0).1).trans Z0⟩;have HM:Hid (BB m):=hm;have HRM:Hid (Ca m=true):=hr;have HMN:Hid (∀j,Ch (Ad m j)):=hn;have HI:Hid (Az M R n∧M≤900000):=⟨hi,hM⟩;have HMS:Hid ((Ae m).size=53):=BG hm;obtain⟨kd,hkd⟩:∃kd,kd=m.kind:=⟨_,rfl⟩;have HKD:Hid (kd=m.kind):=hkd;have HK6:Hid (kd=1∨kd=2∨kd=3∨kd=6∨kd=7∨(kd≠1∧kd≠2∧kd≠3∧kd≠6∧kd≠7)):=by show _∨_;omega
 obtain⟨ic,hic⟩:∃ic,ic=Ad m 0:=⟨_,rfl⟩;obtain⟨lf,hlf⟩:∃lf,lf=n.hold.life:=⟨_,rfl⟩;have HIC:Hid (ic=Ad m 0):=hic;have HLF:Hid (lf=n.hold.life):=hlf;obtain⟨inb,hinb⟩:∃inb,inb=decide (Ad m 0=n.hold.life):=⟨_,rfl⟩;have HINB:Hid (inb=decide (Ad m 0=n.hold.life)):=hinb;obtain⟨myb,hmyb⟩:∃myb,myb=EC n now:=⟨_,rfl⟩;have HMY:Hid (myb=EC n now):=hmyb;have c5:∀u:Am w0,u.world.cell? ⟨g,5,none⟩=some (.pointer (some ⟨gh,0,none⟩)):=fun u=>by obtain⟨x,hx⟩:=(A0.below u.below).ndV;exact hx.f.c5
 have e1:∀u:Am w0,u.world.cell? ⟨w.heap.size,1,none⟩=some (.int .i64 ic):=fun u=>by rw[hic];exact(Dm HM.out (HA0.out _ u.below).2).n 0 (by decide)
 have CI:∀u:Am w0,Calls aC 57 #[.pointer (some ⟨gh,0,none⟩)] u.world fun e w'=>e=.returned (.int .i64 lf)∧w'=u.world:=fun u=>by rw[hlf];exact(A0.below u.below).ask fun x hx=>(FJ _ gh n.hold hx.hold).1
 have ne9:=Am.ne w0;have hw0':=hw0.symm;by_cases hs:src=0
 ·subst hs;by_cases hin:ic=lf
  ·have hib:(ic==lf)=true:=by simpa using hin
   have HIN:Hid (Ad m 0=n.hold.life):=by show _=_;rw[←hic, ←hlf,hin]
   clear hin hi hM hm hr hn hkd hic hlf hinb hmyb A0 B0 Z0 hw0 h;go_enter aO,aM;go_wp2_with fail;refine BE (by kernel_rfl) (by kernel_rfl) ?_
   iterate 9 (go_big_quiet_step (fail))
   go_big_quiet_want;go_big_quiet_op;refine⟨_,fun u=>Calls.later_sameT (CI u),?_⟩;go_big_quiet_on
   iterate 3 (go_big_quiet_step (fail))
   refine wpQuiet_nil ?_;rintro w' ⟨uL,rfl⟩;obtain⟨w1,hw1⟩:∃w1,w1=uL.world:=⟨_,rfl⟩;have A1:Hid (Av B w w1 g gt gh gw R n r (fun k=>k=w.heap.size)):=by show Av _ _ _ _ _ _ _ _ _ _ _;rw[hw1];exact(HA0.out _ uL.below).1
   have Z1:Hid (w1.heap[w.heap.size]?=some (.cells (Ae m) 39 (0,0))):=by show _=_;rw[hw1];exact(HA0.out _ uL.below).2
   rw[←hw1];clear hw1 uL CI c5 e1 ne9 hw0' HA0;have e0:w1.cell? ⟨w.heap.size,0,none⟩=some (.int .i64 kd):=by rw[HKD.out];exact(Dm HM.out Z1.out).c0
   rcases HK6.out with rfl | rfl | rfl | rfl | rfl | ⟨n1,n2,n3,n6,n7⟩
   ·have HD0:Hid (Cd R n 0 m now=Ea (Al R) n m):=by show _=_;unfold Cd;rw[←HKD.out];simp[HIN.out]
    have CX:=A1.out.call (n'':=(Ea (Al R) n m).1) (P:=fun e _=>e=.returned (.bool (Ea (Al R) n m).2)) fun u hu=>Rg B w1 g gt gh gw R n u hu HI.out.1 HI.out.2 m HM.out HRM.out (by rw[←HKD.out];decide) HMN.out;obtain⟨rv,hrv⟩:∃rv,rv=(Ea (Al R) n m).2:=⟨_,rfl⟩;have HRV:Hid (rv=(Ea (Al R) n m).2):=hrv;rw[←hrv] at CX;clear hrv
    go_wp2_with (first
     | ((with_reducible refine Aw 39 _ rfl ?_);refine AH BD rfl _ rfl w.heap.size 0 rfl _ _ _ (Ae m) HMS.out Z1.out (Ar _ _) ?_)
     | (go_at_call 115;refine CX.mono ?_;rintro e w2 ⟨rfl,a2,_⟩;have A2:Hid (Av B w w2 g gt gh gw R _ r (fun k=>k=w.heap.size)):=a2;clear a2 CX;refine Ak ?_))
    unfold AA
    cases rv with
    | false=>
     go_wp2_with fail;go_ret;exact⟨by rw[HD0.out, ←HRV.out];rfl,by rw[HD0.out];exact A2.out.to⟩
    | true=>
     go_wp2_with fail;go_ret;exact⟨by rw[HD0.out, ←HRV.out];rfl,by rw[HD0.out];exact A2.out.to⟩
   ·have HD0:Hid (Cd R n 0 m now=Ea (Al R) n m):=by show _=_;unfold Cd;rw[←HKD.out];simp[HIN.out]
    have CX:=A1.out.call (n'':=(Ea (Al R) n m).1) (P:=fun e _=>e=.returned (.bool (Ea (Al R) n m).2)) fun u hu=>Rg B w1 g gt gh gw R n u hu HI.out.1 HI.out.2 m HM.out HRM.out (by rw[←HKD.out];decide) HMN.out;obtain⟨rv,hrv⟩:∃rv,rv=(Ea (Al R) n m).2:=⟨_,rfl⟩;have HRV:Hid (rv=(Ea (Al R) n m).2):=hrv;rw[←hrv] at CX;clear hrv
    go_wp2_with (first
     | ((with_reducible refine Aw 39 _ rfl ?_);refine AH BD rfl _ rfl w.heap.size 0 rfl _ _ _ (Ae m) HMS.out Z1.out (Ar _ _) ?_)
     | (go_at_call 115;refine CX.mono ?_;rintro e w2 ⟨rfl,a2,_⟩;have A2:Hid (Av B w w2 g gt gh gw R _ r (fun k=>k=w.heap.size)):=a2;clear a2 CX;refine Ak ?_))
    unfold AA
    cases rv with
    | false=>
     go_wp2_with fail;go_ret;exact⟨by rw[HD0.out, ←HRV.out];rfl,by rw[HD0.out];exact A2.out.to⟩
    | true=>
     go_wp2_with fail;go_ret;exact⟨by rw[HD0.out, ←HRV.out];rfl,by rw[HD0.out];exact A2.out.to⟩
   ·have HD0:Hid (Cd R n 0 m now=(IC (Al R) n m,true)):=by show _=_;unfold Cd;rw[←HKD.out];simp[HIN.out]
    have CX:=A1.out.call (n'':=((IC (Al R) n m,true)).1) (P:=fun e _=>e=.returned (.bool true)) fun u hu=>Ab9 B w1 g gt gh gw R n u hu HI.out.1 HI.out.2 m HM.out HMN.out
    go_wp2_with (first
     | ((with_reducible refine Aw 39 _ rfl ?_);refine AH BD rfl _ rfl w.heap.size 0 rfl _ _ _ (Ae m) HMS.out Z1.out (Ar _ _) ?_)
     | (go_at_call 116;refine CX.mono ?_;rintro e w2 ⟨rfl,a2,_⟩;have A2:Hid (Av B w w2 g gt gh gw R _ r (fun k=>k=w.heap.size)):=a2;clear a2 CX))
    go_ret;exact⟨by rw[HD0.out];rfl,by rw[HD0.out];exact A2.out.to⟩
   ·have HD0:Hid (Cd R n 0 m now=(n,false)):=by show _=_;unfold Cd;rw[←HKD.out];simp
    go_wp2_with fail;go_ret;exact⟨by rw[HD0.out];rfl,by rw[HD0.out];exact A1.out.to⟩
   ·have HD0:Hid (Cd R n 0 m now=(n,false)):=by show _=_;unfold Cd;rw[←HKD.out];simp
    go_wp2_with fail;have ne9:=Am.ne w1;refine BE (by kernel_rfl) (by kernel_rfl) ?_
    iterate 24 (go_big_quiet_step (fail))
    refine wpQuiet_nil ?_;rintro w' ⟨uL,rfl⟩;obtain⟨w2,hw2⟩:∃w2,w2=uL.world:=⟨_,rfl⟩;have A2:Hid (Av B w w2 g gt gh gw R n r (fun k=>k=w.heap.size)):=by show Av _ _ _ _ _ _ _ _ _ _ _;rw[hw2];exact A1.out.below uL.below
    rw[←hw2];clear hw2 uL ne9;go_wp2_with fail;go_ret;exact⟨by rw[HD0.out];rfl,by rw[HD0.out];exact A2.out.to⟩
   ·have b1:(kd==1)=false:=by simpa using n1
    have b2:(kd==2)=false:=by simpa using n2
    have b3:(kd==3)=false:=by simpa using n3
    have b6:(kd==6)=false:=by simpa using n6
    have b7:(kd==7)=false:=by simpa using n7
    have HD0:Hid (Cd R n 0 m now=(n,false)):=by show _=_;unfold Cd;rw[←HKD.out];simp[n1,n2,n3,n6,n7]
    go_wp2_with fail;go_ret;exact⟨by rw[HD0.out];rfl,by rw[HD0.out];exact A1.out.to⟩
  ·have hib:(ic==lf)=false:=by simpa using hin
   have HIN:Hid (¬Ad m 0=n.hold.life):=by show¬_;rw[←hic, ←hlf];exact hin
   clear hin hi hM hm hr hn hkd hic hlf hinb hmyb A0 B0 Z0 hw0 h;go_enter aO,aM;go_wp2_with fail;refine BE (by kernel_rfl) (by kernel_rfl) ?_
   iterate 9 (go_big_quiet_step (fail))
   go_big_quiet_want;go_big_quiet_op;refine⟨_,fun u=>Calls.later_sameT (CI u),?_⟩;go_big_quiet_on
   iterate 3 (go_big_quiet_step (fail))
   refine wpQuiet_nil ?_;rintro w' ⟨uL,rfl⟩;obtain⟨w1,hw1⟩:∃w1,w1=uL.world:=⟨_,rfl⟩;have A1:Hid (Av B w w1 g gt gh gw R n r (fun k=>k=w.heap.size)):=by show Av _ _ _ _ _ _ _ _ _ _ _;rw[hw1];exact(HA0.out _ uL.below).1
   have Z1:Hid (w1.heap[w.heap.size]?=some (.cells (Ae m) 39 (0,0))):=by show _=_;rw[hw1];exact(HA0.out _ uL.below).2
   rw[←hw1];clear hw1 uL CI c5 e1 ne9 hw0' HA0;have e0:w1.cell? ⟨w.heap.size,0,none⟩=some (.int .i64 kd):=by rw[HKD.out];exact(Dm HM.out Z1.out).c0
   rcases HK6.out with rfl | rfl | rfl | rfl | rfl | ⟨n1,n2,n3,n6,n7⟩
   ·have HD0:Hid (Cd R n 0 m now=(n,false)):=by show _=_;unfold Cd;rw[←HKD.out];simp[HIN.out]
    go_wp2_with fail;go_ret;exact⟨by rw[HD0.out];rfl,by rw[HD0.out];exact A1.out.to⟩
   ·have HD0:Hid (Cd R n 0 m now=(n,false)):=by show _=_;unfold Cd;rw[←HKD.out];simp[HIN.out]
    go_wp2_with fail;go_ret;exact⟨by rw[HD0.out];rfl,by rw[HD0.out];exact A1.out.to⟩
   ·have HD0:Hid (Cd R n 0 m now=(n,false)):=by show _=_;unfold Cd;rw[←HKD.out];simp[HIN.out]
    go_wp2_with fail;go_ret;exact⟨by rw[HD0.out];rfl,by rw[HD0.out];exact A1.out.to⟩
   ·have HD0:Hid (Cd R n 0 m now=(n,false)):=by show _=_;unfold Cd;rw[←HKD.out];simp
    go_wp2_with fail;go_ret;exact⟨by rw[HD0.out];rfl,by rw[HD0.out];exact A1.out.to⟩
   ·have HD0:Hid (Cd R n 0 m now=(n,false)):=by show _=_;unfold Cd;rw[←HKD.out];simp
    go_wp2_with fail;have ne9:=Am.ne w1;refine BE (by kernel_rfl) (by kernel_rfl) ?_
    iterate 24 (go_big_quiet_step (fail))
    refine wpQuiet_nil ?_;rintro w' ⟨uL,rfl⟩;obtain⟨w2,hw2⟩:∃w2,w2=uL.world:=⟨_,rfl⟩;have A2:Hid (Av B w w2 g gt gh gw R n r (fun k=>k=w.heap.size)):=by show Av _ _ _ _ _ _ _ _ _ _ _;rw[hw2];exact A1.out.below uL.below
    rw[←hw2];clear hw2 uL ne9;go_wp2_with fail;go_ret;exact⟨by rw[HD0.out];rfl,by rw[HD0.out];exact A2.out.to⟩
   ·have b1:(kd==1)=false:=by simpa using n1
    have b2:(kd==2)=false:=by simpa using n2
    have b3:(kd==3)=false:=by simpa using n3
    have b6:(kd==6)=false:=by simpa using n6
    have b7:(kd==7)=false:=by simpa using n7
    have HD0:Hid (Cd R n 0 m now=(n,false)):=by show _=_;unfold Cd;rw[←HKD.out];simp[n1,n2,n3,n6,n7]
    go_wp2_with fail;go_ret;exact⟨by rw[HD0.out];rfl,by rw[HD0.out];exact A1.out.to⟩
 ·have hsb:(src==0)=false:=by simpa using hs
  have hsn:(src !=0)=true:=by simpa using hs
  have HS:Hid (¬src=0):=hs;clear hs hi hM hm hr hn hkd hic hlf hinb hmyb A0 B0 Z0 hw0 h;go_enter aO,aM;go_wp2_with fail;refine BE (by kernel_rfl) (by kernel_rfl) ?_
  iterate 13 (go_big_quiet_step (fail))
  refine wpQuiet_nil ?_;rintro w' ⟨uL,rfl⟩;obtain⟨w1,hw1⟩:∃w1,w1=uL.world:=⟨_,rfl⟩;have A1:Hid (Av B w w1 g gt gh gw R n r (fun k=>k=w.heap.size)):=by show Av _ _ _ _ _ _ _ _ _ _ _;rw[hw1];exact(HA0.out _ uL.below).1
  have Z1:Hid (w1.heap[w.heap.size]?=some (.cells (Ae m) 39 (0,0))):=by show _=_;rw[hw1];exact(HA0.out _ uL.below).2
  rw[←hw1];clear hw1 uL CI c5 e1 ne9 hw0' HA0;have e0:w1.cell? ⟨w.heap.size,0,none⟩=some (.int .i64 kd):=by rw[HKD.out];exact(Dm HM.out Z1.out).c0
  rcases HK6.out with rfl | rfl | rfl | rfl | rfl | ⟨n1,n2,n3,n6,n7⟩
  ·have HD0:Hid (Cd R n src m now=(n,false)):=by show _=_;unfold Cd;rw[←HKD.out];simp[HS.out]
   go_wp2_with fail;go_ret;exact⟨by rw[HD0.out];rfl,by rw[HD0.out];exact A1.out.to⟩
  ·have HD0:Hid (Cd R n src m now=(n,false)):=by show _=_;unfold Cd;rw[←HKD.out];simp[HS.out]
   go_wp2_with fail;go_ret;exact⟨by rw[HD0.out];rfl,by rw[HD0.out];exact A1.out.to⟩
  ·have HD0:Hid (Cd R n src m now=(n,false)):=by show _=_;unfold Cd;rw[←HKD.out];simp[HS.out]
   go_wp2_with fail;go_ret;exact⟨by rw[HD0.out];rfl,by rw[HD0.out];exact A1.out.to⟩
  ·have HD0:Hid (Cd R n src m now=DT (Al R) n src m):=by show _=_;unfold Cd;rw[←HKD.out];simp[HS.out]
   have CX:=A1.out.call (n'':=(DT (Al R) n src m).1) (P:=fun e _=>e=.returned (.bool (DT (Al R) n src m).2)) fun u hu=>Yj B w1 g gt gh gw R n u hu HI.out.1 HI.out.2 src m HM.out HMN.out;obtain⟨rv,hrv⟩:∃rv,rv=(DT (Al R) n src m).2:=⟨_,rfl⟩;have HRV:Hid (rv=(DT (Al R) n src m).2):=hrv;rw[←hrv] at CX;clear hrv
   go_wp2_with (first
    | ((with_reducible refine Aw 39 _ rfl ?_);refine AH BD rfl _ rfl w.heap.size 0 rfl _ _ _ (Ae m) HMS.out Z1.out (Ar _ _) ?_)
    | (go_at_call 117;refine CX.mono ?_;rintro e w2 ⟨rfl,a2,_⟩;have A2:Hid (Av B w w2 g gt gh gw R _ r (fun k=>k=w.heap.size)):=a2;clear a2 CX;refine Ak ?_))
   unfold AA
   cases rv with
   | false=>
    go_wp2_with fail;go_ret;exact⟨by rw[HD0.out, ←HRV.out];rfl,by rw[HD0.out];exact A2.out.to⟩
   | true=>
    go_wp2_with fail;go_ret;exact⟨by rw[HD0.out, ←HRV.out];rfl,by rw[HD0.out];exact A2.out.to⟩
  ·have HD7:Hid (Cd R n src m now=if inb=true∧myb=true then L4 R n m now else (n,false)):=by
    show _=_;unfold Cd;rw[←HKD.out,Rh, ←HMY.out, ←HINB.out]
    cases inb <;> cases myb <;> simp[HS.out]
   go_wp2_with fail;have c5:∀u:Am w1,u.world.cell? ⟨g,5,none⟩=some (.pointer (some ⟨gh,0,none⟩)):=fun u=>by obtain⟨x,hx⟩:=(A1.out.below u.below).ndV;exact hx.f.c5
   have hZ:∀u:Am w1,u.world.heap[w.heap.size]?=some (.cells (Ae m) 39 (0,0)):=fun u=>(u.below.block _ (aA.1 Z1.out).1).trans Z1.out;have e1:∀u:Am w1,u.world.cell? ⟨w.heap.size,1,none⟩=some (.int .i64 ic):=fun u=>by rw[HIC.out];exact(Dm HM.out (hZ u)).n 0 (by decide)
   have CI:∀u:Am w1,Calls aC 57 #[.pointer (some ⟨gh,0,none⟩)] u.world fun e w'=>e=.returned (.int .i64 lf)∧w'=u.world:=fun u=>by rw[HLF.out];exact(A1.out.below u.below).ask fun x hx=>(FJ _ gh n.hold hx.hold).1
   have CM:∀u:Am w1,Calls aC 59 #[.pointer (some ⟨g,0,none⟩),.int .i64 now] u.world fun e w'=>e=.returned (.bool myb)∧Below u.world.heap.size u.world w':=fun u=>by rw[HMY.out];exact(A1.out.below u.below).ask fun x hx=>Nv B u.world g gt gh gw R n x hx HI.out.1.hold now
   have ne9:=Am.ne w1;by_cases hin:ic=lf
   ·have hib:(ic==lf)=true:=by simpa using hin
    obtain rfl:inb=true:=by rw[HINB.out, ←HIC.out, ←HLF.out,decide_eq_true hin]
    clear hin
    cases myb with
    | false=>
     refine BE (by kernel_rfl) (by kernel_rfl) ?_
     iterate 9 (go_big_quiet_step (fail))
     go_big_quiet_want;go_big_quiet_op;refine⟨_,fun u=>Calls.later_sameT (CI u),?_⟩;go_big_quiet_on
     iterate 5 (go_big_quiet_step (fail))
     go_big_quiet_want;go_big_quiet_op;refine⟨_,fun u=>Calls.later_of (CM u),?_⟩;go_big_quiet_on
     iterate 8 (go_big_quiet_step (fail))
     refine wpQuiet_nil ?_;rintro w' ⟨uL,rfl⟩;obtain⟨w2,hw2⟩:∃w2,w2=uL.world:=⟨_,rfl⟩;have A2:Hid (Av B w w2 g gt gh gw R n r (fun k=>k=w.heap.size)):=by show Av _ _ _ _ _ _ _ _ _ _ _;rw[hw2];exact A1.out.below uL.below
     rw[←hw2];clear hw2 uL CI CM c5 e1 hZ ne9;go_wp2_with fail;go_ret;exact⟨by rw[HD7.out];rfl,by rw[HD7.out];exact A2.out.to⟩
    | true=>
     refine Cu 21 (by kernel_rfl) (by kernel_rfl) ?_;simp only[aD,aH,aG,aI]
     iterate 9 (go_big_quiet_step (fail))
     go_big_quiet_want;go_big_quiet_op;refine⟨_,fun u=>Calls.later_sameT (CI u),?_⟩;go_big_quiet_on
     iterate 5 (go_big_quiet_step (fail))
     go_big_quiet_want;go_big_quiet_op;refine⟨_,fun u=>Calls.later_of (CM u),?_⟩;go_big_quiet_on
     iterate 3 (go_big_quiet_step (fail))
     refine JJ BD rfl _ rfl w.heap.size 0 rfl _ _ _ (Ae m) HMS.out (fun w' h=>by obtain⟨z,rfl⟩:=h;exact hZ z) (Ar _ _) ?_;simp only[Act.put,List.setIfInBounds_toArray,List.set_cons_succ,List.set_cons_zero];go_big_quiet_step (fail);refine wpQuiet_nil ?_;rintro w' ⟨uL,rfl⟩;obtain⟨w2,hw2⟩:∃w2,w2=uL.world:=⟨_,rfl⟩;have A2:Hid (Av B w w2 g gt gh gw R n r (fun k=>k=w.heap.size)):=by show Av _ _ _ _ _ _ _ _ _ _ _;rw[hw2];exact A1.out.below uL.below
     rw[←hw2];have CX:=A2.out.call (n'':=(L4 R n m now).1) (P:=fun e _=>e=.returned (.bool (L4 R n m now).2)) fun u hu=>VU B w2 g gt gh gw R n u hu HI.out.1 HI.out.2 m HM.out now;obtain⟨rv,hrv⟩:∃rv,rv=(L4 R n m now).2:=⟨_,rfl⟩;have HRV:Hid (rv=(L4 R n m now).2):=hrv;rw[←hrv] at CX;clear hrv hw2 uL CI CM c5 e1 hZ ne9;go_wp2_with (go_at_call 118;refine CX.mono ?_;rintro e w3 ⟨rfl,a3,_⟩;have A3:Hid (Av B w w3 g gt gh gw R _ r (fun k=>k=w.heap.size)):=a3;clear a3 CX;refine Ak ?_);unfold AA;have HD8:Hid (Cd R n src m now=L4 R n m now):=by show _=_;rw[HD7.out];simp
     cases rv with
     | false=>
      go_wp2_with fail;go_ret;exact⟨by rw[HD8.out, ←HRV.out];rfl,by rw[HD8.out];exact A3.out.to⟩
     | true=>
      go_wp2_with fail;go_ret;exact⟨by rw[HD8.out, ←HRV.out];rfl,by rw[HD8.out];exact A3.out.to⟩
   ·have hib:(ic==lf)=false:=by simpa using hin
    obtain rfl:inb=false:=by rw[HINB.out, ←HIC.out, ←HLF.out,decide_eq_false hin]
    clear hin;refine BE (by kernel_rfl) (by kernel_rfl) ?_
    iterate 9 (go_big_quiet_step (fail))
    go_big_quiet_want;go_big_quiet_op;refine⟨_,fun u=>Calls.later_sameT (CI u),?_⟩;go_big_quiet_on
    iterate 14 (go_big_quiet_step (fail))
    refine wpQuiet_nil ?_;rintro w' ⟨uL,rfl⟩;obtain⟨w2,hw2⟩:∃w2,w2=uL.world:=⟨_,rfl⟩;have A2:Hid (Av B w w2 g gt gh gw R n r (fun k=>k=w.heap.size)):=by show Av _ _ _ _ _ _ _ _ _ _ _;rw[hw2];exact A1.out.below uL.below
    rw[←hw2];clear hw2 uL CI CM c5 e1 hZ ne9;go_wp2_with fail;go_ret;exact⟨by rw[HD7.out];rfl,by rw[HD7.out];exact A2.out.to⟩
  ·have b1:(kd==1)=false:=by simpa using n1
   have b2:(kd==2)=false:=by simpa using n2
   have b3:(kd==3)=false:=by simpa using n3
   have b6:(kd==6)=false:=by simpa using n6
   have b7:(kd==7)=false:=by simpa using n7
   have HD0:Hid (Cd R n src m now=(n,false)):=by show _=_;unfold Cd;rw[←HKD.out];simp[n1,n2,n3,n6,n7]
   go_wp2_with fail;go_ret;exact⟨by rw[HD0.out];rfl,by rw[HD0.out];exact A1.out.to⟩
end
section
open Go.Lib Go.RowKit
abbrev Ao:Array Value:=#[.int .i64 0,.int .i64 0,.int .i64 0,.int .i64 0,.int .i64 0,.int .i64 0,.int .i64 0,.int .i64 0,.int .i64 0,.int .i64 0,.int .i64 0,.int .i64 0,.int .i64 0,.int .i64 0,.int .u8 0,.int .u8 0,.int .u8 0,.int .u8 0,.int .u8 0,.int .u8 0,.int .u8 0,.int .u8 0,.int .u8 0,.int .u8 0,.int .u8 0,.int .u8 0,.int .u8 0,.int .u8 0,.int .u8 0,.int .u8 0,.int .u8 0,.int .u8 0,.int .u8 0,.int .u8 0,.int .u8 0,.int .u8 0,.int .u8 0,.int .u8 0,.int .u8 0,.int .u8 0,.int .u8 0,.int .u8 0,.int .u8 0,.int .u8 0,.int .u8 0,.int .u8 0,.int .u8 0,.int .u8 0,.int .u8 0,.int .u8 0,.int .u8 0,.int .u8 0,.int .u8 0]
def Yq(L:List UInt8)(w:World)(e:Ending)(w':World):Prop:=e=.returned (.tuple #[.agg (Ae (GG L).1),.int .i64 (GG L).2])∧Below w.heap.size w w'
theorem Hj{L:List UInt8}(h:DQ L=none):GG L=(Bk 0,12):=by unfold GG;rw[h]
theorem NI{L:List UInt8}{m:An}(h:DQ L=some m):GG L=(m,0):=by unfold GG;rw[h]
theorem SU{L:List UInt8}(h:(DE L).2.2=0):∃k body,H5 L=some (k,body)∧DE L=((k:Int),body,0):=by
 unfold DE at h ⊢
 cases e:H5 L with
 | none=>rw[e] at h;cases h
 | some kb=>exact⟨kb.1,kb.2,rfl,rfl⟩
theorem SV{L:List UInt8}(h:(DE L).2.2≠0):H5 L=none∧(DE L).2.2=12:=by
 unfold DE at h ⊢
 cases e:H5 L with
 | none=>exact⟨rfl,rfl⟩
 | some kb=>rw[e] at h;exact absurd rfl h
theorem Vx{L:List UInt8}(h:H5 L=none):DQ L=none:=by unfold DQ;rw[h]
theorem Aip(v:Value)(L:List UInt8)(w:World)(hL:Br w v L)(hl:L.length≤140737488355328):Calls aC 34 #[v] w fun e w'=>Yq L w e w':=by
 have HL:Hid (Br w v L):=hL;obtain⟨ov,nv,cx,rfl⟩:∃o n c,v=.slice o n c:=by obtain⟨o,c,h,_⟩:=hL.slice;exact⟨o,_,c,h⟩
 clear hL;obtain⟨w1,hw1⟩:∃w1,w1=w.alloc (.cells Ao 39):=⟨_,rfl⟩;have g1:w1.heap[w.heap.size]?=some (.cells Ao 39 (0,0)):=by rw[hw1];exact Ab _ _ _ rfl
 have B1:Below w.heap.size w w1:=by rw[hw1];exact(aJ _ _).alloc (aB _) _
 have hs1:=(aA.1 g1).1;have CO:Hid (Calls aC 79 #[.slice ov nv cx] w1 fun e w'=> ∃u,e=.returned (.tuple #[.int .i64 (DE L).1,u,.int .i64 (DE L).2.2])∧AB w1.heap.size w' u (DE L).2.1∧Below w1.heap.size w1 w'):=Ad1 _ L w1 (HL.out.below B1) hl;clear hl HL;by_cases he:(DE L).2.2=0
 ·obtain⟨k,body,ho,hT⟩:=SU he;rw[hT] at CO;clear he hT;have hz:=BG (Du (k:Int));by_cases hk:AQ (k:Int)=[]
  ·have HD:Hid (GG L=(Bk 0,12)):=Hj (XP ho hk);have CF:Hid (∀(g:Nat) (W:World),W.heap[g]?=some (.cells (Ae (Bk (k:Int))) 39 (0,0))→Calls aC 80 #[.pointer (some ⟨g,0,none⟩)] W fun e w'=>e=.returned (.tuple #[.agg LV,.bool false])∧Below W.heap.size W w'):=fun g W hW=>ZR g (Bk (k:Int)) hk W hW;clear ho hk;go_enter aP,aN;go_wp2_with fail;rw[←hw1];clear hw1;refine CO.out.mono ?_;rintro e w2 ⟨u,rfl,hO,hb2⟩;have g2:w2.heap[w.heap.size]?=some (.cells Ao 39 (0,0)):=(hb2.block _ hs1).trans g1;have B2:Below w.heap.size w w2:=B1.trans (hb2.mono B1.size);have hs2:=(aA.1 g2).1;clear hO hb2 g1 B1;have n0:=Ab w2 (.cells Ao 39) _ rfl;have n1:=setRow_heap _ _ _ (Ae (Bk (k:Int))) _ _ n0;have g3:((w2.alloc (.cells Ao 39)).setRow w2.heap.size (Ae (Bk (k:Int)))).heap[w.heap.size]?=some (.cells Ao 39 (0,0)):=(setRow_other _ _ _ _ (by omega)).trans (Ah _ _ _ _ g2);have B3:Below w.heap.size w ((w2.alloc (.cells Ao 39)).setRow w2.heap.size (Ae (Bk (k:Int)))):=Aj (B2.alloc B2.size _) B2.size _
   go_wp2_with (first
    | ((with_reducible refine Cy 39 _ rfl ?_);refine Nn rfl _ rfl (k:Int) rfl ?_)
    | ((with_reducible refine Bu 39 _ _ rfl ?_);refine BP BD rfl _ _ rfl w2.heap.size (Ae (Bk (k:Int))) (CY (Du (k:Int))) rfl rfl _ n0 rfl _ rfl ?_))
   refine(CF.out _ _ n1).mono ?_;rintro e w4 ⟨rfl,hb4⟩;obtain⟨w3,hw3⟩:∃w3,w3=(w2.alloc (.cells Ao 39)).setRow w2.heap.size (Ae (Bk (k:Int))):=⟨_,rfl⟩;rw[←hw3] at hb4 g3 B3;clear hw3 n0 n1 g2;have hs3:=(aA.1 g3).1;have g4:w4.heap[w.heap.size]?=some (.cells Ao 39 (0,0)):=(hb4.block _ hs3).trans g3;have B4:Below w.heap.size w w4:=B3.trans (hb4.mono B3.size);clear hb4 g3 B3;have g5:(w4.alloc (.cells LV 140)).heap[w.heap.size]?=some (.cells Ao 39 (0,0)):=Ah _ _ _ _ g4
   go_wp2_with (first
    | go_skip
    | ((with_reducible refine Cy 39 _ rfl ?_);refine Iw rfl rfl ?_)
    | ((with_reducible refine Bu 39 _ _ rfl ?_);refine BP BD rfl _ _ rfl w.heap.size (Ae (Bk 0)) (CY (Du 0)) rfl rfl _ g5 rfl _ rfl ?_))
   refine GE BD (p:=2) (u:=3) rfl rfl w.heap.size rfl (Ae (Bk 0)) (BG (Du 0)) (setRow_heap _ _ _ _ _ _ g5) _ rfl ⟨?_,Aj (B4.alloc B4.size _) (aB _) _⟩;rw[HD.out];rfl
  ·obtain⟨ns,hns⟩:∃ns,ns=Li (k:Int):=⟨_,rfl⟩;obtain⟨c,hc⟩:∃c,c=K7 (k:Int):=⟨_,rfl⟩;obtain⟨d,hd⟩:∃d,d=NA (k:Int):=⟨_,rfl⟩;have hlt:∀j∈ns,j<13:=by rw[hns];exact S5 _
   have hl7:ns.length≤7:=by rw[hns];exact Ub _
   have hcd:¬(c=true∧d=true):=by rw[hc,hd];exact Ar9 _
   have HDF:Hid (DQ L=H6 ns c d body (Bk (k:Int))):=by rw[hns,hc,hd];exact XQ ho hk
   have CF:Hid (∀(g:Nat) (W:World),W.heap[g]?=some (.cells (Ae (Bk (k:Int))) 39 (0,0))→Calls aC 80 #[.pointer (some ⟨g,0,none⟩)] W fun e w'=>Nk g ns c d W e w'):=fun g W hW=>by
    rw[hns,hc,hd];exact Po g (Bk (k:Int)) hk W hW
   clear hns hc hd hk ho;obtain⟨n,hn⟩:∃n,n=ns.length:=⟨_,rfl⟩;have HN:Hid (n=ns.length):=hn;clear hn;go_enter aP,aN;go_wp2_with fail;rw[←hw1];clear hw1;refine CO.out.mono ?_;rintro e w2 ⟨u,rfl,hO,hb2⟩;obtain⟨ou,nu,cu,rfl⟩:=Fw hO.sl;have g2:w2.heap[w.heap.size]?=some (.cells Ao 39 (0,0)):=(hb2.block _ hs1).trans g1;have B2:Below w.heap.size w w2:=B1.trans (hb2.mono B1.size);have hs2:=(aA.1 g2).1;have HO:Hid (AB w1.heap.size w2 (.slice ou nu cu) body):=hO;clear hO hb2 g1 B1;have n0:=Ab w2 (.cells Ao 39) _ rfl;have n1:=setRow_heap _ _ _ (Ae (Bk (k:Int))) _ _ n0;have g3:((w2.alloc (.cells Ao 39)).setRow w2.heap.size (Ae (Bk (k:Int)))).heap[w.heap.size]?=some (.cells Ao 39 (0,0)):=(setRow_other _ _ _ _ (by omega)).trans (Ah _ _ _ _ g2);have Bx:Below w2.heap.size w2 ((w2.alloc (.cells Ao 39)).setRow w2.heap.size (Ae (Bk (k:Int)))):=Aj ((aJ _ _).alloc (aB _) _) (aB _) _;have B3:Below w.heap.size w ((w2.alloc (.cells Ao 39)).setRow w2.heap.size (Ae (Bk (k:Int)))):=B2.trans (Bx.mono B2.size);have HS3:Hid (Br ((w2.alloc (.cells Ao 39)).setRow w2.heap.size (Ae (Bk (k:Int)))) (.slice ou nu cu) body):=HO.out.sl.below Bx;have HOB:Hid (Value.ownBlock (.slice ou nu cu)≠some w2.heap.size):=fun e=>by have:=(HO.out.ge _ e).2;omega
   go_wp2_with (first
    | ((with_reducible refine Cy 39 _ rfl ?_);refine Nn rfl _ rfl (k:Int) rfl ?_)
    | ((with_reducible refine Bu 39 _ _ rfl ?_);refine BP BD rfl _ _ rfl w2.heap.size (Ae (Bk (k:Int))) (CY (Du (k:Int))) rfl rfl _ n0 rfl _ rfl ?_))
   refine(CF.out _ _ n1).mono ?_;rintro e w4 ⟨h,rfl,hh1,hh2,hb4⟩;rw[←HN.out];obtain⟨w3,hw3⟩:∃w3,w3=(w2.alloc (.cells Ao 39)).setRow w2.heap.size (Ae (Bk (k:Int))):=⟨_,rfl⟩;rw[←hw3] at hb4 g3 B3 n1 hh1 HS3;clear hw3 n0 g2 Bx;have hs3:=(aA.1 g3).1;have hs3':=(aA.1 n1).1;have g4:w4.heap[w.heap.size]?=some (.cells Ao 39 (0,0)):=(hb4.block _ hs3).trans g3;have B4:Below w.heap.size w w4:=B3.trans (hb4.mono B3.size);have hI4:G3 w4 h w2.heap.size ns (Bk (k:Int)):=⟨(hb4.block _ hs3').trans n1,hh2,Du _,hlt⟩;have HS4:Hid (Br w4 (.slice ou nu cu) body):=HS3.out.below hb4;have hs4:=(aA.1 g4).1;have hne:h≠w2.heap.size:=by omega
   clear hb4 g3 B3 HS3 n1;have p0:=Ab w4 (.cells LV 140) _ rfl;have p1:=setRow_heap _ _ _ (Df h w2.heap.size n c d) _ _ p0;have By:Below w4.heap.size w4 ((w4.alloc (.cells LV 140)).setRow w4.heap.size (Df h w2.heap.size n c d)):=Aj ((aJ _ _).alloc (aB _) _) (aB _) _
   go_wp2_with (first
    | go_skip
    | ((with_reducible refine Bu 140 _ _ rfl ?_);refine BP I8 rfl _ _ rfl w4.heap.size (Df h w2.heap.size n c d) (RT _ _ _ _ _) rfl rfl _ p0 rfl _ rfl ?_)
    | ((with_reducible refine Aw 140 _ rfl ?_);refine AH I8 rfl _ rfl w4.heap.size 0 rfl _ _ _ (Df h w2.heap.size n c d) rfl p1 (Ar _ _) ?_))
   obtain⟨w5,hw5⟩:∃w5,w5=(w4.alloc (.cells LV 140)).setRow w4.heap.size (Df h w2.heap.size n c d):=⟨_,rfl⟩;rw[←hw5] at By ⊢;clear hw5 p0 p1;have B5:Below w.heap.size w w5:=B4.trans (By.mono B4.size);have g5:w5.heap[w.heap.size]?=some (.cells Ao 39 (0,0)):=(By.block _ hs4).trans g4;have CFI:=Ag4 h w2.heap.size ns c d (Bk (k:Int)) w5 (hI4.below By) hl7 hne hcd (.slice ou nu cu) body (HS4.out.below By) HOB.out;rw[←HN.out] at CFI;clear By g4 B4 hI4 HS4;have hs5:=(aA.1 g5).1;refine CFI.mono ?_;rintro e w6 ⟨m',hgr,hm',gm,hcase⟩;have g6:w6.heap[w.heap.size]?=some (.cells Ao 39 (0,0)):=(hgr.block _ hs5 (by simp;omega)).trans g5;have B6:Below w.heap.size w w6:=Ma B5 hgr B2.size B5.size;clear hgr CFI g5 B5;rcases hcase with ⟨hf,rfl⟩ | ⟨hf,rfl⟩
   ·have HD:Hid (GG L=(m',0)):=NI (HDF.out.trans hf);have hms:=BG hm';clear hf
    go_wp2_with (first
     | ((with_reducible refine Aw 39 _ rfl ?_);refine AH BD rfl _ rfl w2.heap.size 0 rfl _ _ _ (Ae m') hms gm (Ar _ _) ?_)
     | ((with_reducible refine Bu 39 _ _ rfl ?_);refine BP BD rfl _ _ rfl w.heap.size (Ae m') (CY hm') rfl rfl _ g6 rfl _ rfl ?_))
    refine GE BD (p:=2) (u:=3) rfl rfl w.heap.size rfl (Ae m') hms (setRow_heap _ _ _ _ _ _ g6) _ rfl ⟨?_,Aj B6 (aB _) _⟩;rw[HD.out];rfl
   ·have HD:Hid (GG L=(Bk 0,12)):=Hj (HDF.out.trans hf);clear hf
    go_wp2_with (first
     | ((with_reducible refine Cy 39 _ rfl ?_);refine Iw rfl rfl ?_)
     | ((with_reducible refine Bu 39 _ _ rfl ?_);refine BP BD rfl _ _ rfl w.heap.size (Ae (Bk 0)) (CY (Du 0)) rfl rfl _ g6 rfl _ rfl ?_))
    refine GE BD (p:=2) (u:=3) rfl rfl w.heap.size rfl (Ae (Bk 0)) (BG (Du 0)) (setRow_heap _ _ _ _ _ _ g6) _ rfl ⟨?_,Aj B6 (aB _) _⟩;rw[HD.out];rfl
 ·obtain⟨ho,h12⟩:=SV he;have HD:Hid (GG L=(Bk 0,12)):=Hj (Vx ho);rw[h12] at CO;clear ho h12 he;go_enter aP,aN;go_wp2_with fail;rw[←hw1];clear hw1;refine CO.out.mono ?_;rintro e w2 ⟨u,rfl,hO,hb2⟩;have g2:w2.heap[w.heap.size]?=some (.cells Ao 39 (0,0)):=(hb2.block _ hs1).trans g1;have B2:Below w.heap.size w w2:=B1.trans (hb2.mono B1.size);clear hO hb2 g1 B1
  go_wp2_with (first
   | ((with_reducible refine Cy 39 _ rfl ?_);refine Iw rfl rfl ?_)
   | ((with_reducible refine Bu 39 _ _ rfl ?_);refine BP BD rfl _ _ rfl w.heap.size (Ae (Bk 0)) (CY (Du 0)) rfl rfl _ g2 rfl _ rfl ?_))
  refine GE BD (p:=2) (u:=3) rfl rfl w.heap.size rfl (Ae (Bk 0)) (BG (Du 0)) (setRow_heap _ _ _ _ _ _ g2) _ rfl ⟨?_,Aj B2 (aB _) _⟩;rw[HD.out];rfl
end
section
open Go.RowKit
theorem Ajh{R:Rm}{N:Nat}{n:Af Aq}(h:Az N R n){m:An}(hm:BB m)(hn:∀j,Ch (Ad m j)):Az (N+5) R (Ea (Al R) n m).1:=by
 have hkn:=(Pg h.hold (Ad m 2) (Ad m 1) (Ad m 3) (Ad m 4) (hn 2).2 (hn 1).2 (hn 4).2).1;have hit:=QU h _ hkn;show Az _ _ (if (DK n.hold (Ad m 2) (Ad m 1) (Ad m 3) (Ad m 4)).2=0 then (Cs (Al R) (Bi n (DK n.hold (Ad m 2) (Ad m 1) (Ad m 3) (Ad m 4)).1) n.hold,false) else (Mb (if (DK n.hold (Ad m 2) (Ad m 1) (Ad m 3) (Ad m 4)).2=1 then JP (Al R) (Cs (Al R) (Bi n (DK n.hold (Ad m 2) (Ad m 1) (Ad m 3) (Ad m 4)).1) n.hold) m else Cs (Al R) (Bi n (DK n.hold (Ad m 2) (Ad m 1) (Ad m 3) (Ad m 4)).1) n.hold) m,true)).1;by_cases h0:(DK n.hold (Ad m 2) (Ad m 1) (Ad m 3) (Ad m 4)).2=0
 ·rw[if_pos h0];exact hit.le (by omega)
 ·rw[if_neg h0];by_cases h1:(DK n.hold (Ad m 2) (Ad m 1) (Ad m 3) (Ad m 4)).2=1
  ·rw[if_pos h1];exact Ku (ZK hit hm (hn 6)) _ _
  ·rw[if_neg h1];exact(Ku hit _ _).le (by omega)
theorem Ajg{R:Rm}{N:Nat}{n:Af Aq}(h:Az N R n){m:An}(hn:∀j,Ch (Ad m j)):Az (N+3) R (IC (Al R) n m):=by
 have hkn:=(Pf h.hold (Ad m 9) (Ad m 10) (Ad m 2) (hn 9).2 (hn 2).2).1;have hit:=QU h _ hkn;show Az _ _ (if (Dq n.hold (Ad m 9) (Ad m 10) (Ad m 2)).1.use≠n.hold.use then H7 (Cs (Al R) (Bi n (Dq n.hold (Ad m 9) (Ad m 10) (Ad m 2)).1) n.hold) else Cs (Al R) (Bi n (Dq n.hold (Ad m 9) (Ad m 10) (Ad m 2)).1) n.hold);split
 ·exact Ku hit _ _
 ·exact hit.le (by omega)
theorem Abk{R:Rm}{N:Nat}{n:Af Aq}(h:Az N R n)(src:Int)(m:An):Az (N+1) R (DT (Al R) n src m).1:=by
 rw[Ru R n h.hold.ok];by_cases h1:Hg n.hold (Ad m 1)=true
 ·rw[if_pos h1];by_cases h2:(NM R n.tab (Ad m 1) m.head).2=true
  ·rw[if_pos h2];exact Ku (An9 h (by have:=h.load;unfold Ch at this ⊢;split <;> omega)) _ _
  ·rw[if_neg h2];exact h.le (by omega)
 ·rw[if_neg h1];exact h.le (by omega)
theorem Anb{R:Rm}{N:Nat}{n:Af Aq}(h:Az N R n){m:An}(hm:BB m)(now:Int):Az (N+5) R (L4 R n m now).1:=by
 have h1:=Xt h hm now;obtain⟨q1,q2,q3⟩:=Vf h1 (Ad m 11);have h2:=Kt h1 q1 q2 q3;rw[Xr];split
 ·exact EJ h2 _
 ·exact h2.le (by omega)
theorem Uj{R:Rm}{N:Nat}{n:Af Aq}(h:Az N R n)(src:Int){m:An}(hm:BB m)(hn:∀j,Ch (Ad m j))(now:Int):Az (N+5) R (Cd R n src m now).1:=by
 have h0:Az (N+5) R n:=h.le (by omega);unfold Cd;split
 ·split
  ·exact Ajh h hm hn
  ·exact h0
 ·split
  ·split
   ·exact(Ajg h hn).le (by omega)
   ·exact h0
  ·split
   ·split
    ·exact(Abk h src m).le (by omega)
    ·exact h0
   ·split
    ·split
     ·rw[Rh];split
      ·exact Anb h hm now
      ·exact h0
     ·exact h0
    ·exact h0
theorem UT(R:Rm)(n:Af Aq)(src:Int)(data:List UInt8)(now:Int)(hd:DQ data=none):DC (Al R) n src data now=Cc n ⟨13,0,0,0,0,0,0,0,Z,(Z,Z)⟩:=by
 unfold DC IA;rw[hd];rfl
theorem US(R:Rm)(n:Af Aq)(src:Int)(data:List UInt8)(now:Int){m:An}(hd:DQ data=some m):DC (Al R) n src data now=if (Cd R n src m now).2=true then (Cd R n src m now).1 else Cc (Cd R n src m now).1 ⟨13,0,0,0,0,0,0,0,Z,(Z,Z)⟩:=by
 unfold DC;have e:IA (Al R) n src data now=Cd R n src m now:=by rw[Adz,hd]
 rw[e];obtain⟨a,b⟩:=Cd R n src m now
 cases b <;> rfl
theorem Nz{R:Rm}{N:Nat}{n:Af Aq}(h:Az N R n)(src:Int)(data:List UInt8)(now:Int):Az (N+6) R (DC (Al R) n src data now):=by
 cases hd:DQ data with
 | none=>rw[UT R n src data now hd];exact(EJ h _).le (by omega)
 | some m=>
  obtain⟨h1,h2,_⟩:=Lv hd;rw[US R n src data now hd];split
  ·exact(Uj h src h1 h2 now).le (by omega)
  ·exact EJ (Uj h src h1 h2 now) _
theorem Aac(B:Nat)(w:World)(g gt gh gw:Nat)(R:Rm)(n:Af Aq)(r:D0)(h:Cb B w g gt gh gw R n r){M:Nat}(hi:Az M R n)(hM:M≤900000)(src:Int)(data:List UInt8)(hl:data.length≤140737488355328)(now:Int):
  Calls aC 32 #[.pointer (some ⟨g,0,none⟩),.int .i64 src,.string ⟨data.toArray⟩,.int .i64 now] w fun e w'=>e=.returned (.tuple #[])∧Dl B w w' g gt gh gw R (DC (Al R) n src data now) r:=by
 obtain⟨cap,hcap⟩:=eX (grownCap w data.length 0 5);have hc1:data.length≤cap:=by rw[hcap];exact grownCap_ge _ _ _ _
 have hc2:cap≤maxLen:=by rw[hcap];exact grownCap_le_maxLen _ _ _ _ (by unfold maxLen;omega)
 obtain⟨w1,hw1⟩:=eX (w.drew.alloc (.cells (bytesRow ⟨data.toArray⟩ cap) 5 ((bytesRow ⟨data.toArray⟩ cap).size,(bytesRow ⟨data.toArray⟩ cap).size+1)))
 have hcv:(convert 9 70 (.string ⟨data.toArray⟩)).run aC w=.ok (.slice (some ⟨w.heap.size,0,none⟩) data.length cap) w1:=by
  rw[hw1,hcap];exact run_bytes_of_string w 9 70 5 ⟨data.toArray⟩ Tryz.underlying9 Tryz.underlying70 Tryz.underlying5
 have B1:Hid (Below w.heap.size w w1):=by show Below _ _ _;rw[hw1];exact((aJ _ _).drew).alloc (aB _) _
 have BS:Br w1 (.slice (some ⟨w.heap.size,0,none⟩) data.length cap) data:=by
  refine⟨_,cap,rfl,hc1,hc2,fun e=>(by cases e),fun i hi=>⟨w.heap.size,0,_,_,_,rfl,by rw[hw1];exact Ab _ _ _ rfl,?_⟩⟩;rw[Nat.zero_add,bytesRow_at _ _ _ (by simpa using hi)];rfl
 have CD:=Aip _ data w1 BS hl;have A0:Hid (∀W,Below w.heap.size w W→Av B w W g gt gh gw R n r (fun _=>False)):=fun W hW=>Av.begin h hW fun k e=>e.elim;have HI:Hid (Az M R n∧M≤900000):=⟨hi,hM⟩;unfold Yq at CD;clear hw1 hcap hc1 hc2 hl BS hi hM h
 cases hd:DQ data with
 | none=>
  have HD:Hid _:=UT R n src data now hd;rw[Hj hd] at CD;clear hd;obtain⟨md,hmd⟩:=eX (Bk 0);have HFT:Hid ((Ae md).size=53∧(Ae md).all (·.oneCell')=true):=by show _∧_;rw[hmd];exact CY (Du 0)
  rw[←hmd] at CD;clear hmd;go_enter Tryz.func32,Tryz.ntmps32;go_wp2_with (go_at_call 34;refine CD.mono ?_;rintro e w2 ⟨rfl,b2⟩;have B2:Hid _:=b2;clear b2 CD hcv;refine Ak ?_);unfold AA;have N0:Hid ((w2.alloc (.cells Ao 39)).heap[w2.heap.size]?=some (.cells Ao 39 (0,0))):=Ab _ _ _ rfl;have N1:Hid (((w2.alloc (.cells Ao 39)).setRow w2.heap.size (Ae md)).heap[w2.heap.size]?=some (.cells (Ae md) 39 (0,0))):=setRow_heap _ _ _ _ _ _ N0.out;have Bw:Hid _:=B1.out.trans (B2.out.mono B1.out.size);have A3:=A0.out _ (Aj (Bw.out.alloc Bw.out.size (.cells Ao 39)) Bw.out.size (Ae md));have CN:=A3.call (n'':=Cc n ⟨13,0,0,0,0,0,0,0,Z,(Z,Z)⟩) (P:=fun e _=>e=.returned (.tuple #[])) fun u hu=>Gq B _ g gt gh gw R n u hu (by have:=HI.out.1.log;have:=HI.out.2;omega) 13 0 0 0 0 0;go_wp2_with (first
  | ((with_reducible refine Bu 39 _ _ rfl ?_);refine BP BD rfl _ _ rfl w2.heap.size (Ae md) HFT.out rfl rfl _ N0.out rfl _ rfl ?_)
  | (go_at_call 72;refine CN.mono ?_;rintro e w4 ⟨rfl,a4,_⟩;have A4:Hid _:=a4;clear a4 CN))
  go_end0;exact⟨rfl,by rw[HD.out];exact A4.out.to⟩
 | some m=>
  have HD:Hid _:=US R n src data now hd;have HDN:Hid (BB m∧∀j,Ch (Ad m j)):=⟨(Lv hd).1,(Lv hd).2.1⟩;have HRM:Hid (Ca m=true):=(ZT hd).2.1;rw[NI hd] at CD;clear hd;obtain⟨md,hmd⟩:=eX m;have HFT:Hid ((Ae md).size=53∧(Ae md).all (·.oneCell')=true):=by show _∧_;rw[hmd];exact CY HDN.out.1
  rw[←hmd] at CD HD HDN HRM;clear hmd;obtain⟨rb,hrb⟩:=eX ((Cd R n src md now).2);have HRB:Hid _:=hrb
  have CO:Hid (∀W,Av B w W g gt gh gw R n r (fun _=>False)→Calls aC 77 #[.pointer (some ⟨g,0,none⟩),.int .i64 src,.agg (Ae md),.int .i64 now] W fun e w'=>e=.returned (.bool rb)∧Av B w w' g gt gh gw R (Cd R n src md now).1 r (fun _=>False)):=fun W hW=>by
   rw[hrb];exact(hW.call (P:=fun e _=>e=.returned (.bool (Cd R n src md now).2)) fun u hu=>Aaw B W g gt gh gw R n u hu HI.out.1 HI.out.2 src md HDN.out.1 HRM.out HDN.out.2 now).mono fun e w' q=>⟨q.1,q.2.1⟩
  rw[←hrb] at HD;clear hrb;have HLG:Hid ((Cd R n src md now).1.log.length≤1000000):=by show _≤_;have:=(Uj HI.out.1 src HDN.out.1 HDN.out.2 now).log;have:=HI.out.2;omega
  obtain⟨n3,hn3⟩:=eX ((Cd R n src md now).1);rw[←hn3] at CO HD HLG;clear hn3;go_enter Tryz.func32,Tryz.ntmps32;go_wp2_with (go_at_call 34;refine CD.mono ?_;rintro e w2 ⟨rfl,b2⟩;have B2:Hid _:=b2;clear b2 CD hcv;refine Ak ?_);unfold AA;have N0:Hid ((w2.alloc (.cells Ao 39)).heap[w2.heap.size]?=some (.cells Ao 39 (0,0))):=Ab _ _ _ rfl;have N1:Hid (((w2.alloc (.cells Ao 39)).setRow w2.heap.size (Ae md)).heap[w2.heap.size]?=some (.cells (Ae md) 39 (0,0))):=setRow_heap _ _ _ _ _ _ N0.out;have Bw:Hid _:=B1.out.trans (B2.out.mono B1.out.size);have CX:=CO.out _ (A0.out _ (Aj (Bw.out.alloc Bw.out.size (.cells Ao 39)) Bw.out.size (Ae md)));go_wp2_with (first
  | ((with_reducible refine Bu 39 _ _ rfl ?_);refine BP BD rfl _ _ rfl w2.heap.size (Ae md) HFT.out rfl rfl _ N0.out rfl _ rfl ?_)
  | ((with_reducible refine Aw 39 _ rfl ?_);refine AH BD rfl _ rfl w2.heap.size 0 rfl _ _ _ (Ae md) HFT.out.1 N1.out (Ar _ _) ?_)
  | (go_at_call 77;refine CX.mono ?_;rintro e w4 ⟨rfl,a4⟩;have A4:Hid _:=a4;clear a4 CX;refine Ak ?_))
  unfold AA
  cases rb with
  | true=>
   go_wp2_with fail;go_end0;exact⟨rfl,by rw[HD.out,if_pos (by trivial)];exact A4.out.to⟩
  | false=>
   have CN:=A4.out.call (n'':=Cc n3 ⟨13,0,0,0,0,0,0,0,Z,(Z,Z)⟩) (P:=fun e _=>e=.returned (.tuple #[])) fun u hu=>Gq B w4 g gt gh gw R n3 u hu HLG.out 13 0 0 0 0 0;go_wp2_with (go_at_call 72;refine CN.mono ?_;rintro e w5 ⟨rfl,a5,_⟩;have A5:Hid _:=a5;clear a5 CN);go_end0;exact⟨rfl,by rw[HD.out,if_neg (by decide)];exact A5.out.to⟩
end
section
open Go.Lib Go.RowKit
structure IP where
 sw:Int
 au:Int
 ca:Int
 ro:Int
 pa:Int
 idl:Int
 hd:Int
 gr:Int
 bi:Nat
 wi:Int
 qu:Int
 wa:Int
 tr:Int
 ti:Int
 be:Int
 le:Int
 lo:Int
def Ci(s:IP):Array Value:=#[.int .i64 s.sw,.int .i64 s.au,.int .i64 s.ca,.int .i64 s.ro,.int .i64 s.pa,.int .i64 s.idl,.int .i64 s.hd,.int .i64 s.gr,.float .f64 s.bi,.int .i64 s.wi,.int .i64 s.qu,.int .i64 s.wa,.int .i64 s.tr,.int .i64 s.ti,.int .i64 s.be,.int .i64 s.le,.int .i64 s.lo]
def Tf(n a b:Int):Bool:=decide (n≥a)&&decide (n≤b)
theorem Zf(n a b:Int)(w:World):Calls aC 87 #[.int .i64 n,.int .i64 a,.int .i64 b] w fun e w'=>e=.returned (.bool (Tf n a b))∧Below w.heap.size w w':=by
 by_cases h1:n≥a
 ·have h1':decide (n≥a)=true:=by simpa using h1
  have hi:Hid (Tf n a b=decide (n≤b)):=by show _=_;unfold Tf;rw[h1'];rfl
  go_enter Tryz.func87,Tryz.ntmps87;go_wp2_with fail;go_ret;exact⟨by rw[hi.out];rfl,aJ _ _⟩
 ·have h1':decide (n≥a)=false:=by simpa using h1
  have hi:Hid (Tf n a b=false):=by show _=_;unfold Tf;rw[h1'];rfl
  go_enter Tryz.func87,Tryz.ntmps87;go_wp2_with fail;go_ret;exact⟨by rw[hi.out];rfl,aJ _ _⟩
theorem Ahj{s:IP}{w:World}{g:Nat}{t:TypeId}{fr:Nat×Nat}(h:w.heap[g]?=some (.cells (Ci s) t fr)):w.cell? ⟨g,0,none⟩=some (.int .i64 s.sw)∧w.cell? ⟨g,1,none⟩=some (.int .i64 s.au)∧w.cell? ⟨g,2,none⟩=some (.int .i64 s.ca)∧w.cell? ⟨g,3,none⟩=some (.int .i64 s.ro)∧w.cell? ⟨g,4,none⟩=some (.int .i64 s.pa)∧w.cell? ⟨g,5,none⟩=some (.int .i64 s.idl)∧w.cell? ⟨g,6,none⟩=some (.int .i64 s.hd)∧w.cell? ⟨g,7,none⟩=some (.int .i64 s.gr)∧w.cell? ⟨g,8,none⟩=some (.float .f64 s.bi)∧w.cell? ⟨g,9,none⟩=some (.int .i64 s.wi)∧w.cell? ⟨g,10,none⟩=some (.int .i64 s.qu)∧w.cell? ⟨g,11,none⟩=some (.int .i64 s.wa)∧w.cell? ⟨g,12,none⟩=some (.int .i64 s.tr)∧w.cell? ⟨g,13,none⟩=some (.int .i64 s.ti)∧w.cell? ⟨g,14,none⟩=some (.int .i64 s.be)∧w.cell? ⟨g,15,none⟩=some (.int .i64 s.le)∧w.cell? ⟨g,16,none⟩=some (.int .i64 s.lo):=by
 refine⟨?_,?_,?_,?_,?_,?_,?_,?_,?_,?_,?_,?_,?_,?_,?_,?_,?_⟩ <;> exact(cell_of_row _ _ _ _ _ _ h).trans rfl
theorem Aon(s:IP)(w:World)(t:TypeId):(w.alloc (.cells (Ci s) t)).heap[w.heap.size]?=some (.cells (Ci s) t (0,0)):=Ab _ _ _ rfl
def Ard:Ag:=⟨24,17⟩
theorem IG:Ard.Ok:=⟨⟨_,Tryz.underlying24,rfl⟩,by kernel_rfl⟩
theorem Alx(s:IP):(Ci s).size=17∧(Ci s).all (·.oneCell')=true:=by
 refine⟨rfl,?_⟩;unfold Ci;simp[Value.oneCell']
def stZ:Array Value:=#[.int .i64 0,.int .i64 0,.int .i64 0,.int .i64 0,.int .i64 0,.int .i64 0,.int .i64 0,.int .i64 0,.float .f64 0,.int .i64 0,.int .i64 0,.int .i64 0,.int .i64 0,.int .i64 0,.int .i64 0,.int .i64 0,.int .i64 0]
def Kv(s:IP):List (Int×Int×Int):=[(s.sw,2,6),(s.au,2,s.sw),(s.ca,0,2048),(s.ro,2,2048),(s.pa,2,64),(s.idl,0,1000),(s.hd,0,1000),(s.gr,1,512),(s.wi,1,64),(s.wa,1,64),(s.tr,1,8),(s.ti,2,100),(s.be,1,20),(s.le,wrap64 (3*s.be),200),(s.lo,wrap64 (3*s.be),200),(s.qu,wrap64 (wrap64 (wrap64 (2*s.wa)+s.wi)+8),512)]
def bdA(s:IP):Array Value:=#[.int .i64 s.sw,.int .i64 2,.int .i64 6,.int .i64 s.au,.int .i64 2,.int .i64 s.sw,.int .i64 s.ca,.int .i64 0,.int .i64 2048,.int .i64 s.ro,.int .i64 2,.int .i64 2048,.int .i64 s.pa,.int .i64 2,.int .i64 64,.int .i64 s.idl,.int .i64 0,.int .i64 1000,.int .i64 s.hd,.int .i64 0,.int .i64 1000,.int .i64 s.gr,.int .i64 1,.int .i64 512,.int .i64 s.wi,.int .i64 1,.int .i64 64,.int .i64 s.wa,.int .i64 1,.int .i64 64,.int .i64 s.tr,.int .i64 1,.int .i64 8,.int .i64 s.ti,.int .i64 2,.int .i64 100,.int .i64 s.be,.int .i64 1,.int .i64 20,.int .i64 s.le,.int .i64 (wrap64 (3*s.be)),.int .i64 200,.int .i64 s.lo,.int .i64 (wrap64 (3*s.be)),.int .i64 200,.int .i64 s.qu,.int .i64 (wrap64 (wrap64 (wrap64 (2*s.wa)+s.wi)+8)),.int .i64 512]
def Vg(p:Int×Int×Int):Bool:=Tf p.1 p.2.1 p.2.2
def IN(s:IP):Bool:=(Kv s).all Vg
theorem Akm(s:IP)(k:Nat)(hk:k<16):∃x a b,(Kv s)[k]?=some (x,a,b)∧∀W,(Instr.index 149 (.agg (bdA s)) (.int .i64 (k:Int))).run aC W=.ok (.agg #[.int .i64 x,.int .i64 a,.int .i64 b]) W:=by
 rcases(show k=0∨k=1∨k=2∨k=3∨k=4∨k=5∨k=6∨k=7∨k=8∨k=9∨k=10∨k=11∨k=12∨k=13∨k=14∨k=15 by omega) with rfl | rfl | rfl | rfl | rfl | rfl | rfl | rfl | rfl | rfl | rfl | rfl | rfl | rfl | rfl | rfl <;> exact⟨_,_,_,rfl,fun W=>by kernel_rfl⟩
theorem Acu{s:IP}(h:∀j,j<16→∀p,(Kv s)[j]?=some p→Vg p=true):IN s=true:=by
 unfold IN;rw[List.all_eq_true];intro p hp;obtain⟨j,hj⟩:=List.mem_iff_getElem?.1 hp;exact h j ((List.getElem?_eq_some_iff.1 hj).1) p hj
theorem Aeq{s:IP}{k:Nat}{p:Int×Int×Int}(h:(Kv s)[k]?=some p)(hn:Vg p=false):IN s=false:=by
 unfold IN;rw[List.all_eq_false];exact⟨p,List.mem_of_getElem? h,by rw[hn];simp⟩
set_option maxRecDepth 100000 in
theorem U0(s:IP)(w:World):Calls aC 38 #[.agg (Ci s)] w fun e w'=>e=.returned (.bool (IN s))∧Below w.heap.size w w':=by
 have BW:Hid (∀n a b W,Calls aC 87 #[.int .i64 n,.int .i64 a,.int .i64 b] W fun e w'=>e=.returned (.bool (Tf n a b))∧Below W.heap.size W w'):=fun n a b W=>Zf n a b W;have HALL:Hid ((∀j,j<16→∀p,(Kv s)[j]?=some p→Vg p=true)→IN s=true):=Acu;have HNOT:Hid (∀(k:Nat) p,(Kv s)[k]?=some p→Vg p=false→IN s=false):=fun k p h hn=>Aeq h hn;have HIX:Hid (∀k:Nat,k<16→∃x a b,(Kv s)[k]?=some (x,a,b)∧∀W,(Instr.index 149 (.agg (bdA s)) (.int .i64 (k:Int))).run aC W=.ok (.agg #[.int .i64 x,.int .i64 a,.int .i64 b]) W):=Akm s;obtain⟨RES,hRES⟩:∃R,R=IN s:=⟨_,rfl⟩;rw[←hRES] at HALL HNOT ⊢;clear hRES;obtain⟨c0,c1,c2,c3,c4,c5,c6,c7,c8,c9,c10,c11,c12,c13,c14,c15,c16⟩:=Ahj (Aon s w 24);have B0:Hid (Below w.heap.size w (w.alloc (.cells (Ci s) 24))):=(aJ _ _).alloc (aB _) _;go_enter Tryz.func38,Tryz.ntmps38;go_wp2_with fail;clear c0 c1 c2 c3 c4 c5 c6 c7 c8 c9 c10 c11 c12 c13 c14 c15 c16;obtain⟨A,hA⟩:∃A,A=bdA s:=⟨_,rfl⟩;rw[←hA] at HIX;unfold bdA at hA;rw[←hA];clear hA;go_loopw [69] (fun vi wr=> ∃k:Nat,k≤16∧vi=.int .i64 (k:Int)∧Hid (∀j,j<k→∀p,(Kv s)[j]?=some p→Vg p=true)∧Hid (Below w.heap.size w wr)) (fun vi _=>16-(intOf vi).toNat)
 case atStart=>exact⟨0,by omega,rfl,(fun j hj=>by omega),B0⟩
 case round=>
  clear B0;obtain⟨k,hk,rfl,HK,HB⟩:=hrel;by_cases hlt:k<16
  ·have hlt':(k:Int)<16:=by omega
   obtain⟨x,a,b,hp,hix⟩:=HIX.out k hlt;have HP:Hid ((Kv s)[k]?=some (x,a,b)):=hp;clear hp;have BA:Hid (Below w.heap.size w (wr.alloc (.cells #[.int .i64 x,.int .i64 a,.int .i64 b] 148))):=HB.out.alloc HB.out.size _;go_wp2_with fail;refine(BW.out _ _ _ _).mono ?_;rintro e w2 ⟨rfl,hb2⟩;have B2:Hid (Below w.heap.size w w2):=BA.out.trans (hb2.mono BA.out.size);clear hb2 BA
   cases hin:Tf x a b with
   | true=>
    have HN:Hid (∀j,j<k+1→∀p,(Kv s)[j]?=some p→Vg p=true):=fun j hj p hp=>by
     by_cases hjk:j=k
     ·subst hjk;rw[HP.out] at hp
      cases hp
      exact hin
     ·exact HK.out j (by omega) p hp
    clear hin;go_wp2_with fail;go_roundw
    case rel=>exact⟨k+1,by omega,by go_num,HN,B2⟩
    case measure=>simp[intOf];omega
   | false=>
    have HR:Hid (RES=false):=HNOT.out k _ HP.out hin;clear hin;go_wp2_with fail;go_ret;exact⟨by rw[HR.out];rfl,B2.out⟩
  ·have hlt':¬(k:Int)<16:=by omega
   obtain rfl:k=16:=by omega
   have HR:Hid (RES=true):=HALL.out HK.out;go_wp2_with fail;go_ret;exact⟨by rw[HR.out];rfl,HB.out⟩
end
section
open Go.RowKit
def OkR(c a p i h:Int):Prop:=(0≤c∧c≤2048)∧(0≤a∧a≤2048)∧(0≤p∧p≤2048)∧(0≤i∧i≤1099511627776)∧(0≤h∧h≤1099511627776)
def KK(c a p i h:Int):Rm:=⟨c.toNat,a.toNat,p.toNat,i,h⟩
def Ud(x1 x2 x3 i h:Int):Array Value:=#[.int .i64 0,.int .i64 x1,.int .i64 x2,.int .i64 x3,.slice none 0 0,.slice none 0 0,.slice none 0 0,.slice none 0 0,.int .i64 i,.int .i64 h]
theorem Amn{w:World}{c a p i h:Int}(hr:OkR c a p i h){w':World}(g:Nat)(hg:w.heap.size≤g)(hc:w'.heap[g]?=some (.cells (Ud c a p i h) 155 (0,0))):Cw w.heap.size w' g (KK c a p i h) ⟨[],[],[]⟩ (.slice none 0 0) (.slice none 0 0) (.slice none 0 0):=by
 obtain⟨h1,h2,h3,_,_⟩:=hr;refine⟨?_,Au.nil _ _,Au.nil _ _,Au.nil _ _,.inl rfl,.inl rfl,.inl rfl,hg⟩;unfold OD KK;simp only[aK h1.1,aK h2.1,aK h3.1];exact hc
theorem RH{x1 x2 x3 i h z:Int}(j:Nat)(hj:j=1∨j=2∨j=3):(Ud x1 x2 x3 i h).setIfInBounds j (.int .i64 z)=Ud (if j=1 then z else x1) (if j=2 then z else x2) (if j=3 then z else x3) i h:=by
 rcases hj with rfl | rfl | rfl <;> rfl
theorem PS{o:Oper}{x y:Operand}(ho:o.op=.store 3 x y)(a:Act)(W:World)(ad:Addr)(z old:Int)(hx:a.eval x=.pointer (some ad))(hy:a.eval y=.int .i64 z)(hc:W.cell? ad=some (.int .i64 old))(hf:W.frozen? ad=false):(execOp a.eval o).run aC W=.ok .skip (W.setCell ad (.int .i64 z)):=by
 have hz:∀w,(sizeOf 3).run aC w=.ok 1 w:=fun w=>by kernel_rfl
 unfold execOp;simp only[ho,hx,hy];simp[go_sem,hz,hc,hf,storeVar,storeCells,Instr.storeAt,Instr.sureAddr]
theorem Amm(c a p i h:Int)(hr:OkR c a p i h)(w:World):
  Calls aC 39 #[.int .i64 c,.int .i64 a,.int .i64 p,.int .i64 i,.int .i64 h] w fun e w'=>(∃g,e=.returned (.tuple #[.pointer (some ⟨g,0,none⟩),.int .i64 0])∧Cw w.heap.size w' g (KK c a p i h) ⟨[],[],[]⟩ (.slice none 0 0) (.slice none 0 0) (.slice none 0 0))∧Below w.heap.size w w':=by
 have WI:Hid (∀n top W,0≤n∧n≤top→Calls aC 88 #[.int .i64 n,.int .i64 top] W fun e w'=>e=.returned (.bool true)∧w'=W):=by
  intro n top W hn;have h9:=PL n top W;rw[decide_eq_true hn] at h9;exact h9
 have HR:Hid _:=hr;have FI:Hid (∀w',w'.heap[w.heap.size]?=some (.cells (Ud c a p i h) 155 (0,0))→Cw w.heap.size w' w.heap.size (KK c a p i h) ⟨[],[],[]⟩ (.slice none 0 0) (.slice none 0 0) (.slice none 0 0)):=fun w' h9=>Amn hr _ (aB _) h9;clear hr;go_enter Tryz.func39,Tryz.ntmps39;go_wp2_with (go_at_call 88;refine(WI.out _ _ _ (by first | exact HR.out.1 | exact HR.out.2.1 | exact HR.out.2.2.1 | exact HR.out.2.2.2.1 | exact HR.out.2.2.2.2)).mono ?_;rintro r w2 ⟨rfl,hw2⟩;rw[hw2];clear hw2);obtain⟨w5,hw5⟩:=eX (w.alloc (.cells #[.int .i64 0,.int .i64 0,.int .i64 0,.int .i64 0,.slice none 0 0,.slice none 0 0,.slice none 0 0,.slice none 0 0,.int .i64 i,.int .i64 h] 155));have H0:w5.heap[w.heap.size]?=some (.cells (Ud 0 0 0 i h) 155 (0,0)):=by rw[hw5];exact Ab _ _ _ rfl
 have BW:Hid (Below w.heap.size w w5):=by show Below _ _ _;rw[hw5];exact(aJ _ _).alloc (aB _) _
 rw[←hw5];clear hw5;refine Ra ?_;refine B8 (fun _=>True) 18 rfl (by kernel_rfl) ?_;refine rE 0 6 12 trivial ?_;simp only[aI,aD,aH]
 iterate 6 (go_big_quiet_step (rfl))
 refine wpQuiet_nil ?_;refine Jd (i:=6) (some 46) rfl rfl _ rfl _ rfl rfl (by kernel_rfl) (by kernel_rfl) (by kernel_rfl) trivial ?_;simp only[pU];refine rE 7 2 9 trivial ?_;simp only[aG,aI,aD,aH];go_big_quiet_step (rfl);go_big_quiet_step (rfl);refine wpQuiet_nil ?_;refine Jd (i:=10) (some 49) rfl rfl _ rfl _ rfl rfl (by kernel_rfl) (by kernel_rfl) (by kernel_rfl) trivial ?_;simp only[pU];refine rE 11 1 7 trivial ?_;simp only[aG,aI,aD,aH];go_big_quiet_step (rfl);refine wpQuiet_nil ?_;refine Jd (i:=14) (some 52) rfl rfl _ rfl _ rfl rfl (by kernel_rfl) (by kernel_rfl) (by kernel_rfl) trivial ?_;simp only[pU];refine rE 15 1 5 trivial ?_;simp only[aG,aI,aD,aH];go_big_quiet_step (rfl);refine wpQuiet_nil ?_
 have H0':w5.drew.heap[w.heap.size]?=some (.cells (Ud 0 0 0 i h) 155 (0,0)):=H0;refine rO 9 ?_;refine Gx rfl rfl (PS rfl _ _ ⟨w.heap.size,1,none⟩ c 0 rfl rfl (by rw[cell_of_row _ _ _ _ _ _ H0'];rfl) (by simp[World.frozen?,H0'])) rfl ?_;refine⟨trivial,?_⟩;have H1:=heap_setCell_same _ w.heap.size 1 _ _ (.int .i64 c) H0';rw[RH 1 (.inl rfl)] at H1;refine rE 12 1 3 trivial ?_;simp only[aG,aI,aD,aH];go_big_quiet_step (rfl);refine wpQuiet_nil ?_;refine rO 13 ?_;refine Gx rfl rfl (PS rfl _ _ ⟨w.heap.size,2,none⟩ a 0 rfl rfl (by rw[cell_of_row _ _ _ _ _ _ H1];rfl) (by simp[World.frozen?,H1])) rfl ?_;refine⟨trivial,?_⟩;have H2:=heap_setCell_same _ w.heap.size 2 _ _ (.int .i64 a) H1;rw[RH 2 (.inr (.inl rfl))] at H2;refine rE 16 1 1 trivial ?_;simp only[aG,aI,aD,aH];go_big_quiet_step (rfl);refine wpQuiet_nil ?_
 refine rO 17 ?_;refine Gx rfl rfl (PS rfl _ _ ⟨w.heap.size,3,none⟩ p 0 rfl rfl (by rw[cell_of_row _ _ _ _ _ _ H2];rfl) (by simp[World.frozen?,H2])) rfl ?_;refine⟨trivial,?_⟩;have H3:=heap_setCell_same _ w.heap.size 3 _ _ (.int .i64 p) H2;rw[RH 3 (.inr (.inr rfl))] at H3;refine rD ?_;refine⟨rfl,?_⟩;have HH3:Hid _:=H3;clear H0 H0' H1 H2 H3;go_wp2_with fail;go_ret2;refine⟨⟨_,rfl,FI.out _ HH3.out⟩,?_⟩;exact((BW.out.drew.setCell (aB _) _).setCell (aB _) _).setCell (aB _) _
end
end Go.Proofs.YtbhkoipcpcoooaaGreat
