import Derived.Test.YtbhkoipcpcoooaaGreatJ19
import Derived.Test.YtbhkoipcpcoooaaGreatJ8
import Derived.Test.YtbhkoipcpcoooaaGreatJ4
import Derived.Test.YtbhkoipcpcoooaaGreatJ3
import Derived.Test.YtbhkoipcpcoooaaGreatJ13
import Derived.Test.YtbhkoipcpcoooaaGreatJ10
import Derived.Maps.AppendAt
import Derived.OwnWalk
namespace Go.Proofs.YtbhkoipcpcoooaaGreat
set_option maxRecDepth 20000
set_option maxHeartbeats 64000000
open Go
open Go.Proofs.Tryz renaming prog → aA
open Go.Region renaming ready → aB, sinkB → aQ, waitsFor_spec → aW, binds → aX, Mode → aY, noSelect → bB
open _root_.List renaming not_mem_nil → aC, take_succ_cons → aD, drop_succ_cons → aG, mem_range → aH, mem_cons → aI, take_zero → aK, drop_zero → aL, all_eq_true → aR, length_cons → aV, any_eq_true → aZ
open _root_.Array renaming setIfInBounds_comm → aJ, replicate → bC
open Go.World renaming drew → aM
open _root_.Nat renaming le_succ → aN, le_refl → aO
open _root_.Bool renaming and_eq_true → aT
section
open Go.RowKit
theorem TB{M:Nat}{R:Rm}{n:Af Aq}(h:Az M R n):∀c,(Bv n.tab c).length≤1000000:=fun c=>by
 have h1:=h.tab.inv.lc
 have h2:=h.tab.inv.la
 have h3:=h.tab.inv.lp
 have h4:=h.room
 unfold Bv
 split
 ·omega
 ·split
  ·omega
  ·split
   ·omega
   ·simp
theorem PO(B:Nat)(w W:World)(g gt gh gw:Nat)(R:Rm)(n:Af Aq)(r:D0)(O:Nat→Prop)(A:Av B w W g gt gh gw R n r O){M:Nat}(hi:Az M R n)(hM:M≤900000)(k:Bb)
  (f:Nat) (cb:Array Value) (eg:∀args w,(callFunc f args).run aA w=.ok (.enter f args) w) (P:World→Prop)
  (hc:∀W',Below W.heap.size W W'→Calls aA f cb W' fun e w2=>e=.returned (.tuple #[])∧Av B w w2 g gt gh gw R (Bi n k) r O∧P w2)
  (hP:∀W1 W2,P W1→Ec O W1 W2→P W2) (hP2:∀W1 W2,P W1→Below W1.heap.size W1 W2→P W2):
  Calls aA 146 #[.pointer (some ⟨g,0,none⟩),.func (.func f) #[] cb] W fun e w'=>e=.returned (.bool (decide (k.use≠n.hold.use)))∧Av B w w' g gt gh gw R (Cs (Al R) (Bi n k) n.hold) r O∧P w':=by
 have c5:∀u:Am W,u.world.cell? ⟨g,5,none⟩=some (.pointer (some ⟨gh,0,none⟩)):=fun u=>by obtain⟨x,hx⟩:=(A.below u.below).ndV;exact hx.f.c5
 have CF:∀u:Am W,Calls aA 60 #[.pointer (some ⟨gh,0,none⟩)] u.world fun e w'=>e=.returned (.int .i64 n.hold.floor)∧w'=u.world:=fun u=>(A.below u.below).ask fun x hx=>(FJ _ gh n.hold hx.hold).2.1;have CT:∀u:Am W,Calls aA 61 #[.pointer (some ⟨gh,0,none⟩)] u.world fun e w'=>e=.returned (.int .i64 n.hold.top)∧w'=u.world:=fun u=>(A.below u.below).ask fun x hx=>(FJ _ gh n.hold hx.hold).2.2;have CU:∀u:Am W,Calls aA 58 #[.pointer (some ⟨gh,0,none⟩)] u.world fun e w'=>e=.returned (.int .i64 n.hold.use)∧w'=u.world:=fun u=>(A.below u.below).ask fun x hx=>Jc _ gh n.hold hx.hold;obtain⟨fl0,hfl0⟩:∃x,x=n.hold.floor:=⟨_,rfl⟩;obtain⟨tp0,htp0⟩:∃x,x=n.hold.top:=⟨_,rfl⟩;obtain⟨us0,hus0⟩:∃x,x=n.hold.use:=⟨_,rfl⟩;rw[←hfl0] at CF;rw[←htp0] at CT;rw[←hus0] at CU;have HFL0:Hid (fl0=n.hold.floor∧tp0=n.hold.top∧us0=n.hold.use):=⟨hfl0,htp0,hus0⟩;clear hfl0 htp0 hus0;have ne9:=Am.ne W;obtain⟨fv,hfv⟩:∃fv,fv=Value.func (.func f) #[] cb:=⟨_,rfl⟩;have HFV:Hid (fv=Value.func (.func f) #[] cb):=hfv;have HC:Hid (∀W',Below W.heap.size W W'→Calls aA f cb W' fun e w2=>e=.returned (.tuple #[])∧Av B w w2 g gt gh gw R (Bi n k) r O∧P w2):=hc;rw[←hfv];clear hfv hc A;go_enter Tryz.func146,Tryz.ntmps146;go_wp2_with fail;refine BE (by kernel_rfl) (by kernel_rfl) ?_
 iterate 4 (go_big_quiet_step (fail))
 go_big_quiet_want;go_big_quiet_op;refine⟨_,fun u=>Calls.later_sameT (CF u),?_⟩;go_big_quiet_on
 iterate 4 (go_big_quiet_step (fail))
 go_big_quiet_want;go_big_quiet_op;refine⟨_,fun u=>Calls.later_sameT (CT u),?_⟩;go_big_quiet_on
 iterate 4 (go_big_quiet_step (fail))
 go_big_quiet_want;go_big_quiet_op;refine⟨_,fun u=>Calls.later_sameT (CU u),?_⟩;go_big_quiet_on
 iterate 3 (go_big_quiet_step (fail))
 refine wpQuiet_nil ?_;rintro w' ⟨uL,rfl⟩;have B1:Hid (Below W.heap.size W uL.world):=uL.below;obtain⟨w1,hw1⟩:∃w1,w1=uL.world:=⟨_,rfl⟩;rw[←hw1] at B1 ⊢;clear hw1 uL c5 CF CT CU ne9;rw[HFV.out];go_wp2_with fail;refine(HC.out _ B1.out).mono ?_;rintro e w2 ⟨rfl,a2,p2⟩;have A2:Hid (Av B w w2 g gt gh gw R (Bi n k) r O):=a2;have P2:Hid (P w2):=p2;clear a2 p2 B1 HC HFV;obtain⟨kf,hkf⟩:∃x,x=k.floor:=⟨_,rfl⟩;obtain⟨kt,hkt⟩:∃x,x=k.top:=⟨_,rfl⟩;obtain⟨ku,hku⟩:∃x,x=k.use:=⟨_,rfl⟩
 have HDF:Hid (∀n3,n3=(if kf≠fl0∨kt≠tp0 then AX (Bi n k) (JE n.tab kf kt) else Bi n k)→Cs (Al R) (Bi n k) n.hold=if ku≠us0 then Cc n3 ⟨16,0,0,0,ku,0,0,0,Z,(Z,Z)⟩ else n3):=fun n3 h3=>by
  rw[h3,hkf,hkt,hku,HFL0.out.1,HFL0.out.2.1,HFL0.out.2.2];rfl
 have HKU:Hid (decide (k.use≠n.hold.use)=decide (ku≠us0)):=by show _=_;rw[hku,HFL0.out.2.2]
 have HLG:Hid (n.log.length≤1000000):=by show _≤_;have:=hi.log;omega
 have CF2:Calls aA 60 #[.pointer (some ⟨gh,0,none⟩)] w2 fun e w'=>e=.returned (.int .i64 kf)∧w'=w2:=by rw[hkf];exact A2.out.ask fun x hx=>(FJ _ gh k hx.hold).2.1
 have CT2:Calls aA 61 #[.pointer (some ⟨gh,0,none⟩)] w2 fun e w'=>e=.returned (.int .i64 kt)∧w'=w2:=by rw[hkt];exact A2.out.ask fun x hx=>(FJ _ gh k hx.hold).2.2
 have HFD0:∀W',Below w2.heap.size w2 W'→Calls aA 60 #[.pointer (some ⟨gh,0,none⟩)] W' fun e w'=>e=.returned (.int .i64 kf)∧w'=W':=fun W' hW'=>by rw[hkf];exact(A2.out.below hW').ask fun x hx=>(FJ _ gh k hx.hold).2.1
 have HTD0:∀W',Below w2.heap.size w2 W'→Calls aA 61 #[.pointer (some ⟨gh,0,none⟩)] W' fun e w'=>e=.returned (.int .i64 kt)∧w'=W':=fun W' hW'=>by rw[hkt];exact(A2.out.below hW').ask fun x hx=>(FJ _ gh k hx.hold).2.2
 have c5:w2.cell? ⟨g,5,none⟩=some (.pointer (some ⟨gh,0,none⟩)):=by obtain⟨x,hx⟩:=A2.out.ndV;exact hx.f.c5
 have HU:Hid (∀W3 n3,n3.hold=k→Av B w W3 g gt gh gw R n3 r O→Calls aA 58 #[.pointer (some ⟨gh,0,none⟩)] W3 fun e w'=>e=.returned (.int .i64 ku)∧w'=W3):=fun W3 n3 h3 hW=>by
  rw[hku];exact hW.ask fun x hx=>Jc _ gh k (by have:=hx.hold;rw[h3] at this;exact this)
 have HN:Hid (∀W3 n3,n3.log=n.log→Av B w W3 g gt gh gw R n3 r O→P W3→Calls aA 72 #[.pointer (some ⟨g,0,none⟩),.agg (Qa 16 0 0 ku 0 0)] W3 fun e w'=>e=.returned (.tuple #[])∧Av B w w' g gt gh gw R (Cc n3 ⟨16,0,0,0,ku,0,0,0,Z,(Z,Z)⟩) r O∧P w'):=fun W3 n3 h3 hW hp=>
  (hW.call (n'':=Cc n3 ⟨16,0,0,0,ku,0,0,0,Z,(Z,Z)⟩) (P:=fun e _=>e=.returned (.tuple #[])) fun u hu=>Gq B W3 g gt gh gw R n3 u hu (by rw[h3];exact HLG.out) 16 0 0 ku 0 0).mono fun e w' q=>⟨q.1,q.2.1,hP _ _ hp q.2.2⟩
 have HKP:Hid (∀W',Below w2.heap.size w2 W'→Calls aA 174 #[.pointer (some ⟨gt,0,none⟩),.int .i64 kf,.int .i64 kt] W' fun e w3=> ∃q,e=.returned (.int .i64 q)∧Av B w w3 g gt gh gw R (AX (Bi n k) (JE n.tab kf kt)) r O∧P w3):=fun W' hW'=>by
  have AW:=A2.out.below hW';refine(AW.call (n'':=AX (Bi n k) (JE n.tab kf kt)) (P:=fun e _=> ∃q,e=.returned (.int .i64 q)) fun u hu=> ?_).mono fun e w' q=> ?_
  ·exact(Aj4 B W' gt R n.tab u.v1 u.v2 u.v3 hu.tab kf kt (TB hi)).mono fun e w' q=>⟨⟨_,q.1⟩,hu.setTab q.2⟩
  ·obtain⟨⟨q,h1⟩,h2,h3⟩:=q;exact⟨q,h1,h2,hP _ _ (hP2 _ _ P2.out hW') h3⟩
 clear hi hkf hkt hku hP HFL0;have HFD:Hid (∀W',Below w2.heap.size w2 W'→Calls aA 60 #[.pointer (some ⟨gh,0,none⟩)] W' fun e w'=>e=.returned (.int .i64 kf)∧w'=W'):=HFD0;have HTD:Hid (∀W',Below w2.heap.size w2 W'→Calls aA 61 #[.pointer (some ⟨gh,0,none⟩)] W' fun e w'=>e=.returned (.int .i64 kt)∧w'=W'):=HTD0;clear HFD0 HTD0;by_cases hf:kf=fl0
 ·have hfb:(kf !=fl0)=false:=by simpa using hf
  have HF:Hid (kf=fl0):=hf;clear hf;by_cases ht:kt=tp0
  ·have htb:(kt !=tp0)=false:=by simpa using ht
   have HT:Hid (kt=tp0):=ht;clear ht
   go_wp2_with (first
    | (go_at_call 60;refine CF2.mono ?_;rintro e w9 ⟨rfl,hw9⟩;have hw9:=hw9.symm;subst hw9)
    | (go_at_call 61;refine CT2.mono ?_;rintro e w9 ⟨rfl,hw9⟩;have hw9:=hw9.symm;subst hw9;refine Ak ?_))
   unfold AA;clear CF2 CT2 c5;have c5c:w2.cell? ⟨g,5,none⟩=some (.pointer (some ⟨gh,0,none⟩)):=by obtain⟨x,hx⟩:=A2.out.ndV;exact hx.f.c5
   have CU3:=HU.out w2 (Bi n k) rfl A2.out;have HD3:=HDF.out (Bi n k) (by rw[if_neg (by rintro(e | e);exact e HF.out;exact e HT.out)]);have HD3':Hid _:=HD3;clear HD3;by_cases hu:ku=us0
   ·have hub:(ku==us0)=true:=by simpa using hu
    have HUU:Hid (ku=us0):=hu;clear hu;go_wp2_with (go_at_call 58;refine CU3.mono ?_;rintro e w9 ⟨rfl,hw9⟩;have hw9:=hw9.symm;subst hw9);go_ret;exact⟨by rw[HKU.out,decide_eq_false (fun e=>e HUU.out)];rfl,by rw[HD3'.out,if_neg (fun e=>e HUU.out)];exact A2.out,P2.out⟩
   ·have hub:(ku==us0)=false:=by simpa using hu
    have HUU:Hid (ku≠us0):=hu;clear hu;have CN3:=HN.out w2 (Bi n k) rfl A2.out P2.out
    go_wp2_with (first
     | (go_at_call 58;refine CU3.mono ?_;rintro e w9 ⟨rfl,hw9⟩;have hw9:=hw9.symm;subst hw9)
     | (go_at_call 72;refine CN3.mono ?_;rintro e w4 ⟨rfl,a4,p4⟩;have A4:Hid (Av B w w4 g gt gh gw R _ r O):=a4;have P4:Hid (P w4):=p4;clear a4 p4 CN3))
    go_ret;exact⟨by rw[HKU.out,decide_eq_true HUU.out];rfl,by rw[HD3'.out,if_pos HUU.out];exact A4.out,P4.out⟩
  ·have htb:(kt !=tp0)=true:=by simpa using ht
   have HT:Hid (kt≠tp0):=ht;clear ht
   go_wp2_with (first
    | (go_at_call 60;refine CF2.mono ?_;rintro e w9 ⟨rfl,hw9⟩;have hw9:=hw9.symm;subst hw9)
    | (go_at_call 61;refine CT2.mono ?_;rintro e w9 ⟨rfl,hw9⟩;have hw9:=hw9.symm;subst hw9))
   have c5d:∀u:Am w2,u.world.cell? ⟨g,5,none⟩=some (.pointer (some ⟨gh,0,none⟩)):=fun u=>by obtain⟨x,hx⟩:=(A2.out.below u.below).ndV;exact hx.f.c5
   have c4d:∀u:Am w2,u.world.cell? ⟨g,4,none⟩=some (.pointer (some ⟨gt,0,none⟩)):=fun u=>by obtain⟨x,hx⟩:=(A2.out.below u.below).ndV;exact hx.f.c4
   have CFd:∀u:Am w2,Calls aA 60 #[.pointer (some ⟨gh,0,none⟩)] u.world fun e w'=>e=.returned (.int .i64 kf)∧w'=u.world:=fun u=>HFD.out _ u.below;have CTd:∀u:Am w2,Calls aA 61 #[.pointer (some ⟨gh,0,none⟩)] u.world fun e w'=>e=.returned (.int .i64 kt)∧w'=u.world:=fun u=>HTD.out _ u.below;have ne9:=Am.ne w2;clear CF2 CT2 c5;refine Cu 14 (by kernel_rfl) (by kernel_rfl) ?_;simp only[aD,aK,aG,aL]
   iterate 8 (go_big_quiet_step (fail))
   go_big_quiet_want;go_big_quiet_op;refine⟨_,fun u=>Calls.later_sameT (CFd u),?_⟩;go_big_quiet_on
   iterate 4 (go_big_quiet_step (fail))
   go_big_quiet_want;go_big_quiet_op;refine⟨_,fun u=>Calls.later_sameT (CTd u),?_⟩;go_big_quiet_on;refine wpQuiet_nil ?_;rintro w' ⟨uL,rfl⟩;have CK:=HKP.out _ uL.below;obtain⟨wu,hwu⟩:∃wu,wu=uL.world:=⟨_,rfl⟩;rw[←hwu] at CK ⊢;clear c5d c4d CFd CTd ne9 hwu uL;go_wp2_with (go_at_call 174;refine CK.mono ?_;rintro e w3 ⟨q3,rfl,a3,p3⟩;have A3:Hid (Av B w w3 g gt gh gw R _ r O):=a3;have P3:Hid (P w3):=p3;clear a3 p3 CK;refine Ak ?_);unfold AA;have c5c:w3.cell? ⟨g,5,none⟩=some (.pointer (some ⟨gh,0,none⟩)):=by obtain⟨x,hx⟩:=A3.out.ndV;exact hx.f.c5
   have CU3:=HU.out w3 (AX (Bi n k) (JE n.tab kf kt)) rfl A3.out;have HD3:=HDF.out (AX (Bi n k) (JE n.tab kf kt)) (by rw[if_pos (.inr HT.out)]);have HD3':Hid _:=HD3;clear HD3;by_cases hu:ku=us0
   ·have hub:(ku==us0)=true:=by simpa using hu
    have HUU:Hid (ku=us0):=hu;clear hu;go_wp2_with (go_at_call 58;refine CU3.mono ?_;rintro e w9 ⟨rfl,hw9⟩;have hw9:=hw9.symm;subst hw9);go_ret;exact⟨by rw[HKU.out,decide_eq_false (fun e=>e HUU.out)];rfl,by rw[HD3'.out,if_neg (fun e=>e HUU.out)];exact A3.out,P3.out⟩
   ·have hub:(ku==us0)=false:=by simpa using hu
    have HUU:Hid (ku≠us0):=hu;clear hu;have CN3:=HN.out w3 (AX (Bi n k) (JE n.tab kf kt)) rfl A3.out P3.out
    go_wp2_with (first
     | (go_at_call 58;refine CU3.mono ?_;rintro e w9 ⟨rfl,hw9⟩;have hw9:=hw9.symm;subst hw9)
     | (go_at_call 72;refine CN3.mono ?_;rintro e w4 ⟨rfl,a4,p4⟩;have A4:Hid (Av B w w4 g gt gh gw R _ r O):=a4;have P4:Hid (P w4):=p4;clear a4 p4 CN3))
    go_ret;exact⟨by rw[HKU.out,decide_eq_true HUU.out];rfl,by rw[HD3'.out,if_pos HUU.out];exact A4.out,P4.out⟩
 ·have hfb:(kf !=fl0)=true:=by simpa using hf
  have HF:Hid (kf≠fl0):=hf;clear hf;go_wp2_with (go_at_call 60;refine CF2.mono ?_;rintro e w9 ⟨rfl,hw9⟩;have hw9:=hw9.symm;subst hw9);have c5d:∀u:Am w2,u.world.cell? ⟨g,5,none⟩=some (.pointer (some ⟨gh,0,none⟩)):=fun u=>by obtain⟨x,hx⟩:=(A2.out.below u.below).ndV;exact hx.f.c5
  have c4d:∀u:Am w2,u.world.cell? ⟨g,4,none⟩=some (.pointer (some ⟨gt,0,none⟩)):=fun u=>by obtain⟨x,hx⟩:=(A2.out.below u.below).ndV;exact hx.f.c4
  have CFd:∀u:Am w2,Calls aA 60 #[.pointer (some ⟨gh,0,none⟩)] u.world fun e w'=>e=.returned (.int .i64 kf)∧w'=u.world:=fun u=>HFD.out _ u.below;have CTd:∀u:Am w2,Calls aA 61 #[.pointer (some ⟨gh,0,none⟩)] u.world fun e w'=>e=.returned (.int .i64 kt)∧w'=u.world:=fun u=>HTD.out _ u.below;have ne9:=Am.ne w2;clear CF2 CT2 c5;refine Cu 14 (by kernel_rfl) (by kernel_rfl) ?_;simp only[aD,aK,aG,aL]
  iterate 8 (go_big_quiet_step (fail))
  go_big_quiet_want;go_big_quiet_op;refine⟨_,fun u=>Calls.later_sameT (CFd u),?_⟩;go_big_quiet_on
  iterate 4 (go_big_quiet_step (fail))
  go_big_quiet_want;go_big_quiet_op;refine⟨_,fun u=>Calls.later_sameT (CTd u),?_⟩;go_big_quiet_on;refine wpQuiet_nil ?_;rintro w' ⟨uL,rfl⟩;have CK:=HKP.out _ uL.below;obtain⟨wu,hwu⟩:∃wu,wu=uL.world:=⟨_,rfl⟩;rw[←hwu] at CK ⊢;clear c5d c4d CFd CTd ne9 hwu uL;go_wp2_with (go_at_call 174;refine CK.mono ?_;rintro e w3 ⟨q3,rfl,a3,p3⟩;have A3:Hid (Av B w w3 g gt gh gw R _ r O):=a3;have P3:Hid (P w3):=p3;clear a3 p3 CK;refine Ak ?_);unfold AA;have c5c:w3.cell? ⟨g,5,none⟩=some (.pointer (some ⟨gh,0,none⟩)):=by obtain⟨x,hx⟩:=A3.out.ndV;exact hx.f.c5
  have CU3:=HU.out w3 (AX (Bi n k) (JE n.tab kf kt)) rfl A3.out;have HD3:=HDF.out (AX (Bi n k) (JE n.tab kf kt)) (by rw[if_pos (.inl HF.out)]);have HD3':Hid _:=HD3;clear HD3;by_cases hu:ku=us0
  ·have hub:(ku==us0)=true:=by simpa using hu
   have HUU:Hid (ku=us0):=hu;clear hu;go_wp2_with (go_at_call 58;refine CU3.mono ?_;rintro e w9 ⟨rfl,hw9⟩;have hw9:=hw9.symm;subst hw9);go_ret;exact⟨by rw[HKU.out,decide_eq_false (fun e=>e HUU.out)];rfl,by rw[HD3'.out,if_neg (fun e=>e HUU.out)];exact A3.out,P3.out⟩
  ·have hub:(ku==us0)=false:=by simpa using hu
   have HUU:Hid (ku≠us0):=hu;clear hu;have CN3:=HN.out w3 (AX (Bi n k) (JE n.tab kf kt)) rfl A3.out P3.out
   go_wp2_with (first
    | (go_at_call 58;refine CU3.mono ?_;rintro e w9 ⟨rfl,hw9⟩;have hw9:=hw9.symm;subst hw9)
    | (go_at_call 72;refine CN3.mono ?_;rintro e w4 ⟨rfl,a4,p4⟩;have A4:Hid (Av B w w4 g gt gh gw R _ r O):=a4;have P4:Hid (P w4):=p4;clear a4 p4 CN3))
   go_ret;exact⟨by rw[HKU.out,decide_eq_true HUU.out];rfl,by rw[HD3'.out,if_pos HUU.out];exact A4.out,P4.out⟩
structure Ho(g p2 p3 p5:Nat)(m:An)(v:Int)(W:World):Prop where
 b2:W.heap[p2]?=some (.cells #[.pointer (some ⟨g,0,none⟩)] 27 (0,0))
 b3:W.heap[p3]?=some (.cells (Ae m) 39 (0,0))
 b5:W.heap[p5]?=some (.cells #[.int .i64 v] 3 (0,0))
theorem Ho.keep{g p2 p3 p5:Nat}{m:An}{v:Int}{W W':World}{O:Nat→Prop}(h:Ho g p2 p3 p5 m v W)(h2:O p2)(h3:O p3)(h5:O p5)(hk:Ec O W W'):Ho g p2 p3 p5 m v W':=
 ⟨(hk _ h2).trans h.b2,(hk _ h3).trans h.b3,(hk _ h5).trans h.b5⟩
theorem Ho.below{g p2 p3 p5:Nat}{m:An}{v:Int}{W W':World}(h:Ho g p2 p3 p5 m v W)(hb:Below W.heap.size W W'):Ho g p2 p3 p5 m v W':=
 ⟨(hb.block _ (gS h.b2)).trans h.b2,(hb.block _ (gS h.b3)).trans h.b3,(hb.block _ (gS h.b5)).trans h.b5⟩
theorem YS(B:Nat)(w W:World)(g gt gh gw:Nat)(R:Rm)(n:Af Aq)(r:D0)(O:Nat→Prop)(A:Av B w W g gt gh gw R n r O)(p2 p3 p5:Nat)(h2:O p2)(h3:O p3)(h5:O p5)(h25:p2≠p5)(h35:p3≠p5)(m:An)(hm:BB m)(hof:Ch (Ad m 4))(v:Int)(hb:Ho g p2 p3 p5 m v W):
  Calls aA 147 #[.pointer (some ⟨p2,0,none⟩),.pointer (some ⟨p3,0,none⟩),.pointer (some ⟨p5,0,none⟩)] W fun e w2=>e=.returned (.tuple #[])∧Av B w w2 g gt gh gw R (Bi n (DK n.hold (Ad m 2) (Ad m 1) (Ad m 3) (Ad m 4)).1) r O∧Ho g p2 p3 p5 m (DK n.hold (Ad m 2) (Ad m 1) (Ad m 3) (Ad m 4)).2 w2:=by
 have k0:∀u:Am W,u.world.cell? ⟨p2,0,none⟩=some (.pointer (some ⟨g,0,none⟩)):=fun u=>by rw[cell_of_row u.world p2 0 _ _ _ (hb.below u.below).b2];rfl
 have k5:∀u:Am W,u.world.cell? ⟨g,5,none⟩=some (.pointer (some ⟨gh,0,none⟩)):=fun u=>by obtain⟨x,hx⟩:=(A.below u.below).ndV;exact hx.f.c5
 have e3:∀u:Am W,u.world.cell? ⟨p3,3,none⟩=some (.int .i64 (Ad m 2)):=fun u=>(Dm hm (hb.below u.below).b3).n 2 (by decide);have e2:∀u:Am W,u.world.cell? ⟨p3,2,none⟩=some (.int .i64 (Ad m 1)):=fun u=>(Dm hm (hb.below u.below).b3).n 1 (by decide);have e4:∀u:Am W,u.world.cell? ⟨p3,4,none⟩=some (.int .i64 (Ad m 3)):=fun u=>(Dm hm (hb.below u.below).b3).n 3 (by decide);have e5:∀u:Am W,u.world.cell? ⟨p3,5,none⟩=some (.int .i64 (Ad m 4)):=fun u=>(Dm hm (hb.below u.below).b3).n 4 (by decide)
 have CI:Hid (∀W',Below W.heap.size W W'→Calls aA 148 #[.pointer (some ⟨gh,0,none⟩),.int .i64 (Ad m 2),.int .i64 (Ad m 1),.int .i64 (Ad m 3),.int .i64 (Ad m 4)] W' fun e w2=>e=.returned (.int .i64 (DK n.hold (Ad m 2) (Ad m 1) (Ad m 3) (Ad m 4)).2)∧Av B w w2 g gt gh gw R (Bi n (DK n.hold (Ad m 2) (Ad m 1) (Ad m 3) (Ad m 4)).1) r O∧Ho g p2 p3 p5 m v w2):=fun W' hW'=>by
  refine((A.below hW').call (n'':=Bi n (DK n.hold (Ad m 2) (Ad m 1) (Ad m 3) (Ad m 4)).1) (P:=fun e _=>e=.returned (.int .i64 (DK n.hold (Ad m 2) (Ad m 1) (Ad m 3) (Ad m 4)).2)) fun u hu=> ?_).mono fun e w' q=>⟨q.1,q.2.1,(hb.below hW').keep h2 h3 h5 q.2.2⟩;exact(Aj7 W' gh n.hold hu.hold _ _ _ _ (by have:=hof.2;omega)).mono fun e w' q=>⟨q.1,hu.setHold q.2⟩
 obtain⟨k,hk⟩:=eX ((DK n.hold (Ad m 2) (Ad m 1) (Ad m 3) (Ad m 4)).1);obtain⟨x,hx⟩:=eX ((DK n.hold (Ad m 2) (Ad m 1) (Ad m 3) (Ad m 4)).2);rw[←hk, ←hx] at CI ⊢;obtain⟨m1,g1⟩:∃q,q=Ad m 1:=⟨_,rfl⟩;obtain⟨m2,g2⟩:∃q,q=Ad m 2:=⟨_,rfl⟩;obtain⟨m3,g3⟩:∃q,q=Ad m 3:=⟨_,rfl⟩;obtain⟨m4,g4⟩:∃q,q=Ad m 4:=⟨_,rfl⟩;rw[←g1] at e2 CI;rw[←g2] at e3 CI;rw[←g3] at e4 CI;rw[←g4] at e5 CI;have ne9:=Am.ne W;clear hk hx g1 g2 g3 g4 hm hof hb A h2 h3;go_enter Tryz.func147,Tryz.ntmps147;refine Cu 12 (by kernel_rfl) (by kernel_rfl) ?_;simp only[aD,aK,aG,aL]
 iterate 12 (go_big_quiet_step (fail))
 refine wpQuiet_nil ?_;rintro w' ⟨uL,rfl⟩;obtain⟨wu,hwu⟩:=eX uL.world;have CI1:=CI.out _ uL.below;rw[←hwu] at CI1 ⊢;clear k0 k5 e2 e3 e4 e5 ne9 hwu uL CI;go_wp2_with (go_at_call 148;refine CI1.mono ?_;rintro e w2 ⟨rfl,a2,bx⟩;have A2:Hid _:=a2;have B2:Hid _:=bx;clear a2 bx CI1;refine Ak ?_);unfold AA;have hb5:=B2.out.b5;have fc:w2.cell? ⟨p5,0,none⟩=some (.int .i64 v):=by rw[cell_of_row w2 p5 0 _ _ _ hb5];rfl
 have fz:w2.frozen? ⟨p5,0,none⟩=false:=by simp[World.frozen?,hb5]
 have AF:Hid (Av B w (w2.setCell ⟨p5,0,none⟩ (.int .i64 x)) g gt gh gw R (Bi n k) r O):=A2.out.cell h5 0 _
 have BF:Hid (Ho g p2 p3 p5 m x (w2.setCell ⟨p5,0,none⟩ (.int .i64 x))):=
  ⟨(heap_setCell_other w2 ⟨p5,0,none⟩ p2 _ h25).trans B2.out.b2,(heap_setCell_other w2 ⟨p5,0,none⟩ p3 _ h35).trans B2.out.b3,heap_setCell_same w2 p5 0 _ _ _ hb5⟩
 clear hb5 A2 B2;go_wp2_with fail;go_end0;exact⟨rfl,AF.out,BF.out⟩
structure QB(g p2 p3:Nat)(m:An)(W:World):Prop where
 b2:W.heap[p2]?=some (.cells #[.pointer (some ⟨g,0,none⟩)] 27 (0,0))
 b3:W.heap[p3]?=some (.cells (Ae m) 39 (0,0))
theorem QB.keep{g p2 p3:Nat}{m:An}{W W':World}{O:Nat→Prop}(h:QB g p2 p3 m W)(h2:O p2)(h3:O p3)(hk:Ec O W W'):QB g p2 p3 m W':=
 ⟨(hk _ h2).trans h.b2,(hk _ h3).trans h.b3⟩
theorem QB.below{g p2 p3:Nat}{m:An}{W W':World}(h:QB g p2 p3 m W)(hb:Below W.heap.size W W'):QB g p2 p3 m W':=
 ⟨(hb.block _ (gS h.b2)).trans h.b2,(hb.block _ (gS h.b3)).trans h.b3⟩
theorem YQ(B:Nat)(w W:World)(g gt gh gw:Nat)(R:Rm)(n:Af Aq)(r:D0)(O:Nat→Prop)(A:Av B w W g gt gh gw R n r O)(hk0:DO n.hold)(p2 p3:Nat)(h2:O p2)(h3:O p3)(m:An)(hm:BB m)(hb:QB g p2 p3 m W):
  Calls aA 151 #[.pointer (some ⟨p2,0,none⟩),.pointer (some ⟨p3,0,none⟩)] W fun e w2=>e=.returned (.tuple #[])∧Av B w w2 g gt gh gw R (Bi n (Dq n.hold (Ad m 9) (Ad m 10) (Ad m 2)).1) r O∧QB g p2 p3 m w2:=by
 have k0:∀u:Am W,u.world.cell? ⟨p2,0,none⟩=some (.pointer (some ⟨g,0,none⟩)):=fun u=>by rw[cell_of_row u.world p2 0 _ _ _ (hb.below u.below).b2];rfl
 have k5:∀u:Am W,u.world.cell? ⟨g,5,none⟩=some (.pointer (some ⟨gh,0,none⟩)):=fun u=>by obtain⟨x,hx⟩:=(A.below u.below).ndV;exact hx.f.c5
 have e3:∀u:Am W,u.world.cell? ⟨p3,3,none⟩=some (.int .i64 (Ad m 2)):=fun u=>(Dm hm (hb.below u.below).b3).n 2 (by decide);have e2:∀u:Am W,u.world.cell? ⟨p3,10,none⟩=some (.int .i64 (Ad m 9)):=fun u=>(Dm hm (hb.below u.below).b3).n 9 (by decide);have e4:∀u:Am W,u.world.cell? ⟨p3,11,none⟩=some (.int .i64 (Ad m 10)):=fun u=>(Dm hm (hb.below u.below).b3).n 10 (by decide)
 have CI:Hid (∀W',Below W.heap.size W W'→Calls aA 152 #[.pointer (some ⟨gh,0,none⟩),.int .i64 (Ad m 9),.int .i64 (Ad m 10),.int .i64 (Ad m 2)] W' fun e w2=>(∃b,e=.returned (.bool b))∧Av B w w2 g gt gh gw R (Bi n (Dq n.hold (Ad m 9) (Ad m 10) (Ad m 2)).1) r O∧QB g p2 p3 m w2):=fun W' hW'=>by
  refine((A.below hW').call (n'':=Bi n (Dq n.hold (Ad m 9) (Ad m 10) (Ad m 2)).1) (P:=fun e _=> ∃b,e=.returned (.bool b)) fun u hu=> ?_).mono fun e w' q=>⟨q.1,q.2.1,(hb.below hW').keep h2 h3 q.2.2⟩;exact(Aj0 W' gh n.hold hu.hold hk0 _ _ _).mono fun e w' q=>⟨⟨_,q.1⟩,hu.setHold q.2⟩
 obtain⟨k,hk⟩:=eX ((Dq n.hold (Ad m 9) (Ad m 10) (Ad m 2)).1);rw[←hk] at CI ⊢;obtain⟨m1,g1⟩:∃q,q=Ad m 9:=⟨_,rfl⟩;obtain⟨m2,g2⟩:∃q,q=Ad m 2:=⟨_,rfl⟩;obtain⟨m3,g3⟩:∃q,q=Ad m 10:=⟨_,rfl⟩;rw[←g1] at e2 CI;rw[←g2] at e3 CI;rw[←g3] at e4 CI;have ne9:=Am.ne W;clear hk g1 g2 g3 hm hb A h2 h3 hk0;go_enter Tryz.func151,Tryz.ntmps151;refine Cu 10 (by kernel_rfl) (by kernel_rfl) ?_;simp only[aD,aK,aG,aL]
 iterate 10 (go_big_quiet_step (fail))
 refine wpQuiet_nil ?_;rintro w' ⟨uL,rfl⟩;obtain⟨wu,hwu⟩:=eX uL.world;have CI1:=CI.out _ uL.below;rw[←hwu] at CI1 ⊢;clear k0 k5 e2 e3 e4 ne9 hwu uL CI;go_wp2_with (go_at_call 152;refine CI1.mono ?_;rintro e w2 ⟨⟨b,rfl⟩,a2,bx⟩;have A2:Hid _:=a2;have B2:Hid _:=bx;clear a2 bx CI1);go_end0;exact⟨rfl,A2.out,B2.out⟩
theorem QU{R:Rm}{N:Nat}{n:Af Aq}(h:Az N R n)(k:Bb)(hk:Gl k):Az (N+2) R (Cs (Al R) (Bi n k) n.hold):=by
 have h1:=Anc h hk
 have h2:Az (N+1) R (if (Bi n k).hold.floor≠n.hold.floor∨(Bi n k).hold.top≠n.hold.top then AX (Bi n k) ((Al R).keep (Bi n k).tab (Bi n k).hold.floor (Bi n k).hold.top) else Bi n k):=by
  split
  ·exact Ana h1 _ _
  ·exact h1.le (aN N)
 obtain⟨X,hX⟩:=eX ((if (Bi n k).hold.floor≠n.hold.floor∨(Bi n k).hold.top≠n.hold.top then AX (Bi n k) ((Al R).keep (Bi n k).tab (Bi n k).hold.floor (Bi n k).hold.top) else Bi n k));rw[←hX] at h2;rw[show Cs (Al R) (Bi n k) n.hold=if (Bi n k).hold.use≠n.hold.use then Cc X {FB with kind:=16,epoch:=(Bi n k).hold.use} else X by rw[hX];rfl];split
 ·exact EJ h2 _
 ·exact h2.le (aN _)
theorem Ab9(B:Nat)(w:World)(g gt gh gw:Nat)(R:Rm)(n:Af Aq)(r:D0)(h:Cb B w g gt gh gw R n r){M:Nat}(hi:Az M R n)(hM:M≤900000)(m:An)(hm:BB m)(hn:∀j,Ch (Ad m j)):
  Calls aA 116 #[.pointer (some ⟨g,0,none⟩),.agg (Ae m)] w fun e w'=>e=.returned (.bool true)∧Dl B w w' g gt gh gw R (IC (Al R) n m) r:=by
 obtain⟨w0,hw0⟩:=eX ((w.alloc (.cells #[.pointer (some ⟨g,0,none⟩)] 27)).alloc (.cells (Ae m) 39));have B0:Below w.heap.size w w0:=by rw[hw0];exact((Below.refl _ _).alloc (aO _) _).alloc (by rw[Bf];exact aN _) _
 have Zs:w0.heap.size=w.heap.size+2:=by rw[hw0,Bf,Bf]
 have BX0:QB g w.heap.size (w.heap.size+1) m w0:=by
  refine⟨?_,?_⟩
  ·rw[hw0];exact Ah _ _ _ _ (Ab _ _ _ rfl)
  ·rw[hw0];exact Ab _ _ _ (by rw[Bf])
 obtain⟨O,hO⟩:∃O:Nat→Prop,O=fun k=>k=w.heap.size∨k=w.heap.size+1:=⟨_,rfl⟩;have M2:O w.heap.size:=by rw[hO];exact .inl rfl
 have M3:O (w.heap.size+1):=by rw[hO];exact .inr rfl
 have A0:Av B w w0 g gt gh gw R n r O:=Av.begin h B0 (by rw[hO];rintro k (rfl | rfl) <;> exact⟨by omega,by omega⟩);have c2:w0.cell? ⟨w.heap.size,0,none⟩=some (.pointer (some ⟨g,0,none⟩)):=by rw[cell_of_row w0 _ 0 _ _ _ BX0.b2];rfl
 obtain⟨k,hk⟩:=eX ((Dq n.hold (Ad m 9) (Ad m 10) (Ad m 2)).1);have hkn:Gl k:=by rw[hk];exact(Pf hi.hold _ _ _ (hn 9).2 (hn 2).2).1
 have CT:=PO B w w0 g gt gh gw R n r O A0 hi hM k 151 #[.pointer (some ⟨w.heap.size,0,none⟩),.pointer (some ⟨w.heap.size+1,0,none⟩)] (fun vs W=>by have hf:=Tryz.func151;simp[go_sem]) (QB g w.heap.size (w.heap.size+1) m) (fun W' hW'=>by rw[hk];exact YQ B w W' g gt gh gw R n r O (A0.below hW') hi.hold.ok _ _ M2 M3 m hm (BX0.below hW')) (fun W1 W2 h1 h2=>h1.keep M2 M3 h2) (fun W1 W2 h1 h2=>h1.below h2);have hit:=QU hi k hkn;have hdl:IC (Al R) n m=if k.use≠n.hold.use then H7 (Cs (Al R) (Bi n k) n.hold) else Cs (Al R) (Bi n k) n.hold:=by rw[hk];rfl
 obtain⟨n1,hn1⟩:=eX (Cs (Al R) (Bi n k) n.hold);rw[←hn1] at CT hit hdl;have HDL:Hid _:=hdl;have HIT:Hid (Az (M+2) R n1∧M≤900000):=⟨hit,hM⟩;have hw0':=hw0.symm;clear hn1 hdl hk hkn hit hi hM hm hn hO M2 M3 A0 BX0 B0 Zs hw0 h;by_cases hu:k.use≠n.hold.use
 ·rw[HDL.out,if_pos hu];rw[decide_eq_true hu] at CT;clear hu HDL;go_enter Tryz.func116,Tryz.ntmps116;go_wp2_with (go_at_call 146;refine CT.mono ?_;rintro e w1 ⟨rfl,a1,bx⟩;have A1:Hid _:=a1;have B1:Hid _:=bx;clear a1 bx CT;refine Ak ?_);unfold AA;have d2:w1.cell? ⟨w.heap.size,0,none⟩=some (.pointer (some ⟨g,0,none⟩)):=by rw[cell_of_row w1 _ 0 _ _ _ B1.out.b2];rfl
  have CB:=A1.out.call fun u hu=>Px B w1 g gt gh gw R n1 u hu HIT.out.1 (by have:=HIT.out.2;omega);go_wp2_with (go_at_call 76;refine CB.mono ?_;rintro e w2 ⟨rfl,a2⟩;have A2:Hid _:=a2;clear a2 CB);go_ret;exact⟨rfl,A2.out.1.to⟩
 ·rw[HDL.out,if_neg hu];rw[decide_eq_false hu] at CT;clear hu HDL;go_enter Tryz.func116,Tryz.ntmps116;go_wp2_with (go_at_call 146;refine CT.mono ?_;rintro e w1 ⟨rfl,a1,bx⟩;have A1:Hid _:=a1;clear a1 bx CT);go_ret;exact⟨rfl,A1.out.to⟩
theorem ZK{R:Rm}{N:Nat}{n:Af Aq}(h:Az N R n){m:An}(hm:BB m)(ha:Ch (Ad m 6)):Az (N+2) R (JP (Al R) n m):=by
 have h1:Az (N+1) R (AX n ((Al R).lay n.tab (Iy m)).1):=by
  refine Ap9 h ?_ ?_
  ·unfold Iy;split <;> exact⟨hm.2.1,hm.2.2.1⟩
  ·unfold Iy;split
   ·exact ha
   ·exact Dg
 show Az _ _ (if ((Al R).lay n.tab (Iy m)).2=0 then AX n ((Al R).lay n.tab (Iy m)).1 else Cc (AX n ((Al R).lay n.tab (Iy m)).1) _);split
 ·exact h1.le (aN _)
 ·exact EJ h1 _
theorem Rg(B:Nat)(w:World)(g gt gh gw:Nat)(R:Rm)(n:Af Aq)(r:D0)(h:Cb B w g gt gh gw R n r){M:Nat}(hi:Az M R n)(hM:M≤900000)(m:An)(hm:BB m)(hr:Ca m=true)(hk12:m.kind=1∨m.kind=2)(hn:∀j,Ch (Ad m j)):
  Calls aA 115 #[.pointer (some ⟨g,0,none⟩),.agg (Ae m)] w fun e w'=>e=.returned (.bool (Ea (Al R) n m).2)∧Dl B w w' g gt gh gw R (Ea (Al R) n m).1 r:=by
 obtain⟨w0,hw0⟩:=eX (((w.alloc (.cells #[.pointer (some ⟨g,0,none⟩)] 27)).alloc (.cells (Ae m) 39)).alloc (.cells #[.int .i64 0] 3));have B0:Below w.heap.size w w0:=by rw[hw0];exact(((Below.refl _ _).alloc (aO _) _).alloc (by rw[Bf];exact aN _) _).alloc (by rw[Bf,Bf];omega) _
 have Zs:w0.heap.size=w.heap.size+3:=by rw[hw0,Bf,Bf,Bf]
 obtain⟨p2,hp2⟩:=eX w.heap.size;obtain⟨p3,hp3⟩:=eX (w.heap.size+1);obtain⟨p5,hp5⟩:=eX (w.heap.size+2)
 have BX0:Ho g p2 p3 p5 m 0 w0:=by
  refine⟨?_,?_,?_⟩
  ·rw[hw0,hp2];exact Ah _ _ _ _ (Ah _ _ _ _ (Ab _ _ _ rfl))
  ·rw[hw0,hp3];exact Ah _ _ _ _ (Ab _ _ _ (by rw[Bf]))
  ·rw[hw0,hp5];exact Ab _ _ _ (by rw[Bf,Bf])
 obtain⟨O,hO⟩:∃O:Nat→Prop,O=fun k=>k=p2∨k=p3∨k=p5:=⟨_,rfl⟩;have HO:Hid (O p2∧O p3∧O p5):=by show _∧_;rw[hO];exact⟨.inl rfl,.inr (.inl rfl),.inr (.inr rfl)⟩
 have A0:Av B w w0 g gt gh gw R n r O:=Av.begin h B0 (by rw[hO];rintro k (rfl | rfl | rfl) <;> exact⟨by omega,by omega⟩);obtain⟨k,hk⟩:=eX ((DK n.hold (Ad m 2) (Ad m 1) (Ad m 3) (Ad m 4)).1);obtain⟨vi,hv⟩:=eX ((DK n.hold (Ad m 2) (Ad m 1) (Ad m 3) (Ad m 4)).2);have hkn:Gl k:=by rw[hk];exact(Pg hi.hold _ _ _ _ (hn 2).2 (hn 1).2 (hn 4).2).1
 have c2:w0.cell? ⟨p2,0,none⟩=some (.pointer (some ⟨g,0,none⟩)):=by rw[cell_of_row w0 _ 0 _ _ _ BX0.b2];rfl
 have CT:=PO B w w0 g gt gh gw R n r O A0 hi hM k 147 #[.pointer (some ⟨p2,0,none⟩),.pointer (some ⟨p3,0,none⟩),.pointer (some ⟨p5,0,none⟩)] (fun vs W=>by have hf:=Tryz.func147;simp[go_sem]) (Ho g p2 p3 p5 m vi) (fun W' hW'=>by rw[hk,hv];exact YS B w W' g gt gh gw R n r O (A0.below hW') p2 p3 p5 HO.out.1 HO.out.2.1 HO.out.2.2 (by omega) (by omega) m hm (hn 4) 0 (BX0.below hW')) (fun W1 W2 h1 h2=>h1.keep HO.out.1 HO.out.2.1 HO.out.2.2 h2) (fun W1 W2 h1 h2=>h1.below h2);have hit:=QU hi k hkn;have hd0:Ea (Al R) n m=if vi=0 then (Cs (Al R) (Bi n k) n.hold,false) else (Mb (if vi=1 then JP (Al R) (Cs (Al R) (Bi n k) n.hold) m else Cs (Al R) (Bi n k) n.hold) m,true):=by rw[hk,hv];rfl
 obtain⟨n1,hn1⟩:=eX (Cs (Al R) (Bi n k) n.hold);rw[←hn1] at CT hit hd0;have HM:Hid _:=hM;have HI1:Hid _:=hit;have HOK:Hid _:=hm;have HMN:Hid _:=hn;have HSL:Hid (MZ m=Iy m):=Aj5 hr hk12;obtain⟨bu,hbu⟩:∃b,b=decide (k.use≠n.hold.use):=⟨_,rfl⟩;rw[←hbu] at CT;rw[hp3,hp5,hp2] at CT;rw[hp2] at c2;have HP:Hid (p2=w.heap.size∧p3=w.heap.size+1∧p5=w.heap.size+2):=⟨hp2,hp3,hp5⟩;have hw0':=hw0.symm;clear hn1 hbu hk hv hkn hit hi hM hm hn hO A0 BX0 B0 Zs hw0 h hr hk12 hp2 hp3 hp5;have HD0:Hid _:=hd0;clear hd0;go_enter Tryz.func115,Tryz.ntmps115;go_wp2_with (go_at_call 146;refine CT.mono ?_;rintro e w1 ⟨rfl,a1,bx⟩;have A1:Hid _:=a1;have B1:Hid _:=bx;clear a1 bx CT;refine Ak ?_);unfold AA;rw[←HP.out.2.2, ←HP.out.2.1, ←HP.out.1] at B1 ⊢;clear c2 hw0';have f5:w1.cell? ⟨p5,0,none⟩=some (.int .i64 vi):=by rw[cell_of_row w1 _ 0 _ _ _ B1.out.b5];rfl
 by_cases hv0:vi=0
 ·have hvb:(vi==0)=true:=by simpa using hv0
  have HV0:Hid _:=hv0;clear hv0;go_wp2_with fail;go_ret;exact⟨by rw[HD0.out,if_pos HV0.out];rfl,by rw[HD0.out,if_pos HV0.out];exact A1.out.to⟩
 ·have hvb:(vi==0)=false:=by simpa using hv0
  have HV0:Hid _:=hv0;clear hv0;by_cases hv1:vi=1
  focus
   have hv1b:(vi==1)=true:=by simpa using hv1
   have HV1:Hid _:=hv1;clear hv1;go_wp2_with fail;have f5:∀u:Am w1,u.world.cell? ⟨p5,0,none⟩=some (.int .i64 vi):=fun u=>by rw[cell_of_row u.world _ 0 _ _ _ (B1.out.below u.below).b5];rfl
   have f2:∀u:Am w1,u.world.cell? ⟨p2,0,none⟩=some (.pointer (some ⟨g,0,none⟩)):=fun u=>by rw[cell_of_row u.world _ 0 _ _ _ (B1.out.below u.below).b2];rfl
   have f4:∀u:Am w1,u.world.cell? ⟨g,4,none⟩=some (.pointer (some ⟨gt,0,none⟩)):=fun u=>by obtain⟨x,hx⟩:=(A1.out.below u.below).ndV;exact hx.f.c4
   have CS:∀u:Am w1,Calls aA 150 #[.agg (Ae m)] u.world fun e w'=>e=.returned (.agg (Ac (MZ m)))∧Below u.world.heap.size u.world w':=fun u=>Abd u.world m HOK.out;have HMS:Hid ((Ae m).size=53):=BG HOK.out;have ne9:=Am.ne w1;refine Cu 9 (by kernel_rfl) (by kernel_rfl) ?_;simp only[aD,aK,aG,aL]
   iterate 7 (go_big_quiet_step (fail))
   refine JJ BD rfl _ rfl p3 0 rfl _ _ _ (Ae m) HMS.out (fun w' h=>by obtain⟨z,rfl⟩:=h;exact(B1.out.below z.below).b3) (Ar _ _) ?_;simp only[pU];go_big_quiet_want;go_big_quiet_op;refine⟨_,fun u=>Calls.later_of (CS u),?_⟩;go_big_quiet_on;refine wpQuiet_nil ?_;rintro w' ⟨uL,rfl⟩;obtain⟨t,ht⟩:=eX (((Al R).lay n1.tab (Iy m)).1);obtain⟨er,her⟩:=eX (((Al R).lay n1.tab (Iy m)).2);have HLD:Hid (JP (Al R) n1 m=if er=0 then AX n1 t else Cc (AX n1 t) ⟨20,0,0,0,Ad m 1,0,0,0,Z,(Z,Z)⟩):=by show _=_;rw[her,ht];rfl
   have HIL:Hid (Az (M+6) R (JP (Al R) n1 m)):=(ZK HI1.out HOK.out (HMN.out 6)).le (by omega);have HIT:Hid (n1.log.length≤1000000):=by show _≤_;have:=HI1.out.log;have:=HM.out;omega
   obtain⟨w2,hw2⟩:=eX uL.world;have A2:Hid (Av B w w2 g gt gh gw R n1 r O):=by show Av _ _ _ _ _ _ _ _ _ _ _;rw[hw2];exact A1.out.below uL.below
   have B2:Hid (Ho g p2 p3 p5 m vi w2):=by show Ho _ _ _ _ _ _ _;rw[hw2];exact B1.out.below uL.below
   have CL:Calls aA 149 #[.pointer (some ⟨gt,0,none⟩),.agg (Ac (MZ m))] w2 fun e w'=>e=.returned (.int .i64 er)∧Av B w w' g gt gh gw R (AX n1 t) r O∧Ho g p2 p3 p5 m vi w':=by
    refine(A2.out.call (n'':=AX n1 t) (P:=fun e _=>e=.returned (.int .i64 er)) fun u hu=> ?_).mono fun e w' q=>⟨q.1,q.2.1,B2.out.keep HO.out.1 HO.out.2.1 HO.out.2.2 q.2.2⟩;rw[ht,her, ←HSL.out];exact(An1 B w2 gt R n1.tab u.v1 u.v2 u.v3 hu.tab (MZ m) ⟨HOK.out.2.1,HOK.out.2.2.1⟩ (TB HI1.out)).mono fun e w' q=>⟨q.1,hu.setTab q.2⟩
   rw[←hw2];clear hw2 uL f5 f2 f4 CS ne9 A1 B1 ht her A2 B2;by_cases he:er=0
   focus
    have heb:(er !=0)=false:=by simpa using he
    have HER:Hid _:=he;clear he;go_wp2_with (go_at_call 149;refine CL.mono ?_;rintro e w3 ⟨rfl,a3,bx⟩;have A4:Hid _:=a3;have B4:Hid _:=bx;clear a3 bx CL;refine Ak ?_);unfold AA;have HLE:Hid (JP (Al R) n1 m=AX n1 t):=by show _=_;rw[HLD.out,if_pos HER.out]
    go_wp2_with fail;obtain⟨n3,hn3⟩:=eX (AX n1 t);have A3:Hid (Av B w w3 g gt gh gw R n3 r O):=by show Av _ _ _ _ _ _ _ _ _ _ _;rw[hn3];exact A4.out
    have B3:Hid _:=B4.out;have I3:Hid (Az (M+6) R n3):=by show Az _ _ _;rw[hn3];exact by rw[←HLE.out];exact HIL.out
    have HDF:Hid (Ea (Al R) n m=(Mb n3 m,true)):=by show _=_;rw[HD0.out,if_neg HV0.out,if_pos HV1.out,HLE.out,hn3]
    clear hn3
   rotate_left
   focus
    have heb:(er !=0)=true:=by simpa using he
    have HER:Hid _:=he;clear he;have HLE:Hid (JP (Al R) n1 m=Cc (AX n1 t) ⟨20,0,0,0,Ad m 1,0,0,0,Z,(Z,Z)⟩):=by show _=_;rw[HLD.out,if_neg HER.out]
    go_wp2_with (go_at_call 149;refine CL.mono ?_;rintro e w4 ⟨rfl,a3,bx⟩;have A4:Hid _:=a3;have B4:Hid _:=bx;clear a3 bx CL;refine Ak ?_);unfold AA;obtain⟨ep,hep⟩:=eX (Ad m 1);have q2:w4.cell? ⟨p2,0,none⟩=some (.pointer (some ⟨g,0,none⟩)):=by rw[cell_of_row w4 _ 0 _ _ _ B4.out.b2];rfl
    have q3:w4.cell? ⟨p3,2,none⟩=some (.int .i64 ep):=by rw[hep];exact(Dm HOK.out B4.out.b3).n 1 (by decide)
    have CN:=A4.out.call (n'':=Cc (AX n1 t) ⟨20,0,0,0,Ad m 1,0,0,0,Z,(Z,Z)⟩) (P:=fun e _=>e=.returned (.tuple #[])) fun u hu=>Gq B w4 g gt gh gw R (AX n1 t) u hu HIT.out 20 0 0 (Ad m 1) 0 0;rw[←hep] at CN HLE;have HEQ:Hid _:=hep;clear hep;go_wp2_with (go_at_call 72;refine CN.mono ?_;rintro e w3 ⟨rfl,a4,k4⟩;have A5:Hid _:=a4;have B5:Hid (Ho g p2 p3 p5 m vi w3):=B4.out.keep HO.out.1 HO.out.2.1 HO.out.2.2 k4;clear a4 k4 CN;refine Ak ?_);unfold AA;rw[HEQ.out] at A5 HLE;clear q2 q3 HEQ;go_wp2_with fail;obtain⟨n3,hn3⟩:=eX (Cc (AX n1 t) ⟨20,0,0,0,Ad m 1,0,0,0,Z,(Z,Z)⟩);have A3:Hid (Av B w w3 g gt gh gw R n3 r O):=by show Av _ _ _ _ _ _ _ _ _ _ _;rw[hn3];exact A5.out
    have B3:Hid _:=B5.out;have I3:Hid (Az (M+6) R n3):=by show Az _ _ _;rw[hn3];exact by rw[←HLE.out];exact HIL.out
    have HDF:Hid (Ea (Al R) n m=(Mb n3 m,true)):=by show _=_;rw[HD0.out,if_neg HV0.out,if_pos HV1.out,HLE.out,hn3]
    clear hn3
  rotate_right
  focus
   have hv1b:(vi==1)=false:=by simpa using hv1
   have HV1:Hid _:=hv1;clear hv1;go_wp2_with fail;have f5:∀u:Am w1,u.world.cell? ⟨p5,0,none⟩=some (.int .i64 vi):=fun u=>by rw[cell_of_row u.world _ 0 _ _ _ (B1.out.below u.below).b5];rfl
   have ne9:=Am.ne w1;refine rL ?_
   iterate 12 (go_big_quiet_step (fail))
   refine wpQuiet_nil ?_;rintro w' ⟨uL,rfl⟩;obtain⟨w3,hw3⟩:=eX uL.world;have A2:Hid (Av B w w3 g gt gh gw R n1 r O):=by show Av _ _ _ _ _ _ _ _ _ _ _;rw[hw3];exact A1.out.below uL.below
   have B2:Hid (Ho g p2 p3 p5 m vi w3):=by show Ho _ _ _ _ _ _ _;rw[hw3];exact B1.out.below uL.below
   rw[←hw3];clear hw3 uL f5 ne9 A1 B1;go_wp2_with fail;obtain⟨n3,hn3⟩:=eX n1;have A3:Hid (Av B w w3 g gt gh gw R n3 r O):=by show Av _ _ _ _ _ _ _ _ _ _ _;rw[hn3];exact A2.out
   have B3:Hid _:=B2.out;have I3:Hid (Az (M+6) R n3):=by show Az _ _ _;rw[hn3];exact HI1.out.le (by omega)
   have HDF:Hid (Ea (Al R) n m=(Mb n3 m,true)):=by show _=_;rw[HD0.out,if_neg HV0.out,if_neg HV1.out,hn3]
   clear hn3
  all_goals
   have HE9:Hid (Mb n3 m=Cx n3 0 (Cz 4 n3.hold.life (Ad m 1) 0 ((n3.hold.cnt (Ad m 1)).1:Nat) 0 0 0 0 0 0 0 0 0 (Z,Z) Z)):=rfl;obtain⟨ep,hep⟩:=eX (Ad m 1);obtain⟨inc,hinc⟩:=eX n3.hold.life;obtain⟨many,hmany⟩:∃many:Int,many=((n3.hold.cnt (Ad m 1)).1:Nat):=⟨_,rfl⟩;obtain⟨of_,hof⟩:∃of_:Int,of_=(n3.hold.cnt (Ad m 1)).2:=⟨_,rfl⟩;obtain⟨nu,hnu⟩:=eX n3.num;obtain⟨le,hle⟩:=eX n3.lease;obtain⟨be,hbe⟩:=eX n3.beat;obtain⟨n9,hn9⟩:=eX (Mb n3 m);have HD9:Hid _:=hn9;rw[←hn9, ←hinc, ←hmany, ←hep] at HE9;have CC:∀u:Am w3,Calls aA 113 #[.pointer (some ⟨gh,0,none⟩),.int .i64 ep] u.world fun e w'=>e=.returned (.tuple #[.int .i64 many,.int .i64 of_])∧Below u.world.heap.size u.world w':=fun u=>by rw[hep,hmany,hof];exact(A3.out.below u.below).ask fun x hx=>Tw _ gh n3.hold hx.hold _
   have CI:Hid (∀W,Av B w W g gt gh gw R n3 r O→Calls aA 57 #[.pointer (some ⟨gh,0,none⟩)] W fun e w'=>e=.returned (.int .i64 inc)∧w'=W):=fun W hW=>by rw[hinc];exact hW.ask fun u hu=>(FJ W gh n3.hold hu.hold).1
   have CS:Hid (∀W,Av B w W g gt gh gw R n3 r O→Ho g p2 p3 p5 m vi W→Calls aA 114 #[.pointer (some ⟨g,0,none⟩),.int .i64 0,.agg (Ae (Cz 4 inc ep 0 many 0 0 0 0 0 0 0 0 0 (Z,Z) Z))] W fun e w'=>e=.returned (.tuple #[])∧Av B w w' g gt gh gw R n9 r O∧DN g gt gh gw nu le be (fun W=>Ho g p2 p3 p5 m vi W) w'):=fun W hW hB=>by
    refine(hW.call (n'':=n9) (P:=fun e _=>e=.returned (.tuple #[])) fun u hu=> ?_).mono fun e w' q=>⟨q.1,q.2.1,?_⟩
    ·rw[HE9.out];exact KI B W g gt gh gw R n3 u hu (by have:=I3.out.post;have:=HM.out;omega) 0 _ (Om _ _ _ _ _ _ _ _ _ _ _ _ _ _ ⟨BO,BO⟩ BO) (by rw[hinc,hmany,hep];exact Ai0 I3.out.hold.life (HMN.out 1) (I3.out.hold.many _))
    ·have hs:=Ew n3 0 (Cz 4 inc ep 0 many 0 0 0 0 0 0 0 0 0 (Z,Z) Z);rw[←HE9.out] at hs;exact q.2.1.inN (by rw[hs.2.2.2.2.1,hnu]) (by rw[hs.2.2.2.2.2.1,hle]) (by rw[hs.2.2.2.2.2.2.1,hbe]) (hB.keep HO.out.1 HO.out.2.1 HO.out.2.2 q.2.2)
   have HSx:Hid (∀W,Below w3.heap.size w3 W→DN g gt gh gw nu le be (fun W=>Ho g p2 p3 p5 m vi W) W):=fun W hW=>(A3.out.below hW).inN hnu.symm hle.symm hbe.symm (B3.out.below hW);have HEP:Hid _:=hep;have k2:∀u:Am w3,u.world.cell? ⟨p2,0,none⟩=some (.pointer (some ⟨g,0,none⟩)):=fun u=>by rw[cell_of_row u.world p2 0 _ _ _ (B3.out.below u.below).b2];rfl
   have k3:∀u:Am w3,u.world.cell? ⟨p3,2,none⟩=some (.int .i64 ep):=fun u=>by rw[HEP.out];exact(Dm HOK.out (B3.out.below u.below).b3).n 1 (by decide)
   have k5:∀u:Am w3,u.world.cell? ⟨g,5,none⟩=some (.pointer (some ⟨gh,0,none⟩)):=fun u=>by obtain⟨x,hx⟩:=(A3.out.below u.below).ndV;exact hx.f.c5
   have ne9:=Am.ne w3;clear hep hinc hmany hof hnu hle hbe hn9 HE9;refine rL ?_
   iterate 6 (go_big_quiet_step (fail))
   go_big_quiet_want;go_big_quiet_op;refine⟨_,fun u=>Calls.later_of (CC u),?_⟩;go_big_quiet_on
   iterate 5 (go_big_quiet_step (fail))
   refine wpQuiet_nil ?_;rintro w' ⟨uL,rfl⟩;obtain⟨wq,hwq⟩:=eX uL.world;have B6:Hid (Ho g p2 p3 p5 m vi (aM wq)):=by rw[hwq];exact B3.out.below uL.below.drew
   have A6:Hid (Av B w (aM wq) g gt gh gw R n3 r O):=by show Av _ _ _ _ _ _ _ _ _ _ _;rw[hwq];exact A3.out.below uL.below.drew
   have HS6:Hid (DN g gt gh gw nu le be (fun W=>Ho g p2 p3 p5 m vi W) (aM wq)):=by rw[hwq];exact HSx.out _ uL.below.drew
   rw[←hwq];clear k2 k3 k5 CC ne9 hwq uL HSx;go_wp2_with fail;have q2:∀z:Fu g gt gh gw nu le be (fun W=>Ho g p2 p3 p5 m vi W),z.world.cell? ⟨p2,0,none⟩=some (.pointer (some ⟨g,0,none⟩)):=fun z=>by rw[cell_of_row z.world p2 0 _ _ _ z.x.b2];rfl
   have q3:∀z:Fu g gt gh gw nu le be (fun W=>Ho g p2 p3 p5 m vi W),z.world.cell? ⟨p3,2,none⟩=some (.int .i64 ep):=fun z=>by rw[HEP.out];exact(Dm HOK.out z.x.b3).n 1 (by decide)
   have e5:∀z:Fu g gt gh gw nu le be (fun W=>Ho g p2 p3 p5 m vi W),z.world.cell? ⟨g,5,none⟩=some (.pointer (some ⟨gh,0,none⟩)):=fun z=>z.c5;have ne9:Nonempty (Fu g gt gh gw nu le be (fun W=>Ho g p2 p3 p5 m vi W)):=by obtain⟨z,_⟩:=HS6.out;exact⟨z⟩
   refine Ey ?_;refine B8 (DN g gt gh gw nu le be (fun W=>Ho g p2 p3 p5 m vi W)) 11 rfl (by kernel_rfl) ?_;refine rR [0,1,6,8,2,7,3,4] 8 3 HS6.out ?_;simp only[pk]
   iterate 8 (go_big_quiet_step (fail))
   refine wpQuiet_nil ?_;refine rO 5 ?_;refine Bm rfl rfl 57 #[.tmp 44] (by intro b w;have hf:=Tryz.func57;simp[go_sem]) #[.pointer (some ⟨gh,0,none⟩)] rfl (fun v w'=>v=.int .i64 inc∧w'=aM wq) ((CI.out (aM wq) A6.out).mono fun e w' h=>⟨_,h.1,rfl,h.2⟩) (some 45) rfl ?_;rintro v wz ⟨rfl,hz9⟩;have hz9:=hz9.symm;subst hz9;refine⟨HS6.out,?_⟩;simp only[pU];refine rO 9 ?_;refine Kz rfl rfl _ _ rfl #[(0,.int .i64 4),(1,.int .i64 inc),(2,.int .i64 ep),(4,.int .i64 many)] rfl _ (Akj inc ep many _) (some 49) rfl ?_;refine⟨HS6.out,?_⟩;simp only[pU];refine rO 10 ?_;refine Bm rfl rfl 114 #[.tmp 40,.const (.int .i64 0),.tmp 49] (by intro b w;have hf:=Tryz.func114;simp[go_sem]) #[.pointer (some ⟨g,0,none⟩),.int .i64 0,.agg (Ae (Cz 4 inc ep 0 many 0 0 0 0 0 0 0 0 0 (Z,Z) Z))] rfl (fun v w'=>v=.tuple #[]∧Av B w w' g gt gh gw R n9 r O∧DN g gt gh gw nu le be (fun W=>Ho g p2 p3 p5 m vi W) w') ((CS.out (aM wq) A6.out B6.out).mono fun e w' h=>⟨_,h.1,rfl,h.2⟩) (some 50) rfl ?_;rintro v w9 ⟨rfl,a9,i9⟩;have A9:Hid _:=a9;clear a9;refine⟨i9,?_⟩
   simp only[pU];refine rD ?_;refine⟨rfl,?_⟩;go_wp2_with fail;go_ret;exact⟨by rw[HDF.out];rfl,by rw[HDF.out];show Dl _ _ _ _ _ _ _ _ (Mb n3 m) _;rw[←HD9.out];exact A9.out.to⟩
section
variable {P:Program} {ops:Array Oper} {md:aY} {C:World→Prop}
def Tz(md:aY)(ops:Array Oper)(n:Nat):Bool:=
 (List.range ops.size).all fun t=>decide (t≤n) || (List.range t).any fun s=>decide (n≤s)&&Region.waitsFor md ops t s
theorem Sr{n:Nat}{listed:Array Bool}(hs:aQ md ops n=true)(hc:Tz md ops n=true)(inv:HeadInv md ops n listed):
  ∀(d i:Nat),n-i=d→i<n→listed.getD i true=false→∀t,n≤t→t∉aB md ops listed:=by
 intro d;induction d using Nat.strongRecOn with
 | _ d ih=>
  intro i hd hi hun t ht hr;obtain⟨_,ot,hot,hall⟩:=mem_ready.1 hr;have htlt:t<ops.size:=(gS hot);by_cases htn:t=n
  ·subst htn;have h1:=aR.1 hs i (aH.2 hi);obtain⟨j,hj,hj2⟩:=aZ.1 h1;simp only[aT,decide_eq_true_eq] at hj2;obtain⟨oj,hoj,e,he,hb,hon⟩:=aW hj2.2;have hjle:j≤t:=by have:=aH.1 hj;omega
   by_cases hjt:j=t
   ·subst hjt;have:oj=ot:=Option.some.inj (hoj.symm.trans hot);subst this;have h2:=hall e he hb;rw[hon,getD_both hun] at h2
    cases h2
   ·cases hl:listed.getD j false with
    | true=>
     have h2:=inv.closed j oj hoj hl e he hb;rw[hon,getD_both hun] at h2
     cases h2
    | false=>
     have hjs:j<listed.size:=by rw[inv.size];omega
     exact ih (t-j) (by omega) j rfl (by omega) (getD_in hjs hl) t (aO _) hr
  ·have h1:=aR.1 hc t (aH.2 htlt);simp only[Bool.or_eq_true,decide_eq_true_eq] at h1;rcases h1 with h1 | h1
   ·omega
   ·obtain⟨s,hs1,hs2⟩:=aZ.1 h1;simp only[aT,decide_eq_true_eq] at hs2;have hst:=aH.1 hs1;obtain⟨o',ho',e,he,hb,hon⟩:=aW hs2.2;have:o'=ot:=Option.some.inj (ho'.symm.trans hot);subst this;have h2:=hall e he hb;rw[hon,getD_both (inv.tail s hs2.1 (by omega))] at h2
    cases h2
theorem Acq{n i:Nat}{oi:Oper}{v:Value}{L:Array Bool→Act→Prop}(hi:ops[i]?=some oi)(hsel:∀(j:Nat) (o:Oper) cs b,ops[j]?=some o→o.op≠ .select cs b)
  (hs:aQ md ops n=true) (hc:Tz md ops n=true) (hin:i<n)
  (hdone:∀listed a,L listed a→∀j∈aB md ops listed,n≤j):
  ∀(f:Nat) (listed:Array Bool) (a:Act),HeadInv md ops n listed→
   (∀j oj,ops[j]?=some oj→j≠i→listed.getD j true=false→(∀e∈oj.after,aX md e=true→e.on≠i)→oi.apart ops oj=true)→
   i∈aB md ops listed→YieldsIn P ops C oi v a→
   Qx P md ops C n L f (listed.setIfInBounds i true) (a.put oi.dst v)→Qx P md ops C n L (f+1) listed a:=by
 intro f;induction f with
 | zero=>
  intro listed a inv _ hr hy H;have hun:=(mem_ready.1 hr).1;refine⟨fun h=>(by rw[h] at hr;cases hr),fun j hj=> ?_⟩
  have hjn:j<n:=by
   rcases Nat.lt_or_ge j n with h | h
   ·exact h
   ·exact absurd hj (Sr hs hc inv _ i rfl hin hun j h)
  refine⟨hjn,?_⟩;by_cases hji:j=i
  ·subst hji;exact hy.qOp hi H
  ·have:=hdone _ _ H j (ready_mono hj hji);omega
 | succ f ih=>
  intro listed a inv hfree hr hy H;have hun:=(mem_ready.1 hr).1;refine⟨fun h=>(by rw[h] at hr;cases hr),fun j hj=> ?_⟩
  have hjn:j<n:=by
   rcases Nat.lt_or_ge j n with h | h
   ·exact h
   ·exact absurd hj (Sr hs hc inv _ i rfl hin hun j h)
  refine⟨hjn,?_⟩;by_cases hji:j=i
  ·subst hji;exact hy.qOp hi H
  ·have h1:=(H.2 j (ready_mono hj hji)).2;obtain⟨hjun,oj,hoj,hall⟩:=mem_ready.1 hj
   have hnot:∀e∈oj.after,aX md e=true→e.on≠i:=fun e he hb heq=>by
    have h1:=hall e he hb;rw[heq,getD_both hun] at h1
    cases h1
   have h2:=qOp_put hoj (hfree j oj hoj hji hjun hnot) (fun cs b=>hsel i oi cs b hi) (fun cs b=>hsel j oj cs b hoj) hy h1
   have hfree':∀k ok,ops[k]?=some ok→k≠i→(listed.setIfInBounds j true).getD k true=false→
     (∀e∈ok.after,aX md e=true→e.on≠i)→oi.apart ops ok=true:=fun k ok hk hki hun hno=>by
    refine hfree k ok hk hki ?_ hno;by_cases hjk:j=k
    ·subst hjk;exact hjun
    ·rw[getD_set_ne true hjk] at hun;exact hun
   refine qOp_mono (fun a' h3=>ih (listed.setIfInBounds j true) a' (inv.set hj hjn) hfree' (ready_mono hr (Ne.symm hji)) h3.1 ?_) h2;rw[aJ _ _ hji];exact h3.2
def Th(md:aY)(ops:Array Oper)(L0:Array Bool):Nat→Nat→Array Bool→Bool
 | 0,_,listed=>decide (listed=L0)
 | f+1,k,listed=>(aB md ops listed).contains k&&Region.free md ops listed k&&Th md ops L0 f (k+1) (listed.setIfInBounds k true)
theorem Yi{n:Nat}{L0:Array Bool}{Lq:Act→Prop}(hsel:bB ops=true)(hs:aQ md ops n=true)(hc:Tz md ops n=true)(hd:∀j∈aB md ops L0,n≤j):
  ∀(l:List Oper) (k:Nat) (listed:Array Bool) (a:Act),(∀j,j<l.length→l[j]?=ops[k+j]?)→k+l.length=n→HeadInv md ops n listed→
  Th md ops L0 l.length k listed=true→wpQuiet P ops C Lq l a→
  Qx P md ops C n (fun listed' a'=>listed'=L0∧Lq a') l.length listed a
 | [],k,listed,a,_,hk,_,hB,h=>⟨by simpa[Th] using hB,h⟩
 | o::l,k,listed,a,hl,hk,inv,hB,h=>by
  have h0:ops[k]?=some o:=by simpa using(hl 0 (by simp)).symm
  simp only[aV,Th,aT] at hB
  obtain⟨⟨hr,hf⟩,hB'⟩:=hB
  have hkn:k<n:=by simp only[aV] at hk;omega
  have hr':k∈aB md ops listed:=by simpa using hr
  have hst:qOp P ops C k (wpQuiet P ops C Lq l) a:=by unfold qOp;simp only[h0];exact h
  obtain⟨v,hy,hK⟩:=yieldsIn_of_qOp h0 hst
  exact Acq h0 (Region.noSelect_spec hsel) hs hc hkn (fun listed' a' hL=>by rw[hL.1];exact hd) l.length listed a inv (Region.free_spec h0 hf) hr' hy
   (Yi hsel hs hc hd l (k+1) _ _ (fun j hj=>by have:=hl (j+1) (by simp;omega);simpa[Nat.add_assoc,Nat.add_comm 1 j] using this) (by simp only[aV] at hk;omega) (inv.set hr' hkn) hB' hK)
end
theorem TR{P:Program}{id:Nat}{Q:Exit→Act→World→Prop}{a:Act}{w:World}{l:List Oper}(n g:Nat)(L0:Array Bool)(hm:P.follows .mixedOrders=true)
  (hsel:bB l.toArray=true) (hs:aQ .any l.toArray n=true) (hc:Tz .any l.toArray n=true) (hd:(aB .any l.toArray L0).all (fun j=>decide (n≤j))=true) (hB:Th .any l.toArray L0 n 0 (bC l.toArray.size false)=true) (hg:l.length=n+g)
  (h:wpQuiet P l.toArray (fun w'=> ∃u:Am w,w'=u.world) (fun a'=> ∀w',(∃u:Am w,w'=u.world)→wpAny P .any l.toArray Q g L0 a' w') (l.take n) a):(Code.region id l.toArray true).wp P Q a w:=by
 have htl:(l.take n).length=n:=by simp;omega
 have inv0:HeadInv .any l.toArray n (bC l.toArray.size false):=
  ⟨by simp,fun j oj _ hl=>(by rw[getD_replicate_false] at hl;cases hl),fun t _ ht=>getD_in (by simpa using ht) (getD_replicate_false _ _)⟩
 have H:=Yi (md:=.any) (L0:=L0) hsel hs hc (fun j hj=>of_decide_eq_true (aR.1 hd j hj)) (l.take n) 0 _ a (fun j hj=>by
  have hj':j<n:=by rw[htl] at hj;exact hj
  simp[hj']) (by simpa using htl) inv0 (by rw[htl];exact hB) h
 refine wp_region_any hm ?_;have hC:(fun w'=> ∃u:Am w,w'=u.world) w.drew:=⟨⟨w.drew,(Below.refl _ _).drew⟩,rfl⟩;have:=N7 (Q':=Q) (g:=g) (fun listed a' w' hw' hL=>by rw[hL.1];exact hL.2 w' hw') _ _ _ _ hC H;rw[htl] at this;rw[show l.toArray.size=n+g by simpa using hg];rw[show l.toArray.size=n+g by simpa using hg] at this;exact this
theorem Ao6{P:Program}{ops:Array Oper}{Q:Exit→Act→World→Prop}{a:Act}{w w':World}{i0 i1 i2:Nat}{o0 o1 o2:Oper}{v0 v1:Value}(L:Array Bool)(h0:ops[i0]?=some o0)(h1:ops[i1]?=some o1)(h2:ops[i2]?=some o2)
  (r0:aB .any ops L=[i0,i1]) (r1:aB .any ops (L.setIfInBounds i0 true)=[i1,i2]) (r2:aB .any ops (L.setIfInBounds i1 true)=[i0]) (r3:aB .any ops ((L.setIfInBounds i0 true).setIfInBounds i1 true)=[i2])
  (r4:aB .any ops ((L.setIfInBounds i0 true).setIfInBounds i2 true)=[i1]) (r5:aB .any ops (((L.setIfInBounds i0 true).setIfInBounds i1 true).setIfInBounds i2 true)=[]) (d1:i1≠i0) (d2:i2≠i1)
  (q0:o0.guard=none) (q1:o1.guard=none) (q2:o2.guard=none) (q3:o2.dst=none)
  (e0:(execOp a.eval o0).run P w=.ok (.value v0) w) (e0':(execOp (a.put o1.dst v1).eval o0).run P w=.ok (.value v0) w)
  (e1:(execOp a.eval o1).run P w=.ok (.value v1) w) (e1a:(execOp (a.put o0.dst v0).eval o1).run P w=.ok (.value v1) w) (e1b:(execOp (a.put o0.dst v0).eval o1).run P w'=.ok (.value v1) w')
  (e2:(execOp (a.put o0.dst v0).eval o2).run P w=.ok .skip w') (e2a:(execOp ((a.put o0.dst v0).put o1.dst v1).eval o2).run P w=.ok .skip w')
  (comm:(a.put o1.dst v1).put o0.dst v0=(a.put o0.dst v0).put o1.dst v1)
  (h:Q .normal ((a.put o0.dst v0).put o1.dst v1) w'):wpAny P .any ops Q 3 L a w:=by
 have pn:∀(b:Act) (v:Value),b.put none v=b:=fun b v=>rfl;have fin:wpAny P .any ops Q 0 (((L.setIfInBounds i0 true).setIfInBounds i1 true).setIfInBounds i2 true) ((a.put o0.dst v0).put o1.dst v1) w':=⟨r5,h⟩;refine Ke [i0,i1] r0 (by simp) fun i hi=> ?_;simp only[aI,aC,or_false] at hi;rcases hi with rfl | rfl
 ·refine Ju h0 q0 e0 (Ke [i1,i2] r1 (by simp) fun j hj=> ?_);simp only[aI,aC,or_false] at hj;rcases hj with rfl | rfl
  ·refine Ju h1 q1 e1a (Ke [i2] r3 (by simp) fun j hj=> ?_);simp only[aI,aC,or_false] at hj;subst hj;refine PH h2 q2 e2a ?_;rw[q3,pn];exact fin
  ·refine PH h2 q2 e2 ?_;rw[q3,pn];refine Ke [i1] r4 (by simp) fun j hj=> ?_;simp only[aI,aC,or_false] at hj;subst hj;refine Ju h1 q1 e1b ?_;rw[aJ _ _ d2];exact fin
 ·refine Ju h1 q1 e1 (Ke [i0] r2 (by simp) fun j hj=> ?_);simp only[aI,aC,or_false] at hj;subst hj;refine Ju h0 q0 e0' ?_;rw[comm,aJ _ _ d1];refine Ke [i2] r3 (by simp) fun j hj=> ?_;simp only[aI,aC,or_false] at hj;subst hj;refine PH h2 q2 e2a ?_;rw[q3,pn];exact fin
theorem Ahq(P:Program)(a:Act)(o:Oper)(w:World)(x:Operand)(v:Value)(ho:o.op=.move x)(hx:a.eval x=v):(execOp a.eval o).run P w=.ok (.value v) w:=by
 unfold execOp;simp only[ho,Sem.run_pure,hx]
theorem JU(P:Program)(a:Act)(o:Oper)(w:World)(x:Operand)(i:Nat)(vs:Array Value)(v:Value)(ho:o.op=.extract x i)(hx:a.eval x=.tuple vs)(hv:vs[i]?=some v):(execOp a.eval o).run P w=.ok (.value v) w:=by
 unfold execOp;simp[ho,hx,Instr.extract,hv]
theorem Py(V M V' M':List Int)(hV:AK V)(hM:AK M)(hV':AK V')(hM':AK M')(w:World):
  Calls aA 204 #[.agg (cv V M),.agg (cv V' M')] w fun e w'=>e=.returned (.bool (DW V M V' M'))∧Below w.heap.size w w':=by
 have hVl:=hV.1;have hMl:=hM.1;have hVl':=hV'.1;have hMl':=hM'.1
 obtain⟨U,N,hU,hN,hUN⟩:∃U N:List Int,U.length=13∧N.length=13∧QP V M V' M'=.tuple #[.agg (cv U N),.bool (DW V M V' M')]:=by
  cases h:DW V M V' M' with
  | true=>exact⟨_,_,(Af2 V M V' M').1,(Af3 M M').1,U5 _ _ _ _ h⟩
  | false=>exact⟨_,_,BO.1,BO.1,W0 _ _ _ _ h⟩
 have C1:Hid (∀W,Calls aA 216 #[.agg (cv V M),.agg (cv V' M')] W fun e w'=>e=.returned (.tuple #[.agg (cv U N),.bool (DW V M V' M')])∧Below W.heap.size W w'):=fun W=>by
  rw[←hUN];exact Aio V M V' M' hV hM hV' hM' W
 generalize DW V M V' M'=b at C1 ⊢;clear hV hM hV' hM' hUN;go_enter Tryz.func204,Tryz.ntmps204
 go_wp2_with (first
  | (refine De rfl _ rfl w.heap.size rfl V M (Ah _ _ _ _ (Ab _ _ _ rfl)) hVl hMl ?_)
  | (refine De rfl _ rfl (w.heap.size+1) rfl V' M' (Ab _ _ _ (by simp)) hVl' hMl' ?_))
 refine(C1.out _).mono ?_;rintro e w1 ⟨rfl,hb1⟩;have B1:Below w.heap.size w w1:=(((Below.refl _ _).alloc (aO _) _).alloc (by simp) _).trans (hb1.mono (by simp;omega));clear hb1 C1;go_wp2_with (refine BQ rfl _ _ rfl w1.heap.size U N rfl rfl _ (Ab _ _ _ rfl) rfl hU hN _ (Bo _ _ _ _ _ rfl) ?_);go_ret;exact⟨rfl,B1.alloc B1.size _⟩
def Lp(H:List Int)(c:List Int×List Int)(i:Nat):Bool:=bt c.2 i&&(bt c.1 i !=bt H i)
def Jl(H:List Int)(c:List Int×List Int):Nat:=(MV H c).getD 104
theorem Zw{H:List Int}{c:List Int×List Int}{k:Nat}(hk:k<104)(h:∀j,j<k→Lp H c j=false)(h1:Lp H c k=true):Jl H c=k:=by
 have:MV H c=some k:=by
  unfold MV;rw[List.find?_range_eq_some];refine⟨h1,aH.2 hk,fun j hj=> ?_⟩;have:=h j hj;unfold Lp at this;rw[this];rfl
 unfold Jl;rw[this];rfl
theorem Amg{H:List Int}{c:List Int×List Int}(h:∀j,j<104→Lp H c j=false):Jl H c=104:=by
 have:MV H c=none:=by
  unfold MV;rw[List.find?_eq_none];intro j hj;have:=h j (aH.1 hj);unfold Lp at this;rw[this];decide
 unfold Jl;rw[this];rfl
theorem SX{H:List Int}{c:List Int×List Int}(h:has c.1 c.2 H=false):MV H c=some (Jl H c)∧Jl H c<104:=by
 obtain⟨i,hi⟩:=WQ h;have:=Aek hi;unfold Jl;rw[hi];exact⟨rfl,this.1⟩
theorem RG{H:List Int}{c:List Int×List Int}{k:Nat}(h:∀j,j<k→Lp H c j=false)(h1:Lp H c k=false):∀j,j<k+1→Lp H c j=false:=fun j hj=>by
 by_cases e:j=k
 ·rw[e];exact h1
 ·exact h j (by omega)
theorem Zg(V M H:List Int)(hV:AK V)(hM:AK M)(hH:AK H)(w:World):
  Calls aA 205 #[.agg (cv V M),.agg (hv H)] w fun e w'=>e=.returned (.int .i64 (Jl H (V,M):Nat))∧Below w.heap.size w w':=by
 have hVl:=hV.1;have hMl:=hM.1;have hHl:=hH.1;have CM:Hid (∀k:Nat,k<104→∀W,Calls aA 202 #[.agg (hv M),.int .i64 (k:Int)] W fun e w'=>e=.returned (.bool (bt M k))∧Below W.heap.size W w'):=fun k hk=>Jn M hM k hk;have CV:Hid (∀k:Nat,k<104→∀W,Calls aA 202 #[.agg (hv V),.int .i64 (k:Int)] W fun e w'=>e=.returned (.bool (bt V k))∧Below W.heap.size W w'):=fun k hk=>Jn V hV k hk;have CH:Hid (∀k:Nat,k<104→∀W,Calls aA 202 #[.agg (hv H),.int .i64 (k:Int)] W fun e w'=>e=.returned (.bool (bt H k))∧Below W.heap.size W w'):=fun k hk=>Jn H hH k hk;clear hV hM hH;go_enter Tryz.func205,Tryz.ntmps205;go_wp2_with fail;go_loopw [6] (fun i wr=> ∃k:Nat,k≤104∧i=.int .i64 k∧Hid (∀j,j<k→Lp H (V,M) j=false)∧wr.heap[w.heap.size]?=some (.cells (cv V M) 37 (0,0))∧wr.heap[w.heap.size+1]?=some (.cells (hv H) 35 (0,0))∧Below w.heap.size w wr) (fun i _=>104-(intOf i).toNat)
 case atStart=>exact⟨0,Nat.zero_le _,rfl,fun j hj=>by omega,Ah _ _ _ _ (Ab _ _ _ rfl),Ab _ _ _ (by simp),((Below.refl _ _).alloc (aO _) _).alloc (by simp) _⟩
 case round=>
  obtain⟨k,hk,rfl,HJ,g0,g1,hb⟩:=hrel;by_cases hlt:k<104
  ·have hlt':(k:Int)<104:=by omega
   have D1:=CM.out k hlt;have D2:=CV.out k hlt;have D3:=CH.out k hlt;obtain⟨x,hx⟩:=eX (bt M k);obtain⟨y,hy⟩:=eX (bt V k);obtain⟨z,hz⟩:=eX (bt H k);have HO:Hid (Lp H (V,M) k=(x&&(y !=z))):=by show _=_;rw[hx,hy,hz];rfl
   rw[←hx] at D1;rw[←hy] at D2;rw[←hz] at D3;have E1:Hid _:=D1;have E2:Hid _:=D2;have E3:Hid _:=D3;clear D1 D2 D3 hx hy hz;go_wp2_with fail;have ne1:=Am.ne wr
   cases x with
   | false=>
    have HJ2:Hid (∀j,j<k+1→Lp H (V,M) j=false):=RG HJ.out (by rw[HO.out];rfl);refine rL ?_;go_big_quiet_step (fail);refine qlM rfl _ rfl w.heap.size rfl V M g0 hVl hMl ?_;simp only[pU];go_big_quiet_step (fail);go_big_quiet_want;go_big_quiet_op;refine⟨_,fun u=>Calls.later_of (E1.out u.world),?_⟩;go_big_quiet_on
    repeat go_big_quiet_step (fail)
    refine wpQuiet_nil ?_;rintro w' ⟨u,rfl⟩;have hb2:=hb.trans (u.below.mono hb.size);have k0:=Ap g0 _ ⟨u,rfl⟩;have k1:=Ap g1 _ ⟨u,rfl⟩;clear ne1 hb g0 g1 E1 E2 E3;go_wp2_with fail;go_roundw
    case rel=>exact⟨k+1,by omega,by go_num,HJ2,k0,k1,hb2⟩
    case measure=>simp[intOf];omega
   | true=>
    refine rL ?_;go_big_quiet_step (fail);refine qlM rfl _ rfl w.heap.size rfl V M g0 hVl hMl ?_;simp only[pU];go_big_quiet_step (fail);go_big_quiet_want;go_big_quiet_op;refine⟨_,fun u=>Calls.later_of (E1.out u.world),?_⟩;go_big_quiet_on;go_big_quiet_step (fail);go_big_quiet_step (fail);refine qlV rfl _ rfl w.heap.size rfl V M g0 hVl ?_;simp only[pU];go_big_quiet_step (fail);go_big_quiet_want;go_big_quiet_op;refine⟨_,fun u=>Calls.later_of (E2.out u.world),?_⟩;go_big_quiet_on;refine U1 rfl _ rfl (w.heap.size+1) rfl H g1 hHl ?_;simp only[pU];go_big_quiet_step (fail);go_big_quiet_want;go_big_quiet_op;refine⟨_,fun u=>Calls.later_of (E3.out u.world),?_⟩;go_big_quiet_on;go_big_quiet_step (fail);go_big_quiet_step (fail);refine wpQuiet_nil ?_;rintro w' ⟨u,rfl⟩;have hb2:=hb.trans (u.below.mono hb.size);have k0:=Ap g0 _ ⟨u,rfl⟩;have k1:=Ap g1 _ ⟨u,rfl⟩;clear ne1 hb g0 g1 E1 E2 E3
    cases y <;> cases z
    ·have HJ2:Hid (∀j,j<k+1→Lp H (V,M) j=false):=RG HJ.out (by rw[HO.out];rfl);clear HO;go_wp2_with fail;go_roundw
     case rel=>exact⟨k+1,by omega,by go_num,HJ2,k0,k1,hb2⟩
     case measure=>simp[intOf];omega
    ·have HE:Hid (Jl H (V,M)=k):=Zw hlt HJ.out (by rw[HO.out];rfl);clear HO;go_wp2_with fail;go_ret;exact⟨by rw[HE.out];rfl,hb2⟩
    ·have HE:Hid (Jl H (V,M)=k):=Zw hlt HJ.out (by rw[HO.out];rfl);clear HO;go_wp2_with fail;go_ret;exact⟨by rw[HE.out];rfl,hb2⟩
    ·have HJ2:Hid (∀j,j<k+1→Lp H (V,M) j=false):=RG HJ.out (by rw[HO.out];rfl);clear HO;go_wp2_with fail;go_roundw
     case rel=>exact⟨k+1,by omega,by go_num,HJ2,k0,k1,hb2⟩
     case measure=>simp[intOf];omega
  ·have HE:Hid (Jl H (V,M)=104):=Amg fun j hj=>HJ.out j (by omega);have hlt':¬(k:Int)<104:=by omega
   go_wp2_with fail;go_ret;exact⟨by rw[HE.out];rfl,hb⟩
def cnt(H:List Int):List (List Int×List Int)→Nat
 | []=>0
 | c::C=>(if has c.1 c.2 H=true then 1 else 0)+cnt H C
def Acz(C:List (List Int×List Int)):Prop:=∀c∈C,AK c.1∧AK c.2
theorem VD:∀(C:List (List Int×List Int)),Acz C→∀(i:Nat) (hi:i<C.length) (j:Nat),j<26→(FD C)[26*i+j]?=(cv C[i].1 C[i].2)[j]?
 | [],_,i,hi,_,_=>by simp at hi
 | c::C,hC,i,hi,j,hj=>by
  have h1:=hC c (by simp)
  have hl:(cv c.1 c.2).toList.length=26:=by rw[Array.length_toList,Bq _ _ h1.1.1 h1.2.1]
  have e:FD (c::C)=(cv c.1 c.2).toList++FD C:=by simp[FD]
  rw[e]
  match i,hi with
  | 0,_=>
   rw[List.getElem?_append_left (by omega)]
   simp
  | i+1,hi=>
   rw[List.getElem?_append_right (by omega),hl,show 26*(i+1)+j-26=26*i+j by omega,VD C (fun c hc=>hC c (by simp[hc])) i (by simpa using hi) j hj]
   rfl
end
end Go.Proofs.YtbhkoipcpcoooaaGreat
