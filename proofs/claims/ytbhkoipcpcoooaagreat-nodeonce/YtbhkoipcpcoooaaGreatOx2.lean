import Derived.Test.YtbhkoipcpcoooaaGreatJ26
import Derived.Test.YtbhkoipcpcoooaaGreatOx1
import Derived.Test.YtbhkoipcpcoooaaGreatJ9
import Derived.Test.YtbhkoipcpcoooaaGreatJ2
import Derived.Test.YtbhkoipcpcoooaaGreatJ1
import Derived.Sort.LotA
import Derived.Test.YtbhkoipcpcoooaaGreatProg
import Derived.WalkKit
import Derived.WalkSpells
import Derived.WalkLawsBesides
import Derived.BigQuiet
import Derived.KernelRfl
import Derived.Laws.StructEq
import Derived.Laws.Tables
import Derived.Laws.Rows
import Derived.StillTailTactics
import Derived.StillTail
import Derived.Test.YtbhkoipcpcoooaaGreatJ4
import Derived.Test.YtbhkoipcpcoooaaGreatJ3
import Derived.Great.BuildSlice
import Derived.Laws.AppendOwn
import Derived.Laws.OwnMore
import Derived.Maps.AppendAt
import Derived.Lib.Bytealg
import Derived.Lib.UnsafeStr
import Derived.Lib.BufferWrite
import Derived.Laws.MakeOwn
import Derived.OwnWalk
import Derived.OrdersHeld
import Derived.Laws.CopyRow
import Derived.Lib.BitFns
import Derived.WalkMore
import Derived.Test.YtbhkoipcpcoooaaGreatJ7
import Derived.Test.YtbhkoipcpcoooaaGreatJ6
import Derived.Test.YtbhkoipcpcoooaaGreatJ5
import Derived.Deep.QuietTactic
import Derived.Lib.Hide
import Derived.Lib.Walk
import Derived.Shelf.SlSortCmp.KitK
import Derived.Deep.LoopGhost
import Derived.Deep.CutRange
import Derived.Laws.AppendOwnNone
import Derived.Great.Walk
import Derived.Laws.Cover3
import Derived.Test.YtbhkoipcpcoooaaGreatJ8
import Derived.Test.YtbhkoipcpcoooaaGreatJ23
import Derived.Test.YtbhkoipcpcoooaaGreatJ10
import Derived.Test.YtbhkoipcpcoooaaGreatJ17
import Derived.Test.YtbhkoipcpcoooaaGreatJ19
import Derived.Test.YtbhkoipcpcoooaaGreatJ18
import Derived.Test.YtbhkoipcpcoooaaGreatJ16
import Derived.Test.YtbhkoipcpcoooaaGreatJ11
import Derived.BigRegion
import Derived.Deep.RegionLaw
import Derived.Shelf.RegionOpenPlain
import Derived.Test.YtbhkoipcpcoooaaGreatJ12
import Derived.Test.YtbhkoipcpcoooaaGreatJ15
import Derived.Test.YtbhkoipcpcoooaaGreatJ14
import Derived.Test.YtbhkoipcpcoooaaGreatJ13
import Derived.Laws.BytesArg
import Derived.Laws.Bits64b
import Derived.Laws.CopyOwn
import Derived.Test.YtbhkoipcpcoooaaGreatJ25
import Derived.Test.YtbhkoipcpcoooaaGreatJ24
import Derived.Test.YtbhkoipcpcoooaaGreatJ22
import Derived.Test.YtbhkoipcpcoooaaGreatJ20
import Derived.Test.YtbhkoipcpcoooaaGreatJ21
import Derived.Test.YtbhkoipcpcoooaaGreatRows
import Derived.ProofKit
import Derived.OpenShut
import Derived.Carry
import Derived.Deep.Slices
import Derived.SizedLaws
namespace Go.Proofs.YtbhkoipcpcoooaaGreat
set_option maxRecDepth 20000
set_option maxHeartbeats 64000000
open Go
open _root_.Array renaming getElem?_eq_some_iff → aA
open _root_.Option renaming toList_some → aB
open _root_.List renaming take_add_one → aC, append_assoc → aD, setIfInBounds_toArray → aJ, replicate → aM, drop_succ_cons → aN, set_cons_succ → aP, set_cons_zero → aQ, take_length → aT, headD_cons → aV, append_nil → aW, drop_zero → aX, take_zero → aY
open Go.RowKit.Below renaming refl → aG
open _root_.Nat renaming le_refl → aH, zero_le → aL, le_trans → aO
open Go.World renaming drew → aI
section
open Go.RowKit
theorem Xh(w:World)(num inc:Int)(s:IP)(va:Value)(l:List CJ)(hl:Ee Fj AO w va l):Calls Tryz.prog 6 #[.int .i64 num,.int .i64 inc,.agg (Ci s),va] w fun e w'=>e=.returned (.bool true)∧Below w.heap.size w w':=by
 obtain⟨oA,cA,hva,hcA,hcA2⟩:=hl.slice;obtain⟨q,hq⟩:∃q,q=l.length:=⟨_,rfl⟩;rw[←hq] at hva hcA;have HL:Hid (∀W,Below w.heap.size w W→Ee Fj AO W va l):=fun W hb=>hl.below hb;have HQ:Hid (q=l.length):=hq;unfold maxLen at hcA2;clear hl hq;subst hva;obtain⟨w0,hw0⟩:∃w0,w0=w.alloc (.cells (Ci s) 24):=⟨_,rfl⟩;have Z0:Hid (w0.heap[w.heap.size]?=some (.cells (Ci s) 24 (0,0))):=by show _=_;rw[hw0];exact Ab _ _ _ rfl
 have B0:Hid (Below w.heap.size w w0):=by show Below _ _ _;rw[hw0];exact(aG _ _).alloc (aH _) _
 have HW:=LG w0;have hw0':=hw0.symm;clear hw0;by_cases hnew:Lz s num inc
 case neg=>
  have HN:Hid (∀W,Calls Tryz.prog 10 #[.int .i64 num,.int .i64 inc,.agg (Ci s)] W fun e w'=>e=.returned (.tuple #[.pointer none,.int .i64 1])∧Below W.heap.size W w'):=fun W=>OX s num inc hnew W;clear hnew;go_enter Tryz.func6,Tryz.ntmps6;go_wp2_with (go_at_call 9;refine HW.mono ?_;rintro e w1 ⟨rfl,hb1⟩;have B1:Hid (Below w0.heap.size w0 w1):=hb1;clear hb1 HW hw0';refine Ak ?_);unfold AA;have Z1:Hid (w1.heap[w.heap.size]?=some (.cells (Ci s) 24 (0,0))):=(B1.out.block _ (aA.1 Z0.out).1).trans Z0.out;have CN:=HN.out w1
  go_wp2_with (first
   | ((with_reducible refine Aw 24 _ rfl ?_);refine AH IG rfl _ rfl w.heap.size 0 rfl _ _ _ (Ci s) rfl Z1.out (Ar _ _) ?_)
   | (go_at_call 10;refine CN.mono ?_;rintro e w2 ⟨rfl,hb2⟩))
  go_ret;have x1:=B0.out.trans (B1.out.mono B0.out.size);exact⟨rfl,x1.trans (hb2.mono x1.size)⟩
 obtain⟨R,n0,HD0⟩:∃R n0,Hid (R=KK s.ca s.ro s.pa s.idl s.hd∧n0=NW num inc s.le s.be s.ca (⟨[],[],[]⟩:Aq) ⟨s.wa,s.tr,s.ti,[],0⟩):=⟨_,_,rfl,rfl⟩;have HN:Hid (∀W,Calls Tryz.prog 10 #[.int .i64 num,.int .i64 inc,.agg (Ci s)] W fun e w'=> ∃g gt gh gw,e=.returned (.tuple #[.pointer (some ⟨g,0,none⟩),.int .i64 0])∧DA W w' g gt gh gw R n0):=fun W=>by rw[HD0.out.1,HD0.out.2];exact LQ s num inc hnew W
 have HI0:Hid (Az 0 R n0):=by show Az _ _ _;rw[HD0.out.1,HD0.out.2];exact Ot hnew
 have HB0:Hid (1≤n0.beat):=by show 1≤_;rw[HD0.out.2];exact(Io hnew.1).2.2
 have HOK:Hid (Lz s num inc):=hnew;clear hnew;go_enter Tryz.func6,Tryz.ntmps6;go_wp2_with (go_at_call 9;refine HW.mono ?_;rintro e w1 ⟨rfl,hb1⟩;have B1:Hid (Below w0.heap.size w0 w1):=hb1;clear hb1 HW hw0';refine Ak ?_);unfold AA;have Z1:Hid (w1.heap[w.heap.size]?=some (.cells (Ci s) 24 (0,0))):=(B1.out.block _ (aA.1 Z0.out).1).trans Z0.out;have HBW:Hid (Below w.heap.size w w1):=B0.out.trans (B1.out.mono B0.out.size);have HZ:Hid (∀W,Below w1.heap.size w1 W→W.heap[w.heap.size]?=some (.cells (Ci s) 24 (0,0))):=fun W hW=>(hW.block _ (aA.1 Z1.out).1).trans Z1.out;have CN:=HN.out w1
 go_wp2_with (first
  | ((with_reducible refine Aw 24 _ rfl ?_);refine AH IG rfl _ rfl w.heap.size 0 rfl _ _ _ (Ci s) rfl Z1.out (Ar _ _) ?_)
  | (go_at_call 10;refine CN.mono ?_;rintro e w2 ⟨g,gt,gh,gw,rfl,a2⟩;have A2:Hid (DA w1 w2 g gt gh gw R n0):=a2;clear a2 CN HN;refine Ak ?_))
 unfold AA;clear B0 Z0 B1;obtain⟨a,ha⟩:∃a,a=s.tr:=⟨_,rfl⟩;obtain⟨wa,hwa⟩:∃wa,wa=s.wa:=⟨_,rfl⟩;have hon:=(Io HOK.out.1).2.1;unfold TK at hon;rw[←ha] at hon;have a0:0≤a:=hon.2.2.1;have a8:a≤8:=hon.2.2.2.1
 have HWA:Hid (∀W,Below w1.heap.size w1 W→W.cell? ⟨w.heap.size,11,none⟩=some (.int .i64 wa)):=fun W hW=>by
  rw[cell_of_row _ _ _ _ _ _ (HZ.out W hW),hwa];rfl
 have HTA:Hid (∀W,Below w1.heap.size w1 W→W.cell? ⟨w.heap.size,12,none⟩=some (.int .i64 a)):=fun W hW=>by
  rw[cell_of_row _ _ _ _ _ _ (HZ.out W hW),ha];rfl
 have HW0:Hid (n0.wait.tries=a∧n0.wait.room=wa∧n0.wait.l=[]∧n0.log=[]):=by show _∧_;rw[HD0.out.2,ha,hwa];exact⟨rfl,rfl,rfl,rfl⟩
 clear hon ha hwa HD0;go_wp2_with (refine Rw scI rfl _ _ rfl 80 rfl rfl (by decide) ?_;intro v3 o3 b3;have O3:Hid (Dj 3 w2.heap.size v3 (.slice (some ⟨w2.heap.size,0,none⟩) 80 80) (aM 80 (.int .i64 0))):=o3;have B3:Hid (Below w2.heap.size w2 v3):=b3;clear o3 b3;refine Ak ?_);unfold AA;go_wp2_with (refine Rw scI rfl _ _ rfl 80 rfl rfl (by decide) ?_;intro v4 o4 b4;have O4:Hid (Dj 3 v3.heap.size v4 (.slice (some ⟨v3.heap.size,0,none⟩) 80 80) (aM 80 (.int .i64 0))):=o4;have B4:Hid (Below v3.heap.size v3 v4):=b4;clear o4 b4;refine Ak ?_);unfold AA;go_wp2_with (refine Rw scI rfl _ _ rfl 80 rfl rfl (by decide) ?_;intro v5 o5 b5;have O5:Hid (Dj 3 v4.heap.size v5 (.slice (some ⟨v4.heap.size,0,none⟩) 80 80) (aM 80 (.int .i64 0))):=o5;have B5:Hid (Below v4.heap.size v4 v5):=b5;clear o5 b5;refine Ak ?_);unfold AA;obtain⟨pc,hpc⟩:∃pc,pc=w2.heap.size:=⟨_,rfl⟩;obtain⟨po,hpo⟩:∃po,po=v3.heap.size:=⟨_,rfl⟩;obtain⟨ps,hps⟩:∃ps,ps=v4.heap.size:=⟨_,rfl⟩;obtain⟨zf,hzf⟩:∃zf:Nat→Int,zf=fun _=>0:=⟨_,rfl⟩;have HZF:Hid (∀j,zf j=0):=fun j=>by rw[hzf]
 have HON:Hid (DP w1.heap.size v5 pc po ps zf []):=by
  have s1:=A2.out.bel.size;have s2:=B3.out.size;have s3:=B4.out.size;have l1:=(O3.out.ge w2.heap.size rfl).2;have l2:=(O4.out.ge v3.heap.size rfl).2;rw[hpc,hpo,hps,hzf];exact⟨((O3.out.below B4.out).below B5.out).base s1,(O4.out.below B5.out).base (aO s1 s2),O5.out.base (aO s1 (aO s2 s3)),by omega,by omega,by omega⟩
 have H0:Hid (B7 w1 v5 g gt gh gw R n0 n0 0):=(B7.grow (B7.grow (B7.grow ⟨A2.out,HI0.out,II.refl _,JS.refl _⟩ B3.out) B4.out) B5.out);have HV0:Hid (DU (Ja zf) n0.wait.tries [] (GJ n0.wait) Fm∧n0.log=[]∧∀j:Nat,0≤j→zf j=0):=⟨Ap2 HZF.out HW0.out.2.2.1,HW0.out.2.2.2,fun j _=>HZF.out j⟩;rw[←hpc, ←hpo, ←hps];clear hpc hpo hps hzf O3 O4 O5 B3 B4 B5 A2;go_wp2_with fail;go_loopw [14] (fun s14 wr=> ∃(i:Nat) (n:Af Aq) (cam:Nat→Int) (hist:List AP),i≤q∧i≤80∧s14=.int .i64 (i:Int)∧Hid (DP w1.heap.size wr pc po ps cam hist)∧Hid (B7 w1 wr g gt gh gw R n0 n (300*i))∧Hid (DU (Ja cam) n.wait.tries hist (GJ n.wait) Fm∧n.log=[]∧∀j:Nat,i≤j→cam j=0)) (fun s14 _=>80-(intOf s14).toNat)
 case atStart=>exact⟨0,n0,zf,[],aL _,aL _,rfl,HON,H0,HV0⟩
 case round=>
  obtain⟨i,n,cam,hist,hi,hi80,rfl,HOn,HR,HF⟩:=hrel;have HBr:Hid (Below w.heap.size w wr):=HBW.out.trans (HR.out.own.bel.mono HBW.out.size);clear H0 HV0 HON;by_cases hand:i<q∧i<80
  case neg=>
   obtain⟨lw,hlw0⟩:∃lw,lw=n.wait.l.length:=⟨_,rfl⟩
   have HLW:Hid (n.wait.l.length=lw∧(lw:Int)≤wa):=by
    refine⟨hlw0.symm,?_⟩;rw[hlw0, ←HW0.out.2.1, ←HR.out.pk.room];exact HR.out.inn.wait.ok.len
   clear hlw0;by_cases hlt:i<q
   focus
    have hlt':(i:Int)<(q:Int):=by omega
    have hlt2':¬(i:Int)<80:=by omega
   rotate_left
   focus
    have hlt':¬(i:Int)<(q:Int):=by omega
   all_goals
    have c11:∀u:Am wr,u.world.cell? ⟨w.heap.size,11,none⟩=some (.int .i64 wa):=fun u=>HWA.out u.world (HR.out.own.bel.trans (u.below.mono HR.out.own.bel.size))
    have CWt:Calls Tryz.prog 25 #[.pointer (some ⟨g,0,none⟩)] (aI wr) fun e w'=>(∃o c,e=.returned (.slice o lw c))∧Below (aI wr).heap.size (aI wr) w':=by
     obtain⟨r9,hv9,hb9⟩:=(HR.out.grow ((aG wr.heap.size wr).drew)).own;refine(L3 _ _ g gt gh gw R n r9 hv9 HR.out.inn.wait).mono ?_;rintro e w' ⟨⟨v,rfl,hv⟩,ho⟩;obtain⟨o,c,eu,_⟩:=hv.slice;exact⟨⟨o,c,by rw[eu,HLW.out.1]⟩,ho⟩
    have hlw:=HLW.out.2;have ne9:=Am.ne wr;go_wp2_with fail;refine Ey ?_;refine B8 (fun W=> ∃u:Am wr,W=u.world) 7 rfl (by kernel_rfl) ?_;refine Fx [0,3,4] 3 4 rfl (by kernel_rfl) (by decide) (by kernel_rfl) (by kernel_rfl) (by intro d v c a w h;exact absurd h.1 (by simp)) ⟨⟨aI wr,(aG _ _).drew⟩,rfl⟩ ?_;simp only[J2,List.map_cons,List.map_nil,aN,aX,aV]
    iterate 3 (go_big_quiet_step (fail))
    refine wpQuiet_nil ?_;refine JA 1 (by kernel_rfl) ?_;refine Bm rfl rfl 25 #[.tmp 174] (by intro b w;have hf:=Tryz.func25;simp[go_sem]) #[.pointer (some ⟨g,0,none⟩)] rfl (fun v w'=>(∃o c,v=.slice o lw c)∧Below (aI wr).heap.size (aI wr) w') (CWt.mono fun e w' h=>by obtain⟨⟨o,c,rfl⟩,h2⟩:=h;exact⟨_,rfl,⟨o,c,rfl⟩,h2⟩) (some 175) rfl ?_;rintro v w4 ⟨⟨o4,c4,rfl⟩,hb4⟩;have B4:Hid (Below wr.heap.size wr w4):=(aG _ _).drew.trans hb4;clear hb4 CWt;refine⟨⟨⟨w4,B4.out⟩,rfl⟩,?_⟩;simp only[Act.put,aJ,aP,aQ];refine JA 2 (by kernel_rfl) ?_;refine UD rfl rfl (.int .i64 (lw:Int)) (by simp[go_sem,execOp,resolve,invoke,builtin,Act.eval]) (some 176) rfl ?_;refine⟨⟨⟨w4,B4.out⟩,rfl⟩,?_⟩;simp only[Act.put,aJ,aP,aQ];refine Fx [5,6] 2 0 rfl (by kernel_rfl) (by decide) (by kernel_rfl) (by kernel_rfl) (by intro d v c a w h;exact absurd h.1 (by simp)) ⟨⟨w4,B4.out⟩,rfl⟩ ?_;simp only[J2,List.map_cons,List.map_nil,aN,aX,aV];go_big_quiet_step (fail);go_big_quiet_step (fail);refine wpQuiet_nil ?_;refine wpAnyH_done (by kernel_rfl) ?_ _;refine⟨rfl,?_⟩;go_wp2_with fail;go_ret;exact⟨rfl,HBr.out.trans (B4.out.mono HBr.out.size)⟩
  obtain⟨hlt,hlt2⟩:=hand;have hlt':(i:Int)<(q:Int):=by omega
  have hlt2':(i:Int)<80:=by omega
  obtain⟨ga,offa,cura,tya,fra,x,rfl,hga,hcca,hxa⟩:=(HL.out wr HBr.out).at i hlt;have HXA:Hid (l[i]?=some x):=hxa;obtain⟨wx,hwx⟩:∃wx,wx=wr.alloc (.cells (AO x) 41):=⟨_,rfl⟩;have BX:Hid (Below wr.heap.size wr wx):=by show Below _ _ _;rw[hwx];exact(aG _ _).alloc (aH _) _
  have Ax:wx.heap[wr.heap.size]?=some (.cells (AO x) 41 (0,0)):=by rw[hwx];exact Ab _ _ _ rfl
  have SRx:(wr.alloc (.cells (AO Lj) 41)).setRow wr.heap.size (AO x)=wx:=by rw[hwx];exact Bo _ _ _ _ _ rfl
  have KGa:Hid (wr.heap[ga]?=some (.cells cura tya fra)):=hga;have KCa:Hid (∀j,j<71→cura[offa+i*71+j]?=(AO x)[j]?):=hcca;have KS:Hid ((AO x).size=71∧(AO x).all (·.oneCell')=true):=⟨Hk x,Pz x⟩;clear hxa hwx hga hcca;obtain⟨xi,hxi⟩:∃xi,xi=x.index:=⟨_,rfl⟩;have k1:wx.cell? ⟨wr.heap.size,1,none⟩=some (.int .i64 xi):=by rw[cell_of_row _ _ _ _ _ _ Ax,Agx,hxi]
  have fz1:wx.frozen? ⟨wr.heap.size,1,none⟩=false:=FZ Ax rfl;clear hxi
  go_wp2_with (first
   | ((with_reducible refine Mx 41 rfl ?_);refine Hs (E:=Fj) Hq rfl rfl ?_)
   | ((with_reducible refine Aw 41 _ rfl ?_);refine Eu (E:=Fj) Hq rfl _ rfl ga (offa+i*71) rfl cura tya fra (AO x) KS.out.1 KGa.out KCa.out ?_)
   | ((with_reducible refine Bu 41 _ _ rfl ?_);refine EK (E:=Fj) Hq rfl _ _ rfl wr.heap.size (AO x) KS.out rfl rfl _ (Ab _ _ _ rfl) rfl _ SRx ?_;refine Ak ?_))
  unfold AA;clear SRx KGa KCa;obtain⟨wy,hwy⟩:∃wy,wy=wx.setCell ⟨wr.heap.size,1,none⟩ (.int .i64 (i:Int)):=⟨_,rfl⟩;have Ay:wy.heap[wr.heap.size]?=some (.cells (AO (x.ix (i:Int))) 41 (0,0)):=by rw[hwy,heap_setCell_same wx _ _ _ _ _ Ax,Aod]
  have BY:Hid (Below wr.heap.size wr wy):=by show Below _ _ _;rw[hwy];exact BX.out.setCell (aH _) _
  have hwy':=hwy.symm;clear hwy Ax;have HSY:Hid ((AO (x.ix (i:Int))).size=71):=Hk _;have HYO:Hid (DP w1.heap.size wy pc po ps cam hist):=HOn.out.below BY.out;have CD:=(HR.out.grow BY.out).does HB0.out (by omega) (x.ix (i:Int));have hgo:=Anw (R:=R) (i:=i) HR.out.inn.wait.ok HF.out.1 (HF.out.2.2 i (aH _)) x;obtain⟨L,hL1,hL2,hL3⟩:=hgo;rw[HF.out.2.1,List.nil_append] at hL1;have hpk:=ZU R n (x.ix (i:Int))
  have hsome:x.kind=1→(∀y∈L,y.index=(i:Int)→y.kind≠5∧y.kind≠6)→(Fq R n (x.ix (i:Int))).wait.l≠[]:=fun h1 hq=>by
   have e:Fq R n (x.ix (i:Int))=Cl (Al R) n (i:Int) x.head x.now:=by
    unfold Fq;rw[if_pos (show(x.ix (i:Int)).kind=1 from h1)];rfl
   rw[e] at hL1 ⊢;exact YU (i:Int) x.head x.now HF.out.2.1 (by rw[hL1];exact hq)
  obtain⟨n',hn'⟩:∃n',n'=Fq R n (x.ix (i:Int)):=⟨_,rfl⟩;rw[←hn'] at CD hL1 hL3 hpk hsome;have HG1:Hid (n'.log=L):=hL1;have HG2:Hid (NS (Ja (Pu cam x i)) n.wait.tries hist L):=hL2;have HG3:Hid (DU (Ja (Pu cam x i)) n'.wait.tries (hist++L) (GJ n'.wait) Fm):=by show DU _ _ _ _ _;rw[hpk.tries];exact hL3
  have HG4:Hid (x.kind=1→(∀y∈L,y.index=(i:Int)→y.kind≠5∧y.kind≠6)→n'.wait.l≠[]):=hsome;have HTR:Hid (n.wait.tries=a):=HR.out.pk.tries.trans HW0.out.1
  have HCZ:Hid (∀j:Nat,i+1≤j→Pu cam x i j=0):=fun j hj=>by
   show(if x.kind=1 then Lx cam i else cam) j=0;split
   ·unfold Lx;rw[if_neg (by omega)];exact HF.out.2.2 j (by omega)
   ·exact HF.out.2.2 j (by omega)
  clear hL1 hL2 hL3 hpk hn' hsome;obtain⟨kd,hkd⟩:∃kd,kd=x.kind:=⟨_,rfl⟩;obtain⟨gx,hgx⟩:∃gx,gx=wr.heap.size:=⟨_,rfl⟩;have HXR:Hid (∀W:World,W.heap[gx]?=some (.cells (AO (x.ix (i:Int))) 41 (0,0))→W.cell? ⟨gx,0,none⟩=some (.int .i64 kd)):=fun W hW=>by rw[cell_of_row _ _ _ _ _ _ hW,TE,hkd];rfl
  have HKD:Hid (kd=x.kind):=hkd;clear hkd
  go_wp2_with (first
   | ((with_reducible refine Aw 41 _ rfl ?_);refine AH JI rfl _ rfl wr.heap.size 0 rfl _ _ _ (AO (x.ix (i:Int))) HSY.out Ay (Ar _ _) ?_)
   | (go_at_call 12;refine CD.mono ?_;rintro e w7 ⟨rfl,a7,k7⟩;have A7:Hid (B7 w1 w7 g gt gh gw R n0 n' (300*i+300)):=a7;have X7:Hid (w7.heap[gx]?=some (.cells (AO (x.ix (i:Int))) 41 (0,0))):=(by rw[hgx];exact k7.row Ay G9);have O7:Hid (DP w1.heap.size w7 pc po ps cam hist):=HYO.out.keptD k7;clear a7 k7 CD;refine Ak ?_))
  unfold AA;rw[←hgx];clear hgx Ay k1 fz1 hwy' HR HOn HYO BX BY HF;have x0:=HXR.out w7 X7.out;by_cases hk1:kd=1
  ·have bk1:(kd==1)=true:=by simpa using hk1
   have HK1:Hid (kd=1):=hk1;have zc:=O7.out.cellC hlt2;obtain⟨zc1,zc2⟩:=zc;obtain⟨cv0,hcv0⟩:∃cv0,cv0=cam i:=⟨_,rfl⟩;rw[←hcv0] at zc1;obtain⟨w8,hw8⟩:∃w8,w8=w7.setCell ⟨pc,i,none⟩ (.int .i64 1):=⟨_,rfl⟩;have A8:Hid (B7 w1 w8 g gt gh gw R n0 n' (300*i+300)):=by show B7 _ _ _ _ _ _ _ _ _ _;rw[hw8];exact B7.setInt A7.out O7.out.c _ _
   have X8:Hid (w8.heap[gx]?=some (.cells (AO (x.ix (i:Int))) 41 (0,0))):=by show _=_;rw[hw8];exact GD O7.out.c _ _ X7.out (by decide)
   have O8:Hid (DP w1.heap.size w8 pc po ps (Lx cam i) hist):=by show DP _ _ _ _ _ _ _;rw[hw8];exact O7.out.setC i
   have ecam:Pu cam x i=Lx cam i:=by unfold Pu;rw[if_pos (HKD.out.symm.trans hk1)]
   rw[ecam] at HG2 HG3 HCZ;obtain⟨cam9,hcam9⟩:∃cam9,cam9=Lx cam i:=⟨_,rfl⟩;rw[←hcam9] at HG2 HG3 HCZ O8;have hw8':=hw8.symm;clear hk1 hcv0 hw8 hcam9 ecam A7 X7 O7;go_wp2_with (go_at_call 19;refine Ak ?_);unfold AA;clear zc1 zc2 hw8' x0;have CN:=A8.out.notes;rw[HG1.out] at CN;obtain⟨n9,hn9⟩:∃n9,n9={n' with log:=[]}:=⟨_,rfl⟩;have HN9:Hid (n9.log=[]∧n9.wait=n'.wait):=by show _∧_;rw[hn9];exact⟨rfl,rfl⟩
   rw[←hn9] at CN;clear hn9;go_wp2_with (go_at_call 19;refine CN.mono ?_;rintro e w9 ⟨⟨v,rfl,hv⟩,a8,k8⟩;have A9:Hid (B7 w1 w9 g gt gh gw R n0 n9 (300*i+300)):=a8;have V9:Hid (BJ w1.heap.size w9 v L):=hv;have X9:Hid (w9.heap[gx]?=some (.cells (AO (x.ix (i:Int))) 41 (0,0))):=k8.row X8.out G9;have O9:Hid (DP w1.heap.size w9 pc po ps cam9 hist):=O8.out.keptD k8;clear a8 k8 hv CN;refine Ak ?_);unfold AA;clear A8 X8 O8;obtain⟨on,cn,hvn,hcn,hcn2⟩:=V9.out.slice;obtain⟨ql,hql⟩:∃ql,ql=L.length:=⟨_,rfl⟩;rw[←hql] at hvn hcn;have HQL:Hid (ql=L.length):=hql;unfold maxLen at hcn2;subst hvn;clear hql;have O9':Hid (DP w1.heap.size w9 pc po ps cam9 (hist++L.take 0)):=by show DP _ _ _ _ _ _ _;rw[aY,aW];exact O9.out
   clear O9;go_wp2_with fail;go_loopw [17] (fun s17 W=> ∃k:Nat,k≤ql∧s17=.int .i64 (k:Int)∧Hid (DP w1.heap.size W pc po ps cam9 (hist++L.take k))∧Hid (B7 w1 W g gt gh gw R n0 n9 (300*i+300))∧Hid (W.heap[gx]?=some (.cells (AO (x.ix (i:Int))) 41 (0,0)))∧Hid (BJ w1.heap.size W (.slice on ql cn) L)) (fun s17 _=>ql-(intOf s17).toNat)
   case atStart=>exact⟨0,aL _,rfl,O9',A9,X9,V9⟩
   case round=>
    obtain⟨k,hk,rfl,Ok,Rk,Xk,Vk⟩:=hrel;clear O9' A9 X9 V9;by_cases hkl:k<ql
    ·have hkl':(k:Int)<(ql:Int):=by omega
     obtain⟨gn,offn,curn,tyn,frn,y,rfl,hgn,hcn3,hyn⟩:=Vk.out.sl.at k hkl;have HYL:Hid (L[k]?=some y):=hyn;obtain⟨wn,hwn⟩:∃wn,wn=wr.alloc (.cells (Bj y) 72):=⟨_,rfl⟩;have BN:Hid (Below wr.heap.size wr wn):=by show Below _ _ _;rw[hwn];exact(aG _ _).alloc (aH _) _
     have NN:Hid (wn.heap[wr.heap.size]?=some (.cells (Bj y) 72 (0,0))):=by show _=_;rw[hwn];exact Ab _ _ _ rfl
     have SRn:(wr.alloc (.cells (Bj FB) 72)).setRow wr.heap.size (Bj y)=wn:=by rw[hwn];exact Bo _ _ _ _ _ rfl
     have KGn:Hid (wr.heap[gn]?=some (.cells curn tyn frn)):=hgn;have KCn:Hid (∀j,j<47→curn[offn+k*47+j]?=(Bj y)[j]?):=hcn3;have HFN:Hid ((Bj y).size=47∧(Bj y).all (·.oneCell')=true):=P8 y;have ON:Hid (DP w1.heap.size wn pc po ps cam9 (hist++L.take k)):=Ok.out.below BN.out;have RN:Hid (B7 w1 wn g gt gh gw R n0 n9 (300*i+300)):=Rk.out.grow BN.out;have XN:Hid (wn.heap[gx]?=some (.cells (AO (x.ix (i:Int))) 41 (0,0))):=(BN.out.block _ (aA.1 Xk.out).1).trans Xk.out;have VN:Hid (BJ w1.heap.size wn (.slice (some ⟨gn,offn,none⟩) ql cn) L):=Vk.out.below BN.out;have hok:=Um L hist k y HG2.out hyn;rw[HTR.out] at hok;have HOKN:Hid (TL (Ja cam9) a (hist++L.take k++[y]) y):=hok;obtain⟨yk,hyk⟩:∃yk,yk=y.kind:=⟨_,rfl⟩;obtain⟨yi,hyi⟩:∃yi,yi=y.index:=⟨_,rfl⟩;have HYK:Hid (yk=y.kind):=hyk;have HYI:Hid (yi=y.index):=hyi;have nc0:wn.cell? ⟨wr.heap.size,0,none⟩=some (.int .i64 yk):=by rw[cell_of_row _ _ _ _ _ _ NN.out,hyk];exact F0 y rfl
     have nc3:wn.cell? ⟨wr.heap.size,3,none⟩=some (.int .i64 yi):=by rw[cell_of_row _ _ _ _ _ _ NN.out,hyi];exact F0 y rfl
     clear hwn hgn hcn3 hyn hok hyk hyi Ok Rk Xk Vk
     go_wp2_with (first
      | ((with_reducible refine Mx 72 rfl ?_);refine Hs (E:=Hm) Jr rfl rfl ?_)
      | ((with_reducible refine Aw 72 _ rfl ?_);refine Eu (E:=Hm) Jr rfl _ rfl gn (offn+k*47) rfl curn tyn frn (Bj y) HFN.out.1 KGn.out KCn.out ?_)
      | ((with_reducible refine Bu 72 _ _ rfl ?_);refine EK (E:=Hm) Jr rfl _ _ rfl wr.heap.size (Bj y) HFN.out rfl rfl _ (Ab _ _ _ rfl) rfl _ SRn ?_;refine Ak ?_))
     unfold AA;clear SRn KGn KCn;by_cases hrel9:yk=5∨yk=6∨yk=9
     case neg=>
      have g5:(yk==5)=false:=by rw[beq_eq_false_iff_ne];exact fun e=>hrel9 (.inl e)
      have g6:(yk==6)=false:=by rw[beq_eq_false_iff_ne];exact fun e=>hrel9 (.inr (.inl e))
      have g9:(yk==9)=false:=by rw[beq_eq_false_iff_ne];exact fun e=>hrel9 (.inr (.inr e))
      have g5':(yk !=5)=true:=by rw[bne,g5];rfl
      have g6':(yk !=6)=true:=by rw[bne,g6];rfl
      have g9':(yk !=9)=true:=by rw[bne,g9];rfl
      have HNR:Hid (y.kind≠5∧y.kind≠6∧y.kind≠9):=by show _∧_∧_;rw[←HYK.out];exact⟨fun e=>hrel9 (.inl e),fun e=>hrel9 (.inr (.inl e)),fun e=>hrel9 (.inr (.inr e))⟩
      clear hrel9;go_wp2_with fail;go_roundw
      case rel=>exact⟨k+1,by omega,by go_num,by show DP _ _ _ _ _ _ _;rw[aC,HYL.out];simp only[aB, ←aD];exact ON.out.again (LF HNR.out.1 HNR.out.2.1 HNR.out.2.2).1 (LF HNR.out.1 HNR.out.2.1 HNR.out.2.2).2,RN,XN,VN⟩
      case measure=>simp[intOf];omega
     obtain⟨okA,okB,okC,okD⟩:=HOKN.out (by rw[←HYK.out];exact hrel9);obtain⟨tn,htn⟩:∃tn:Nat,y.index=(tn:Int):=⟨y.index.toNat,by have:=okA.1;omega⟩;have hcz:cam9 tn≠0:=by have:=okA.2;rw[htn,Int.toNat_natCast] at this;exact this
     have htl:tn≤i:=by
      rcases Nat.lt_or_ge i tn with h | h
      ·exact absurd (HCZ.out tn h) hcz
      ·exact h
     have HTN:Hid (y.index=(tn:Int)∧tn<80):=⟨htn,by omega⟩;have t80:(tn:Int)<80:=by omega
     have t80':tn<80:=by omega
     have ti:¬(tn:Int)>(i:Int):=by omega
     have ti':¬(i:Int)<(tn:Int):=by omega
     have t0:¬(tn:Int)<0:=by omega
     obtain⟨cz,hcz'⟩:∃cz,cz=cam9 tn:=⟨_,rfl⟩;obtain⟨c1,hc1⟩:∃c1:Int,c1=(Dz (hist++L.take k) (tn:Int):Int):=⟨_,rfl⟩;obtain⟨s1,hs1⟩:∃s1:Int,s1=(DS (hist++L.take k) (tn:Int):Int):=⟨_,rfl⟩;obtain⟨c2,hc2⟩:∃c2:Int,c2=(Dz (hist++L.take k++[y]) (tn:Int):Int):=⟨_,rfl⟩;obtain⟨s2,hs2⟩:∃s2:Int,s2=(DS (hist++L.take k++[y]) (tn:Int):Int):=⟨_,rfl⟩;have HCN:Hid (cz=cam9 tn∧c1=(Dz (hist++L.take k) (tn:Int):Int)∧s1=(DS (hist++L.take k) (tn:Int):Int)∧c2=(Dz (hist++L.take k++[y]) (tn:Int):Int)∧s2=(DS (hist++L.take k++[y]) (tn:Int):Int)):=⟨hcz',hc1,hs1,hc2,hs2⟩;have bcz:(cz==0)=false:=by rw[beq_eq_false_iff_ne,hcz'];exact hcz
     rw[htn] at okB okC okD;have c2a:c2≤1:=by omega
     have c20:0≤c2:=by omega
     have s2a:s2≤a+1:=by omega
     have s20:0≤s2:=by omega
     have c2b:¬c2>1:=by omega
     have c2b':¬1<c2:=by omega
     have s2b:¬s2>a+1:=by omega
     have s2b':¬a+1<s2:=by omega
     have HD9:Hid (yk=9→c2=0):=fun e=>by rw[hc2,okD (by rw[←HYK.out];exact e)];rfl
     obtain rfl:yi=(tn:Int):=HYI.out.trans htn;have zC:=ON.out.cellC HTN.out.2;have zO:=ON.out.cellO HTN.out.2;have zS:=ON.out.cellS HTN.out.2;rw[←hcz'] at zC;rw[←hc1] at zO;rw[←hs1] at zS;obtain⟨zC1,zC2⟩:=zC;obtain⟨zO1,zO2⟩:=zO;obtain⟨zS1,zS2⟩:=zS;clear okA okB okC okD htn hcz htl hcz' hc1 hs1 hc2 hs2;by_cases h9:yk=9
     ·have g9:(yk==9)=true:=by simpa using h9
      have g5:(yk==5)=false:=by rw[h9];decide
      have g6:(yk==6)=false:=by rw[h9];decide
      have g9':(yk !=9)=false:=by rw[bne,g9];rfl
      have g5':(yk !=5)=true:=by rw[bne,g5];rfl
      have g6':(yk !=6)=true:=by rw[bne,g6];rfl
      have HKY:Hid (y.kind=9):=HYK.out.symm.trans h9;have hc0:=HD9.out h9;have c2c:¬c2>0:=by omega
      have c2c':¬0<c2:=by omega
      have HZS:Hid (s2=s1+1):=by
       show _=_;rw[HCN.out.2.2.2.2,HCN.out.2.2.1,F8,if_pos ((GY _ _).2 ⟨HKY.out,HTN.out.1⟩)];rfl
      have hs1a:s1≤100:=by have:=HZS.out;omega
      have hs10: -100≤s1:=by have:=HZS.out;omega
      clear h9 hrel9 hc0;obtain⟨wo,hwo⟩:∃wo,wo=wn.setCell ⟨ps,tn,none⟩ (.int .i64 (s1+1)):=⟨_,rfl⟩;have RO:Hid (B7 w1 wo g gt gh gw R n0 n9 (300*i+300)):=by show B7 _ _ _ _ _ _ _ _ _ _;rw[hwo];exact B7.setInt RN.out ON.out.s _ _
      have OO:Hid (DP w1.heap.size wo pc po ps cam9 (hist++L.take k++[y])):=by show DP _ _ _ _ _ _ _;rw[hwo];exact ON.out.setS HKY.out HTN.out.1 (by rw[HCN.out.2.2.1])
      have NO:Hid (wo.heap[wr.heap.size]?=some (.cells (Bj y) 72 (0,0))):=by show _=_;rw[hwo];exact GD ON.out.s _ _ NN.out (by decide)
      have XO:Hid (wo.heap[gx]?=some (.cells (AO (x.ix (i:Int))) 41 (0,0))):=by show _=_;rw[hwo];exact GD ON.out.s _ _ XN.out (by decide)
      have VO:Hid (BJ w1.heap.size wo (.slice (some ⟨gn,offn,none⟩) ql cn) L):=by show BJ _ _ _ _;rw[hwo];exact KQ VN.out ON.out.s _ _
      have hwo':=hwo.symm;clear hwo;go_wp2_with fail;clear nc0 nc3 zC1 zC2 zO1 zO2 zS1 zS2;have d0:∀u:Am wo,u.world.cell? ⟨wr.heap.size,0,none⟩=some (.int .i64 yk):=fun u=>by rw[cell_of_row _ _ _ _ _ _ ((u.below.block _ (aA.1 NO.out).1).trans NO.out),HYK.out];exact F0 y rfl
      have d3:∀u:Am wo,u.world.cell? ⟨wr.heap.size,3,none⟩=some (.int .i64 (tn:Int)):=fun u=>by rw[cell_of_row _ _ _ _ _ _ ((u.below.block _ (aA.1 NO.out).1).trans NO.out), ←HTN.out.1];exact F0 y rfl
      have dC:∀u:Am wo,u.world.cell? ⟨pc,tn,none⟩=some (.int .i64 cz):=fun u=>by rw[HCN.out.1];exact((OO.out.below u.below).cellC HTN.out.2).1
      have dO:∀u:Am wo,u.world.cell? ⟨po,tn,none⟩=some (.int .i64 c2):=fun u=>by rw[HCN.out.2.2.2.1];exact((OO.out.below u.below).cellO HTN.out.2).1
      have dS:∀u:Am wo,u.world.cell? ⟨ps,tn,none⟩=some (.int .i64 s2):=fun u=>by rw[HCN.out.2.2.2.2];exact((OO.out.below u.below).cellS HTN.out.2).1
      have dT:∀u:Am wo,u.world.cell? ⟨w.heap.size,12,none⟩=some (.int .i64 a):=fun u=>HTA.out u.world ((RO.out.grow u.below).own.bel);have ne9:=Am.ne wo;have dg1:decide (1<c2)=false:=by simpa using c2b'
      have dg2:decide (a+1<s2)=false:=by simpa using s2b'
      have dg3:decide (0<c2)=false:=by simpa using c2c'
      refine BE (by kernel_rfl) (by kernel_rfl) ?_
      iterate 38 (go_big_quiet_step (fail))
      refine wpQuiet_nil ?_;rintro w' ⟨uL,rfl⟩;go_wp2_with fail;go_roundw
      case rel=>exact⟨k+1,by omega,by go_num,by show DP _ _ _ _ _ _ _;rw[aC,HYL.out];simp only[aB, ←aD];exact OO.out.below uL.below,RO.out.grow uL.below,(uL.below.block _ (aA.1 XO.out).1).trans XO.out,VO.out.below uL.below⟩
      case measure=>simp[intOf];omega
     ·have g9:(yk==9)=false:=by simpa using h9
      have g9':(yk !=9)=true:=by rw[bne,g9];rfl
      have HK56:Hid (y.kind=5∨y.kind=6):=by
       show _∨_;rw[←HYK.out];rcases hrel9 with e | e | e
       ·exact .inl e
       ·exact .inr e
       ·exact absurd e h9
      have HZO:Hid (c2=c1+1):=by
       show _=_;rw[HCN.out.2.2.2.1,HCN.out.2.1,Fy,if_pos ((GP _ _).2 ⟨HK56.out,HTN.out.1⟩)];rfl
      have hc1a:c1≤100:=by have:=HZO.out;omega
      have hc10: -100≤c1:=by have:=HZO.out;omega
      clear h9 hrel9;by_cases h5:yk=5
      focus
       have g5:(yk==5)=true:=by simpa using h5
       have g5':(yk !=5)=false:=by rw[bne,g5];rfl
       clear h5
      rotate_left
      focus
       have g5:(yk==5)=false:=by simpa using h5
       have g5':(yk !=5)=true:=by rw[bne,g5];rfl
       have h6:yk=6:=by
        rcases HK56.out with e | e
        ·exact absurd (HYK.out.trans e) h5
        ·exact HYK.out.trans e
       have g6:(yk==6)=true:=by simpa using h6
       have g6':(yk !=6)=false:=by rw[bne,g6];rfl
       clear h5 h6
      all_goals
       obtain⟨wo,hwo⟩:∃wo,wo=wn.setCell ⟨po,tn,none⟩ (.int .i64 (c1+1)):=⟨_,rfl⟩;have RO:Hid (B7 w1 wo g gt gh gw R n0 n9 (300*i+300)):=by show B7 _ _ _ _ _ _ _ _ _ _;rw[hwo];exact B7.setInt RN.out ON.out.o _ _
       have OO:Hid (DP w1.heap.size wo pc po ps cam9 (hist++L.take k++[y])):=by show DP _ _ _ _ _ _ _;rw[hwo];exact ON.out.setO HK56.out HTN.out.1 (by rw[HCN.out.2.1])
       have NO:Hid (wo.heap[wr.heap.size]?=some (.cells (Bj y) 72 (0,0))):=by show _=_;rw[hwo];exact GD ON.out.o _ _ NN.out (by decide)
       have XO:Hid (wo.heap[gx]?=some (.cells (AO (x.ix (i:Int))) 41 (0,0))):=by show _=_;rw[hwo];exact GD ON.out.o _ _ XN.out (by decide)
       have VO:Hid (BJ w1.heap.size wo (.slice (some ⟨gn,offn,none⟩) ql cn) L):=by show BJ _ _ _ _;rw[hwo];exact KQ VN.out ON.out.o _ _
       have hwo':=hwo.symm;clear hwo;go_wp2_with fail;clear nc0 nc3 zC1 zC2 zO1 zO2 zS1 zS2;have d0:∀u:Am wo,u.world.cell? ⟨wr.heap.size,0,none⟩=some (.int .i64 yk):=fun u=>by rw[cell_of_row _ _ _ _ _ _ ((u.below.block _ (aA.1 NO.out).1).trans NO.out),HYK.out];exact F0 y rfl
       have d3:∀u:Am wo,u.world.cell? ⟨wr.heap.size,3,none⟩=some (.int .i64 (tn:Int)):=fun u=>by rw[cell_of_row _ _ _ _ _ _ ((u.below.block _ (aA.1 NO.out).1).trans NO.out), ←HTN.out.1];exact F0 y rfl
       have dC:∀u:Am wo,u.world.cell? ⟨pc,tn,none⟩=some (.int .i64 cz):=fun u=>by rw[HCN.out.1];exact((OO.out.below u.below).cellC HTN.out.2).1
       have dO:∀u:Am wo,u.world.cell? ⟨po,tn,none⟩=some (.int .i64 c2):=fun u=>by rw[HCN.out.2.2.2.1];exact((OO.out.below u.below).cellO HTN.out.2).1
       have dS:∀u:Am wo,u.world.cell? ⟨ps,tn,none⟩=some (.int .i64 s2):=fun u=>by rw[HCN.out.2.2.2.2];exact((OO.out.below u.below).cellS HTN.out.2).1
       have dT:∀u:Am wo,u.world.cell? ⟨w.heap.size,12,none⟩=some (.int .i64 a):=fun u=>HTA.out u.world ((RO.out.grow u.below).own.bel);have ne9:=Am.ne wo;have dg1:decide (1<c2)=false:=by simpa using c2b'
       have dg2:decide (a+1<s2)=false:=by simpa using s2b'
       have dg4:(yk==9)=false:=g9;refine BE (by kernel_rfl) (by kernel_rfl) ?_
       iterate 38 (go_big_quiet_step (fail))
       refine wpQuiet_nil ?_;rintro w' ⟨uL,rfl⟩;go_wp2_with fail;go_roundw
       case rel=>exact⟨k+1,by omega,by go_num,by show DP _ _ _ _ _ _ _;rw[aC,HYL.out];simp only[aB, ←aD];exact OO.out.below uL.below,RO.out.grow uL.below,(uL.below.block _ (aA.1 XO.out).1).trans XO.out,VO.out.below uL.below⟩
       case measure=>simp[intOf];omega
    ·have hkl':¬(k:Int)<(ql:Int):=by omega
     obtain rfl:k=ql:=by omega
     have OL:Hid (DP w1.heap.size wr pc po ps cam9 (hist++L)):=by
      have:=Ok.out;rw[HQL.out,aT] at this;exact this
     have z0:=HXR.out wr Xk.out
     have HFN:Hid (DU (Ja cam9) n9.wait.tries (hist++L) (GJ n9.wait) Fm∧n9.log=[]∧∀j:Nat,i+1≤j→cam9 j=0):=by
      show _∧_∧_;rw[HN9.out.2];exact⟨HG3.out,HN9.out.1,HCZ.out⟩
     have zO:=(OL.out.cellO hlt2).1;have zS:=(OL.out.cellS hlt2).1;obtain⟨c1,hc1⟩:∃c1:Int,c1=(Dz (hist++L) (i:Int):Int):=⟨_,rfl⟩;obtain⟨s1,hs1⟩:∃s1:Int,s1=(DS (hist++L) (i:Int):Int):=⟨_,rfl⟩;rw[←hc1] at zO;rw[←hs1] at zS;have HC1:Hid (c1=(Dz (hist++L) (i:Int):Int)):=hc1;clear hc1 hs1;by_cases hc0:c1=0
     case neg=>
      have gc:(c1==0)=false:=by simpa using hc0
      clear hc0;go_wp2_with fail;go_roundw
      case rel=>exact⟨i+1,n9,cam9,hist++L,by omega,by omega,by go_num,OL,Rk,HFN⟩
      case measure=>simp[intOf];omega
     have gc:(c1==0)=true:=by simpa using hc0
     have HC0:Hid (c1=0):=hc0;clear hc0;by_cases hs0:s1=0
     case neg=>
      have gs:(s1==0)=false:=by simpa using hs0
      clear hs0;go_wp2_with fail;go_roundw
      case rel=>exact⟨i+1,n9,cam9,hist++L,by omega,by omega,by go_num,OL,Rk,HFN⟩
      case measure=>simp[intOf];omega
     have gs:(s1==0)=true:=by simpa using hs0
     clear hs0
     have hne:n9.wait.l≠[]:=by
      rw[HN9.out.2];refine HG4.out (HKD.out.symm.trans HK1.out) fun y hy hyi=> ?_;have h0:Dz (hist++L) (i:Int)=0:=by have:=HC1.out;have:=HC0.out;omega
      unfold Dz at h0;have h1:=List.length_eq_zero_iff.1 h0
      have h2:¬ZF (i:Int) y=true:=fun e=>by
       have:=List.mem_filter.2 ⟨List.mem_append_right hist hy,e⟩;rw[h1] at this;exact absurd this List.not_mem_nil
      rw[GP] at h2;exact⟨fun e=>h2 ⟨.inl e,hyi⟩,fun e=>h2 ⟨.inr e,hyi⟩⟩
     have CWt:Calls Tryz.prog 25 #[.pointer (some ⟨g,0,none⟩)] wr fun e w'=>(∃o c m,1≤m∧e=.returned (.slice o m c))∧Below wr.heap.size wr w':=by
      obtain⟨r9,hv9,hb9⟩:=Rk.out.own;refine(L3 _ _ g gt gh gw R n9 r9 hv9 Rk.out.inn.wait).mono ?_;rintro e w' ⟨⟨v,rfl,hv⟩,ho⟩;obtain⟨o,c,eu,_⟩:=hv.slice;exact⟨⟨o,c,_,List.length_pos_iff.2 hne,by rw[eu]⟩,ho⟩
     clear hne;go_wp2_with (go_at_call 25;refine CWt.mono ?_;rintro e w10 ⟨⟨o10,c10,m10,hm10,rfl⟩,hb10⟩;have B10:Hid (Below wr.heap.size wr w10):=hb10;clear hb10 CWt;refine Ak ?_);unfold AA;have gm:((m10:Int)==0)=false:=by rw[beq_eq_false_iff_ne];omega
     go_wp2_with fail;go_roundw
     case rel=>exact⟨i+1,n9,cam9,hist++L,by omega,by omega,by go_num,OL.out.below B10.out,Rk.out.grow B10.out,HFN⟩
     case measure=>simp[intOf];omega
  ·have bk1:(kd==1)=false:=by simpa using hk1
   have ecam:Pu cam x i=cam:=by unfold Pu;rw[if_neg (fun e=>hk1 (HKD.out.trans e))]
   rw[ecam] at HG2 HG3 HCZ;obtain⟨cam9,hcam9⟩:∃cam9,cam9=cam:=⟨_,rfl⟩;rw[←hcam9] at HG2 HG3 HCZ O7;clear hk1 hcam9 ecam;go_wp2_with (go_at_call 19;refine Ak ?_);unfold AA;clear x0;have CN:=A7.out.notes;rw[HG1.out] at CN;obtain⟨n9,hn9⟩:∃n9,n9={n' with log:=[]}:=⟨_,rfl⟩;have HN9:Hid (n9.log=[]∧n9.wait=n'.wait):=by show _∧_;rw[hn9];exact⟨rfl,rfl⟩
   rw[←hn9] at CN;clear hn9;go_wp2_with (go_at_call 19;refine CN.mono ?_;rintro e w9 ⟨⟨v,rfl,hv⟩,a8,k8⟩;have A9:Hid (B7 w1 w9 g gt gh gw R n0 n9 (300*i+300)):=a8;have V9:Hid (BJ w1.heap.size w9 v L):=hv;have X9:Hid (w9.heap[gx]?=some (.cells (AO (x.ix (i:Int))) 41 (0,0))):=k8.row X7.out G9;have O9:Hid (DP w1.heap.size w9 pc po ps cam9 hist):=O7.out.keptD k8;clear a8 k8 hv CN;refine Ak ?_);unfold AA;clear A7 X7 O7;obtain⟨on,cn,hvn,hcn,hcn2⟩:=V9.out.slice;obtain⟨ql,hql⟩:∃ql,ql=L.length:=⟨_,rfl⟩;rw[←hql] at hvn hcn;have HQL:Hid (ql=L.length):=hql;unfold maxLen at hcn2;subst hvn;clear hql;have O9':Hid (DP w1.heap.size w9 pc po ps cam9 (hist++L.take 0)):=by show DP _ _ _ _ _ _ _;rw[aY,aW];exact O9.out
   clear O9;go_wp2_with fail;go_loopw [17] (fun s17 W=> ∃k:Nat,k≤ql∧s17=.int .i64 (k:Int)∧Hid (DP w1.heap.size W pc po ps cam9 (hist++L.take k))∧Hid (B7 w1 W g gt gh gw R n0 n9 (300*i+300))∧Hid (W.heap[gx]?=some (.cells (AO (x.ix (i:Int))) 41 (0,0)))∧Hid (BJ w1.heap.size W (.slice on ql cn) L)) (fun s17 _=>ql-(intOf s17).toNat)
   case atStart=>exact⟨0,aL _,rfl,O9',A9,X9,V9⟩
   case round=>
    obtain⟨k,hk,rfl,Ok,Rk,Xk,Vk⟩:=hrel;clear O9' A9 X9 V9;by_cases hkl:k<ql
    ·have hkl':(k:Int)<(ql:Int):=by omega
     obtain⟨gn,offn,curn,tyn,frn,y,rfl,hgn,hcn3,hyn⟩:=Vk.out.sl.at k hkl;have HYL:Hid (L[k]?=some y):=hyn;obtain⟨wn,hwn⟩:∃wn,wn=wr.alloc (.cells (Bj y) 72):=⟨_,rfl⟩;have BN:Hid (Below wr.heap.size wr wn):=by show Below _ _ _;rw[hwn];exact(aG _ _).alloc (aH _) _
     have NN:Hid (wn.heap[wr.heap.size]?=some (.cells (Bj y) 72 (0,0))):=by show _=_;rw[hwn];exact Ab _ _ _ rfl
     have SRn:(wr.alloc (.cells (Bj FB) 72)).setRow wr.heap.size (Bj y)=wn:=by rw[hwn];exact Bo _ _ _ _ _ rfl
     have KGn:Hid (wr.heap[gn]?=some (.cells curn tyn frn)):=hgn;have KCn:Hid (∀j,j<47→curn[offn+k*47+j]?=(Bj y)[j]?):=hcn3;have HFN:Hid ((Bj y).size=47∧(Bj y).all (·.oneCell')=true):=P8 y;have ON:Hid (DP w1.heap.size wn pc po ps cam9 (hist++L.take k)):=Ok.out.below BN.out;have RN:Hid (B7 w1 wn g gt gh gw R n0 n9 (300*i+300)):=Rk.out.grow BN.out;have XN:Hid (wn.heap[gx]?=some (.cells (AO (x.ix (i:Int))) 41 (0,0))):=(BN.out.block _ (aA.1 Xk.out).1).trans Xk.out;have VN:Hid (BJ w1.heap.size wn (.slice (some ⟨gn,offn,none⟩) ql cn) L):=Vk.out.below BN.out;have hok:=Um L hist k y HG2.out hyn;rw[HTR.out] at hok;have HOKN:Hid (TL (Ja cam9) a (hist++L.take k++[y]) y):=hok;obtain⟨yk,hyk⟩:∃yk,yk=y.kind:=⟨_,rfl⟩;obtain⟨yi,hyi⟩:∃yi,yi=y.index:=⟨_,rfl⟩;have HYK:Hid (yk=y.kind):=hyk;have HYI:Hid (yi=y.index):=hyi;have nc0:wn.cell? ⟨wr.heap.size,0,none⟩=some (.int .i64 yk):=by rw[cell_of_row _ _ _ _ _ _ NN.out,hyk];exact F0 y rfl
     have nc3:wn.cell? ⟨wr.heap.size,3,none⟩=some (.int .i64 yi):=by rw[cell_of_row _ _ _ _ _ _ NN.out,hyi];exact F0 y rfl
     clear hwn hgn hcn3 hyn hok hyk hyi Ok Rk Xk Vk
     go_wp2_with (first
      | ((with_reducible refine Mx 72 rfl ?_);refine Hs (E:=Hm) Jr rfl rfl ?_)
      | ((with_reducible refine Aw 72 _ rfl ?_);refine Eu (E:=Hm) Jr rfl _ rfl gn (offn+k*47) rfl curn tyn frn (Bj y) HFN.out.1 KGn.out KCn.out ?_)
      | ((with_reducible refine Bu 72 _ _ rfl ?_);refine EK (E:=Hm) Jr rfl _ _ rfl wr.heap.size (Bj y) HFN.out rfl rfl _ (Ab _ _ _ rfl) rfl _ SRn ?_;refine Ak ?_))
     unfold AA;clear SRn KGn KCn;by_cases hrel9:yk=5∨yk=6∨yk=9
     case neg=>
      have g5:(yk==5)=false:=by rw[beq_eq_false_iff_ne];exact fun e=>hrel9 (.inl e)
      have g6:(yk==6)=false:=by rw[beq_eq_false_iff_ne];exact fun e=>hrel9 (.inr (.inl e))
      have g9:(yk==9)=false:=by rw[beq_eq_false_iff_ne];exact fun e=>hrel9 (.inr (.inr e))
      have g5':(yk !=5)=true:=by rw[bne,g5];rfl
      have g6':(yk !=6)=true:=by rw[bne,g6];rfl
      have g9':(yk !=9)=true:=by rw[bne,g9];rfl
      have HNR:Hid (y.kind≠5∧y.kind≠6∧y.kind≠9):=by show _∧_∧_;rw[←HYK.out];exact⟨fun e=>hrel9 (.inl e),fun e=>hrel9 (.inr (.inl e)),fun e=>hrel9 (.inr (.inr e))⟩
      clear hrel9;go_wp2_with fail;go_roundw
      case rel=>exact⟨k+1,by omega,by go_num,by show DP _ _ _ _ _ _ _;rw[aC,HYL.out];simp only[aB, ←aD];exact ON.out.again (LF HNR.out.1 HNR.out.2.1 HNR.out.2.2).1 (LF HNR.out.1 HNR.out.2.1 HNR.out.2.2).2,RN,XN,VN⟩
      case measure=>simp[intOf];omega
     obtain⟨okA,okB,okC,okD⟩:=HOKN.out (by rw[←HYK.out];exact hrel9);obtain⟨tn,htn⟩:∃tn:Nat,y.index=(tn:Int):=⟨y.index.toNat,by have:=okA.1;omega⟩;have hcz:cam9 tn≠0:=by have:=okA.2;rw[htn,Int.toNat_natCast] at this;exact this
     have htl:tn≤i:=by
      rcases Nat.lt_or_ge i tn with h | h
      ·exact absurd (HCZ.out tn h) hcz
      ·exact h
     have HTN:Hid (y.index=(tn:Int)∧tn<80):=⟨htn,by omega⟩;have t80:(tn:Int)<80:=by omega
     have t80':tn<80:=by omega
     have ti:¬(tn:Int)>(i:Int):=by omega
     have ti':¬(i:Int)<(tn:Int):=by omega
     have t0:¬(tn:Int)<0:=by omega
     obtain⟨cz,hcz'⟩:∃cz,cz=cam9 tn:=⟨_,rfl⟩;obtain⟨c1,hc1⟩:∃c1:Int,c1=(Dz (hist++L.take k) (tn:Int):Int):=⟨_,rfl⟩;obtain⟨s1,hs1⟩:∃s1:Int,s1=(DS (hist++L.take k) (tn:Int):Int):=⟨_,rfl⟩;obtain⟨c2,hc2⟩:∃c2:Int,c2=(Dz (hist++L.take k++[y]) (tn:Int):Int):=⟨_,rfl⟩;obtain⟨s2,hs2⟩:∃s2:Int,s2=(DS (hist++L.take k++[y]) (tn:Int):Int):=⟨_,rfl⟩;have HCN:Hid (cz=cam9 tn∧c1=(Dz (hist++L.take k) (tn:Int):Int)∧s1=(DS (hist++L.take k) (tn:Int):Int)∧c2=(Dz (hist++L.take k++[y]) (tn:Int):Int)∧s2=(DS (hist++L.take k++[y]) (tn:Int):Int)):=⟨hcz',hc1,hs1,hc2,hs2⟩;have bcz:(cz==0)=false:=by rw[beq_eq_false_iff_ne,hcz'];exact hcz
     rw[htn] at okB okC okD;have c2a:c2≤1:=by omega
     have c20:0≤c2:=by omega
     have s2a:s2≤a+1:=by omega
     have s20:0≤s2:=by omega
     have c2b:¬c2>1:=by omega
     have c2b':¬1<c2:=by omega
     have s2b:¬s2>a+1:=by omega
     have s2b':¬a+1<s2:=by omega
     have HD9:Hid (yk=9→c2=0):=fun e=>by rw[hc2,okD (by rw[←HYK.out];exact e)];rfl
     obtain rfl:yi=(tn:Int):=HYI.out.trans htn;have zC:=ON.out.cellC HTN.out.2;have zO:=ON.out.cellO HTN.out.2;have zS:=ON.out.cellS HTN.out.2;rw[←hcz'] at zC;rw[←hc1] at zO;rw[←hs1] at zS;obtain⟨zC1,zC2⟩:=zC;obtain⟨zO1,zO2⟩:=zO;obtain⟨zS1,zS2⟩:=zS;clear okA okB okC okD htn hcz htl hcz' hc1 hs1 hc2 hs2;by_cases h9:yk=9
     ·have g9:(yk==9)=true:=by simpa using h9
      have g5:(yk==5)=false:=by rw[h9];decide
      have g6:(yk==6)=false:=by rw[h9];decide
      have g9':(yk !=9)=false:=by rw[bne,g9];rfl
      have g5':(yk !=5)=true:=by rw[bne,g5];rfl
      have g6':(yk !=6)=true:=by rw[bne,g6];rfl
      have HKY:Hid (y.kind=9):=HYK.out.symm.trans h9;have hc0:=HD9.out h9;have c2c:¬c2>0:=by omega
      have c2c':¬0<c2:=by omega
      have HZS:Hid (s2=s1+1):=by
       show _=_;rw[HCN.out.2.2.2.2,HCN.out.2.2.1,F8,if_pos ((GY _ _).2 ⟨HKY.out,HTN.out.1⟩)];rfl
      have hs1a:s1≤100:=by have:=HZS.out;omega
      have hs10: -100≤s1:=by have:=HZS.out;omega
      clear h9 hrel9 hc0;obtain⟨wo,hwo⟩:∃wo,wo=wn.setCell ⟨ps,tn,none⟩ (.int .i64 (s1+1)):=⟨_,rfl⟩;have RO:Hid (B7 w1 wo g gt gh gw R n0 n9 (300*i+300)):=by show B7 _ _ _ _ _ _ _ _ _ _;rw[hwo];exact B7.setInt RN.out ON.out.s _ _
      have OO:Hid (DP w1.heap.size wo pc po ps cam9 (hist++L.take k++[y])):=by show DP _ _ _ _ _ _ _;rw[hwo];exact ON.out.setS HKY.out HTN.out.1 (by rw[HCN.out.2.2.1])
      have NO:Hid (wo.heap[wr.heap.size]?=some (.cells (Bj y) 72 (0,0))):=by show _=_;rw[hwo];exact GD ON.out.s _ _ NN.out (by decide)
      have XO:Hid (wo.heap[gx]?=some (.cells (AO (x.ix (i:Int))) 41 (0,0))):=by show _=_;rw[hwo];exact GD ON.out.s _ _ XN.out (by decide)
      have VO:Hid (BJ w1.heap.size wo (.slice (some ⟨gn,offn,none⟩) ql cn) L):=by show BJ _ _ _ _;rw[hwo];exact KQ VN.out ON.out.s _ _
      have hwo':=hwo.symm;clear hwo;go_wp2_with fail;clear nc0 nc3 zC1 zC2 zO1 zO2 zS1 zS2;have d0:∀u:Am wo,u.world.cell? ⟨wr.heap.size,0,none⟩=some (.int .i64 yk):=fun u=>by rw[cell_of_row _ _ _ _ _ _ ((u.below.block _ (aA.1 NO.out).1).trans NO.out),HYK.out];exact F0 y rfl
      have d3:∀u:Am wo,u.world.cell? ⟨wr.heap.size,3,none⟩=some (.int .i64 (tn:Int)):=fun u=>by rw[cell_of_row _ _ _ _ _ _ ((u.below.block _ (aA.1 NO.out).1).trans NO.out), ←HTN.out.1];exact F0 y rfl
      have dC:∀u:Am wo,u.world.cell? ⟨pc,tn,none⟩=some (.int .i64 cz):=fun u=>by rw[HCN.out.1];exact((OO.out.below u.below).cellC HTN.out.2).1
      have dO:∀u:Am wo,u.world.cell? ⟨po,tn,none⟩=some (.int .i64 c2):=fun u=>by rw[HCN.out.2.2.2.1];exact((OO.out.below u.below).cellO HTN.out.2).1
      have dS:∀u:Am wo,u.world.cell? ⟨ps,tn,none⟩=some (.int .i64 s2):=fun u=>by rw[HCN.out.2.2.2.2];exact((OO.out.below u.below).cellS HTN.out.2).1
      have dT:∀u:Am wo,u.world.cell? ⟨w.heap.size,12,none⟩=some (.int .i64 a):=fun u=>HTA.out u.world ((RO.out.grow u.below).own.bel);have ne9:=Am.ne wo;have dg1:decide (1<c2)=false:=by simpa using c2b'
      have dg2:decide (a+1<s2)=false:=by simpa using s2b'
      have dg3:decide (0<c2)=false:=by simpa using c2c'
      refine BE (by kernel_rfl) (by kernel_rfl) ?_
      iterate 38 (go_big_quiet_step (fail))
      refine wpQuiet_nil ?_;rintro w' ⟨uL,rfl⟩;go_wp2_with fail;go_roundw
      case rel=>exact⟨k+1,by omega,by go_num,by show DP _ _ _ _ _ _ _;rw[aC,HYL.out];simp only[aB, ←aD];exact OO.out.below uL.below,RO.out.grow uL.below,(uL.below.block _ (aA.1 XO.out).1).trans XO.out,VO.out.below uL.below⟩
      case measure=>simp[intOf];omega
     ·have g9:(yk==9)=false:=by simpa using h9
      have g9':(yk !=9)=true:=by rw[bne,g9];rfl
      have HK56:Hid (y.kind=5∨y.kind=6):=by
       show _∨_;rw[←HYK.out];rcases hrel9 with e | e | e
       ·exact .inl e
       ·exact .inr e
       ·exact absurd e h9
      have HZO:Hid (c2=c1+1):=by
       show _=_;rw[HCN.out.2.2.2.1,HCN.out.2.1,Fy,if_pos ((GP _ _).2 ⟨HK56.out,HTN.out.1⟩)];rfl
      have hc1a:c1≤100:=by have:=HZO.out;omega
      have hc10: -100≤c1:=by have:=HZO.out;omega
      clear h9 hrel9;by_cases h5:yk=5
      focus
       have g5:(yk==5)=true:=by simpa using h5
       have g5':(yk !=5)=false:=by rw[bne,g5];rfl
       clear h5
      rotate_left
      focus
       have g5:(yk==5)=false:=by simpa using h5
       have g5':(yk !=5)=true:=by rw[bne,g5];rfl
       have h6:yk=6:=by
        rcases HK56.out with e | e
        ·exact absurd (HYK.out.trans e) h5
        ·exact HYK.out.trans e
       have g6:(yk==6)=true:=by simpa using h6
       have g6':(yk !=6)=false:=by rw[bne,g6];rfl
       clear h5 h6
      all_goals
       obtain⟨wo,hwo⟩:∃wo,wo=wn.setCell ⟨po,tn,none⟩ (.int .i64 (c1+1)):=⟨_,rfl⟩;have RO:Hid (B7 w1 wo g gt gh gw R n0 n9 (300*i+300)):=by show B7 _ _ _ _ _ _ _ _ _ _;rw[hwo];exact B7.setInt RN.out ON.out.o _ _
       have OO:Hid (DP w1.heap.size wo pc po ps cam9 (hist++L.take k++[y])):=by show DP _ _ _ _ _ _ _;rw[hwo];exact ON.out.setO HK56.out HTN.out.1 (by rw[HCN.out.2.1])
       have NO:Hid (wo.heap[wr.heap.size]?=some (.cells (Bj y) 72 (0,0))):=by show _=_;rw[hwo];exact GD ON.out.o _ _ NN.out (by decide)
       have XO:Hid (wo.heap[gx]?=some (.cells (AO (x.ix (i:Int))) 41 (0,0))):=by show _=_;rw[hwo];exact GD ON.out.o _ _ XN.out (by decide)
       have VO:Hid (BJ w1.heap.size wo (.slice (some ⟨gn,offn,none⟩) ql cn) L):=by show BJ _ _ _ _;rw[hwo];exact KQ VN.out ON.out.o _ _
       have hwo':=hwo.symm;clear hwo;go_wp2_with fail;clear nc0 nc3 zC1 zC2 zO1 zO2 zS1 zS2;have d0:∀u:Am wo,u.world.cell? ⟨wr.heap.size,0,none⟩=some (.int .i64 yk):=fun u=>by rw[cell_of_row _ _ _ _ _ _ ((u.below.block _ (aA.1 NO.out).1).trans NO.out),HYK.out];exact F0 y rfl
       have d3:∀u:Am wo,u.world.cell? ⟨wr.heap.size,3,none⟩=some (.int .i64 (tn:Int)):=fun u=>by rw[cell_of_row _ _ _ _ _ _ ((u.below.block _ (aA.1 NO.out).1).trans NO.out), ←HTN.out.1];exact F0 y rfl
       have dC:∀u:Am wo,u.world.cell? ⟨pc,tn,none⟩=some (.int .i64 cz):=fun u=>by rw[HCN.out.1];exact((OO.out.below u.below).cellC HTN.out.2).1
       have dO:∀u:Am wo,u.world.cell? ⟨po,tn,none⟩=some (.int .i64 c2):=fun u=>by rw[HCN.out.2.2.2.1];exact((OO.out.below u.below).cellO HTN.out.2).1
       have dS:∀u:Am wo,u.world.cell? ⟨ps,tn,none⟩=some (.int .i64 s2):=fun u=>by rw[HCN.out.2.2.2.2];exact((OO.out.below u.below).cellS HTN.out.2).1
       have dT:∀u:Am wo,u.world.cell? ⟨w.heap.size,12,none⟩=some (.int .i64 a):=fun u=>HTA.out u.world ((RO.out.grow u.below).own.bel);have ne9:=Am.ne wo;have dg1:decide (1<c2)=false:=by simpa using c2b'
       have dg2:decide (a+1<s2)=false:=by simpa using s2b'
       have dg4:(yk==9)=false:=g9;refine BE (by kernel_rfl) (by kernel_rfl) ?_
       iterate 38 (go_big_quiet_step (fail))
       refine wpQuiet_nil ?_;rintro w' ⟨uL,rfl⟩;go_wp2_with fail;go_roundw
       case rel=>exact⟨k+1,by omega,by go_num,by show DP _ _ _ _ _ _ _;rw[aC,HYL.out];simp only[aB, ←aD];exact OO.out.below uL.below,RO.out.grow uL.below,(uL.below.block _ (aA.1 XO.out).1).trans XO.out,VO.out.below uL.below⟩
       case measure=>simp[intOf];omega
    ·have hkl':¬(k:Int)<(ql:Int):=by omega
     obtain rfl:k=ql:=by omega
     have OL:Hid (DP w1.heap.size wr pc po ps cam9 (hist++L)):=by
      have:=Ok.out;rw[HQL.out,aT] at this;exact this
     have z0:=HXR.out wr Xk.out
     have HFN:Hid (DU (Ja cam9) n9.wait.tries (hist++L) (GJ n9.wait) Fm∧n9.log=[]∧∀j:Nat,i+1≤j→cam9 j=0):=by
      show _∧_∧_;rw[HN9.out.2];exact⟨HG3.out,HN9.out.1,HCZ.out⟩
     go_wp2_with fail;go_roundw
     case rel=>exact⟨i+1,n9,cam9,hist++L,by omega,by omega,by go_num,OL,Rk,HFN⟩
     case measure=>simp[intOf];omega
end
end Go.Proofs.YtbhkoipcpcoooaaGreat
