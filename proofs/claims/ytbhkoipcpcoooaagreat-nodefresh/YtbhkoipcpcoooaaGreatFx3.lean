import Derived.Test.YtbhkoipcpcoooaaGreatJ26
import Derived.Test.YtbhkoipcpcoooaaGreatFx1
import Derived.Test.YtbhkoipcpcoooaaGreatJ9
import Derived.Test.YtbhkoipcpcoooaaGreatJ2
import Derived.Test.YtbhkoipcpcoooaaGreatJ1
import Derived.Sort.LotA
import Derived.Test.YtbhkoipcpcoooaaGreatProg
import Derived.WalkKit
import Derived.WalkSpells
import Derived.WalkLawsBesides
import Derived.BigQuiet
import Derived.KernelRfl
import Derived.Laws.StructEq
import Derived.Laws.Tables
import Derived.Laws.Rows
import Derived.StillTailTactics
import Derived.StillTail
import Derived.Test.YtbhkoipcpcoooaaGreatJ4
import Derived.Test.YtbhkoipcpcoooaaGreatJ3
import Derived.Great.BuildSlice
import Derived.Laws.AppendOwn
import Derived.Laws.OwnMore
import Derived.Maps.AppendAt
import Derived.Lib.Bytealg
import Derived.Lib.UnsafeStr
import Derived.Lib.BufferWrite
import Derived.Laws.MakeOwn
import Derived.OwnWalk
import Derived.OrdersHeld
import Derived.Laws.CopyRow
import Derived.Lib.BitFns
import Derived.WalkMore
import Derived.Test.YtbhkoipcpcoooaaGreatJ7
import Derived.Test.YtbhkoipcpcoooaaGreatJ6
import Derived.Test.YtbhkoipcpcoooaaGreatJ5
import Derived.Deep.QuietTactic
import Derived.Lib.Hide
import Derived.Lib.Walk
import Derived.Shelf.SlSortCmp.KitK
import Derived.Deep.LoopGhost
import Derived.Deep.CutRange
import Derived.Laws.AppendOwnNone
import Derived.Great.Walk
import Derived.Laws.Cover3
import Derived.Test.YtbhkoipcpcoooaaGreatJ8
import Derived.Test.YtbhkoipcpcoooaaGreatJ23
import Derived.Test.YtbhkoipcpcoooaaGreatJ10
import Derived.Test.YtbhkoipcpcoooaaGreatJ17
import Derived.Test.YtbhkoipcpcoooaaGreatJ19
import Derived.Test.YtbhkoipcpcoooaaGreatJ18
import Derived.Test.YtbhkoipcpcoooaaGreatJ16
import Derived.Test.YtbhkoipcpcoooaaGreatJ11
import Derived.BigRegion
import Derived.Deep.RegionLaw
import Derived.Shelf.RegionOpenPlain
import Derived.Test.YtbhkoipcpcoooaaGreatJ12
import Derived.Test.YtbhkoipcpcoooaaGreatJ15
import Derived.Test.YtbhkoipcpcoooaaGreatJ14
import Derived.Test.YtbhkoipcpcoooaaGreatJ13
import Derived.Laws.BytesArg
import Derived.Laws.Bits64b
import Derived.Laws.CopyOwn
import Derived.Test.YtbhkoipcpcoooaaGreatRows
import Derived.ProofKit
import Derived.OpenShut
import Derived.Carry
import Derived.Deep.Slices
import Derived.SizedLaws
import Derived.Test.YtbhkoipcpcoooaaGreatJ25
import Derived.Test.YtbhkoipcpcoooaaGreatJ24
import Derived.Test.YtbhkoipcpcoooaaGreatJ22
import Derived.Test.YtbhkoipcpcoooaaGreatJ20
import Derived.Test.YtbhkoipcpcoooaaGreatJ21
import Derived.Test.YtbhkoipcpcoooaaGreatFx2
namespace Go.Proofs.YtbhkoipcpcoooaaGreat
set_option maxRecDepth 20000
set_option maxHeartbeats 64000000
open Go
open _root_.Array renaming getElem?_eq_some_iff → aA
open Go.Proofs.Tryz renaming prog → aB
open _root_.List renaming mem_of_getElem? → aC, nil_append → aG
open _root_.Nat renaming zero_le → aD
section
open Go.RowKit
theorem VT(w:World)(num inc:Int)(s:IP)(va:Value)(l:List CJ)(hl:Ee Fj AO w va l):Calls aB 5 #[.int .i64 num,.int .i64 inc,.agg (Ci s),va] w fun e w'=>e=.returned (.bool true)∧Below w.heap.size w w':=by
 obtain⟨oA,cA,hva,hcA,hcA2⟩:=hl.slice;obtain⟨q,hq⟩:∃q,q=l.length:=⟨_,rfl⟩;rw[←hq] at hva hcA;have HL:Hid (∀W,Below w.heap.size w W→Ee Fj AO W va l):=fun W hb=>hl.below hb;have HQ:Hid (q=l.length):=hq;unfold maxLen at hcA2;clear hl hq;subst hva;obtain⟨w0,hw0⟩:∃w0,w0=w.alloc (.cells (Ci s) 24):=⟨_,rfl⟩;have Z0:Hid (w0.heap[w.heap.size]?=some (.cells (Ci s) 24 (0,0))):=by show _=_;rw[hw0];exact Ab _ _ _ rfl
 have B0:Hid (Below w.heap.size w w0):=by show Below _ _ _;rw[hw0];exact(Below.refl _ _).alloc (Nat.le_refl _) _
 have HW:=LG w0;have hw0':=hw0.symm;clear hw0;by_cases hnew:Lz s num inc
 case neg=>
  have HN:Hid (∀W,Calls aB 10 #[.int .i64 num,.int .i64 inc,.agg (Ci s)] W fun e w'=>e=.returned (.tuple #[.pointer none,.int .i64 1])∧Below W.heap.size W w'):=fun W=>OX s num inc hnew W;clear hnew;go_enter Tryz.func5,Tryz.ntmps5;go_wp2_with (go_at_call 9;refine HW.mono ?_;rintro e w1 ⟨rfl,hb1⟩;have B1:Hid (Below w0.heap.size w0 w1):=hb1;clear hb1 HW hw0';refine Ak ?_);unfold AA;have Z1:Hid (w1.heap[w.heap.size]?=some (.cells (Ci s) 24 (0,0))):=(B1.out.block _ (aA.1 Z0.out).1).trans Z0.out;have CN:=HN.out w1
  go_wp2_with (first
   | ((with_reducible refine Aw 24 _ rfl ?_);refine AH IG rfl _ rfl w.heap.size 0 rfl _ _ _ (Ci s) rfl Z1.out (Ar _ _) ?_)
   | (go_at_call 10;refine CN.mono ?_;rintro e w2 ⟨rfl,hb2⟩))
  go_ret;have x1:=B0.out.trans (B1.out.mono B0.out.size);exact⟨rfl,x1.trans (hb2.mono x1.size)⟩
 obtain⟨R,n0,HD0⟩:∃R n0,Hid (R=KK s.ca s.ro s.pa s.idl s.hd∧n0=NW num inc s.le s.be s.ca (⟨[],[],[]⟩:Aq) ⟨s.wa,s.tr,s.ti,[],0⟩):=⟨_,_,rfl,rfl⟩;have HN:Hid (∀W,Calls aB 10 #[.int .i64 num,.int .i64 inc,.agg (Ci s)] W fun e w'=> ∃g gt gh gw,e=.returned (.tuple #[.pointer (some ⟨g,0,none⟩),.int .i64 0])∧DA W w' g gt gh gw R n0):=fun W=>by rw[HD0.out.1,HD0.out.2];exact LQ s num inc hnew W
 have HI0:Hid (Az 0 R n0):=by show Az _ _ _;rw[HD0.out.1,HD0.out.2];exact Ot hnew
 have HB0:Hid (1≤n0.beat):=by show 1≤_;rw[HD0.out.2];exact(Io hnew.1).2.2
 have HOK:Hid (Lz s num inc):=hnew;clear hnew;go_enter Tryz.func5,Tryz.ntmps5;go_wp2_with (go_at_call 9;refine HW.mono ?_;rintro e w1 ⟨rfl,hb1⟩;have B1:Hid (Below w0.heap.size w0 w1):=hb1;clear hb1 HW hw0';refine Ak ?_);unfold AA;have Z1:Hid (w1.heap[w.heap.size]?=some (.cells (Ci s) 24 (0,0))):=(B1.out.block _ (aA.1 Z0.out).1).trans Z0.out;have HBW:Hid (Below w.heap.size w w1):=B0.out.trans (B1.out.mono B0.out.size);have HZ:Hid (∀W,Below w1.heap.size w1 W→W.heap[w.heap.size]?=some (.cells (Ci s) 24 (0,0))):=fun W hW=>(hW.block _ (aA.1 Z1.out).1).trans Z1.out;have CN:=HN.out w1
 go_wp2_with (first
  | ((with_reducible refine Aw 24 _ rfl ?_);refine AH IG rfl _ rfl w.heap.size 0 rfl _ _ _ (Ci s) rfl Z1.out (Ar _ _) ?_)
  | (go_at_call 10;refine CN.mono ?_;rintro e w2 ⟨g,gt,gh,gw,rfl,a2⟩;have A2:Hid (DA w1 w2 g gt gh gw R n0):=a2;clear a2 CN HN;refine Ak ?_))
 unfold AA;clear B0 Z0 B1;have HL0:Hid (n0.hold.life=inc):=by show _=_;rw[HD0.out.2];rfl
 have HF0:Hid (Gb (Al R) n0∧n0.log=[]):=by
  show _∧_;rw[HD0.out.2];exact⟨Ajc _ _ _ _ _ _ _ rfl,rfl⟩
 have H0:Hid (B7 w1 w2 g gt gh gw R n0 n0 0):=⟨A2.out,HI0.out,II.refl _,JS.refl _⟩;clear A2 HD0;go_wp2_with fail;go_loopw [11] (fun s11 wr=> ∃(i:Nat) (n:Af Aq),i≤q∧i≤80∧s11=.int .i64 (i:Int)∧Hid (B7 w1 wr g gt gh gw R n0 n (300*i))∧Hid (Gb (Al R) n∧n.log=[])) (fun s11 _=>80-(intOf s11).toNat)
 case atStart=>exact⟨0,n0,aD _,aD _,rfl,H0,HF0⟩
 case round=>
  obtain⟨i,n,hi,hi80,rfl,HR,HF⟩:=hrel;have HBr:Hid (Below w.heap.size w wr):=HBW.out.trans (HR.out.own.bel.mono HBW.out.size);clear H0 HF0;by_cases hlt:i<q
  case neg=>
   have hlt':¬(i:Int)<(q:Int):=by omega
   go_wp2_with fail;go_ret;exact⟨rfl,HBr.out⟩
  have hlt':(i:Int)<(q:Int):=by omega
  by_cases hlt2:i<80
  case neg=>
   have hlt2':¬(i:Int)<80:=by omega
   go_wp2_with fail;go_ret;exact⟨rfl,HBr.out⟩
  have hlt2':(i:Int)<80:=by omega
  obtain⟨ga,offa,cura,tya,fra,x,rfl,hga,hcca,hxa⟩:=(HL.out wr HBr.out).at i hlt;have HXA:Hid (l[i]?=some x):=hxa;obtain⟨wx,hwx⟩:∃wx,wx=wr.alloc (.cells (AO x) 41):=⟨_,rfl⟩;have BX:Hid (Below wr.heap.size wr wx):=by show Below _ _ _;rw[hwx];exact(Below.refl _ _).alloc (Nat.le_refl _) _
  have Ax:wx.heap[wr.heap.size]?=some (.cells (AO x) 41 (0,0)):=by rw[hwx];exact Ab _ _ _ rfl
  have SRx:(wr.alloc (.cells (AO Lj) 41)).setRow wr.heap.size (AO x)=wx:=by rw[hwx];exact Bo _ _ _ _ _ rfl
  have KGa:Hid (wr.heap[ga]?=some (.cells cura tya fra)):=hga;have KCa:Hid (∀j,j<71→cura[offa+i*71+j]?=(AO x)[j]?):=hcca;have KS:Hid ((AO x).size=71∧(AO x).all (·.oneCell')=true):=⟨Hk x,Pz x⟩;clear hxa hwx hga hcca
  go_wp2_with (first
   | ((with_reducible refine Mx 41 rfl ?_);refine Hs (E:=Fj) Hq rfl rfl ?_)
   | ((with_reducible refine Aw 41 _ rfl ?_);refine Eu (E:=Fj) Hq rfl _ rfl ga (offa+i*71) rfl cura tya fra (AO x) KS.out.1 KGa.out KCa.out ?_)
   | ((with_reducible refine Bu 41 _ _ rfl ?_);refine EK (E:=Fj) Hq rfl _ _ rfl wr.heap.size (AO x) KS.out rfl rfl _ (Ab _ _ _ rfl) rfl _ SRx ?_;refine Ak ?_))
  unfold AA;clear SRx KGa KCa;have CB:=NY x wx
  go_wp2_with (first
   | ((with_reducible refine Aw 41 _ rfl ?_);refine AH JI rfl _ rfl wr.heap.size 0 rfl _ _ _ (AO x) KS.out.1 Ax (Ar _ _) ?_)
   | (go_at_call 15;refine CB.mono ?_;rintro e w3 ⟨rfl,hb3⟩;have B3:Hid (Below wx.heap.size wx w3):=hb3;clear hb3 CB;refine Ak ?_))
  unfold AA;obtain⟨cap,w4,hcv,hb4,hbs⟩:=Agf w3 (Dw x) (Lc x);have CDec:=SM _ _ w4 hbs (Lc x);have B4:Hid (Below wx.heap.size wx w4):=B3.out.trans (hb4.mono B3.out.size);unfold Yq at CDec;obtain⟨md,hmd⟩:∃md,md=(GG (Dw x)).1:=⟨_,rfl⟩;obtain⟨er,her⟩:∃er,er=(GG (Dw x)).2:=⟨_,rfl⟩;rw[←hmd, ←her] at CDec
  have HMD:Hid (BB md∧(∀m,DQ (Dw x)=some m→er=0∧md=m)∧(er=0→DQ (Dw x)=some md)):=by
   show _∧_∧_;rw[hmd,her];exact XR _
  clear hb4 hbs B3 hmd her;have HFM:Hid ((Ae md).size=53∧(Ae md).all (·.oneCell')=true):=CY HMD.out.1;have MK:Hid ((Ae md)[0]?=some (.int .i64 md.kind)):=DB md;have MI:Hid (∀j,j<13→(Ae md)[j+1]?=some (.int .i64 (Ad md j))):=fun j hj=>BK HMD.out.1 j hj;go_wp2_with (go_at_call 30;refine CDec.mono ?_;rintro e w5 ⟨rfl,hb5⟩;have B5:Hid (Below wx.heap.size wx w5):=B4.out.trans (hb5.mono B4.out.size);clear hb5 CDec hcv B4;refine Ak ?_);unfold AA;have N0:Hid ((w5.alloc (.cells Ao 39)).heap[w5.heap.size]?=some (.cells Ao 39 (0,0))):=Ab _ _ _ rfl;obtain⟨w6,hw6⟩:∃w6,w6=(w5.alloc (.cells Ao 39)).setRow w5.heap.size (Ae md):=⟨_,rfl⟩;have hw6':(w5.alloc (.cells Ao 39)).setRow w5.heap.size (Ae md)=w6:=hw6.symm;have M6:w6.heap[w5.heap.size]?=some (.cells (Ae md) 39 (0,0)):=by rw[hw6];exact setRow_heap _ _ _ _ _ _ N0.out
  have B6:Hid (Below wx.heap.size wx w6):=by show Below _ _ _;rw[hw6];exact Aj (B5.out.alloc B5.out.size _) B5.out.size _
  have X6:w6.heap[wr.heap.size]?=some (.cells (AO x) 41 (0,0)):=(B6.out.block _ (aA.1 Ax).1).trans Ax;have SRm:Hid ((w5.alloc (.cells Ao 39)).setRow w5.heap.size (Ae md)=w6):=hw6.symm;clear hw6 hw6';go_wp2_with ((with_reducible refine Bu 39 _ _ rfl ?_);refine BP BD rfl _ _ rfl w5.heap.size (Ae md) HFM.out rfl rfl _ N0.out rfl _ SRm.out ?_;refine Ak ?_);unfold AA;clear N0 SRm;obtain⟨gm,hgm⟩:∃gm,gm=w5.heap.size:=⟨_,rfl⟩;rw[←hgm] at M6 ⊢;obtain⟨gx,hgx⟩:∃gx,gx=wr.heap.size:=⟨_,rfl⟩;rw[←hgx] at X6 Ax ⊢;have HGX:Hid (gx=wr.heap.size):=hgx;have HGM:Hid (gm=w5.heap.size):=hgm;clear hgm hgx;have R6:=HR.out.grow ((BX.out).trans (B6.out.mono BX.out.size));have HR6:Hid (B7 w1 w6 g gt gh gw R n0 n (300*i)):=R6;have HM6:Hid (w6.heap[gm]?=some (.cells (Ae md) 39 (0,0))):=M6;have HX6:Hid (w6.heap[gx]?=some (.cells (AO x) 41 (0,0))):=X6;clear R6 B5 B6 BX Ax HR;obtain⟨kd,hkd⟩:∃kd,kd=x.kind:=⟨_,rfl⟩;obtain⟨mk,hmk⟩:∃mk,mk=md.kind:=⟨_,rfl⟩;obtain⟨mi,hmi⟩:∃mi,mi=Ad md 0:=⟨_,rfl⟩;obtain⟨xn,hxn⟩:∃xn,xn=x.now:=⟨_,rfl⟩;have HKD:Hid (kd=x.kind∧mk=md.kind∧mi=Ad md 0∧xn=x.now):=⟨hkd,hmk,hmi,hxn⟩;have y0:w6.cell? ⟨gx,0,none⟩=some (.int .i64 kd):=by rw[cell_of_row _ _ _ _ _ _ X6,TE,hkd]
  have m0:w6.cell? ⟨gm,0,none⟩=some (.int .i64 mk):=by rw[cell_of_row _ _ _ _ _ _ M6,hmk];exact MK.out
  have m1:w6.cell? ⟨gm,1,none⟩=some (.int .i64 mi):=by rw[cell_of_row _ _ _ _ _ _ M6,hmi];exact MI.out 0 (by decide)
  clear hkd hmk hmi hxn X6 M6 MK MI;by_cases ekd:kd=2
  case neg=>
   have bkd:(kd==2)=false:=by simpa using ekd
   have HNE:Hid (¬kd=2):=ekd;have HC:Hid (x.kind=2→∀m,DQ (Dw x)=some m→m.kind=3→Ad m 0≠n.hold.life):=fun h=>absurd (HKD.out.1.trans h) HNE.out;clear ekd;have CD:=HR6.out.does HB0.out (by omega) x;obtain⟨hf1,hf2⟩:=Pq HF.out.1 x HC.out;have HF2:Hid (Gb (Al R) (Fq R n x)):=hf1
   have HL2:Hid (∀y∈(Fq R n x).log,Ou y):=by
    obtain⟨lg,e1,e2⟩:=hf2;show∀y∈_,_;rw[e1,HF.out.2,aG];exact e2
   clear hf1 hf2;obtain⟨n',hn'⟩:∃n',n'=Fq R n x:=⟨_,rfl⟩;rw[←hn'] at CD HF2 HL2;clear hn';have X6:=HX6.out
   go_wp2_with (first
    | ((with_reducible refine Aw 41 _ rfl ?_);refine AH JI rfl _ rfl gx 0 rfl _ _ _ (AO x) KS.out.1 X6 (Ar _ _) ?_)
    | (go_at_call 12;refine CD.mono ?_;rintro e w7 ⟨rfl,a7,k7⟩;have A7:Hid (B7 w1 w7 g gt gh gw R n0 n' (300*i+300)):=a7;have X7:Hid (w7.heap[gx]?=some (.cells (AO x) 41 (0,0))):=k7.row HX6.out G9;clear a7 k7 CD X6;refine Ak ?_))
   unfold AA;clear y0 m0 m1 HR6 HM6 HX6 HC HF HMD HFM;have CN:=A7.out.notes;obtain⟨L,hL⟩:∃L,L=n'.log:=⟨_,rfl⟩;rw[←hL] at CN HL2;clear hL;go_wp2_with (go_at_call 19;refine CN.mono ?_;rintro e w8 ⟨⟨v,rfl,hv⟩,a8,k8⟩;have A8:Hid (B7 w1 w8 g gt gh gw R n0 {n' with log:=[]} (300*i+300)):=a8;have V8:Hid (Ee Hm Bj w8 v L):=hv.sl;have X8:Hid (w8.heap[gx]?=some (.cells (AO x) 41 (0,0))):=k8.row X7.out G9;clear a8 k8 hv CN A7 X7;refine Ak ?_);unfold AA;obtain⟨on,cn,hvn,hcn,hcn2⟩:=V8.out.slice;obtain⟨ql,hql⟩:∃ql,ql=L.length:=⟨_,rfl⟩;rw[←hql] at hvn hcn;have HQL:Hid (ql=L.length):=hql;unfold maxLen at hcn2;subst hvn;clear hql;have HF3:Hid (Gb (Al R) {n' with log:=[]}):=HF2.out;obtain⟨n9,hn9⟩:∃n9,n9={n' with log:=[]}:=⟨_,rfl⟩;have HN9:Hid (n9.log=[]):=by show _=_;rw[hn9]
   rw[←hn9] at A8 HF3;clear hn9 HF2;go_wp2_with fail;go_loopw [16] (fun s16 W=> ∃k:Nat,k≤ql∧s16=.int .i64 (k:Int)∧Hid (W=w8)) (fun s16 _=>ql-(intOf s16).toNat)
   case atStart=>exact⟨0,aD _,rfl,by first | exact rfl | exact trivial⟩
   case round=>
    obtain⟨k,hk,rfl,HW8⟩:=hrel;obtain rfl:=HW8.out;by_cases hkl:k<ql
    ·have hkl':(k:Int)<(ql:Int):=by omega
     obtain⟨gn,offn,curn,tyn,frn,y,rfl,hgn,hcn3,hyn⟩:=V8.out.at k hkl;have c5:wr.cell? ⟨gn,offn+k*47,none⟩=some (.int .i64 y.kind):=LP (k:=0) hgn hcn3 (by decide) rfl;obtain⟨f1,f2,f3,f4⟩:=NC (HL2.out y (aC hyn));obtain⟨yk,hyk⟩:∃yk,yk=y.kind:=⟨_,rfl⟩;rw[←hyk] at c5 f1 f2 f3 f4;clear hgn hcn3 hyn hyk;go_wp2_with fail;go_roundw
     case rel=>exact⟨k+1,by omega,by go_num,by first | exact rfl | exact trivial⟩
     case measure=>simp[intOf];omega
    ·have hkl':¬(k:Int)<(ql:Int):=by omega
     have CS:=Fl A8.out.own A8.out.inn xn;have x3:wr.cell? ⟨gx,3,none⟩=some (.int .i64 xn):=by rw[cell_of_row _ _ _ _ _ _ X8.out,Gw,HKD.out.2.2.2]
     have hz:=Hh HF3.out
     have CS1:Calls aB 22 #[.pointer (some ⟨g,0,none⟩),.int .i64 xn] wr fun e w'=>(∃a b c d n2 n3 n4 n5,e=.returned (.agg #[.bool true,.int .i64 a,.int .i64 0,.bool b,.int .i64 c,.int .i64 d,.int .i64 0,.int .i64 n2,.int .i64 n3,.int .i64 n4,.int .i64 n5]))∧Below wr.heap.size wr w':=by
      refine CS.mono fun e w' q=>⟨?_,q.2⟩;rw[q.1];unfold KD Ix;rw[hz.1,hz.2];exact⟨_,_,_,_,_,_,_,_,rfl⟩
     clear CS hz;go_wp2_with (go_at_call 22;refine CS1.mono ?_;rintro e w9 ⟨⟨a1,a2,a3,a4,a5,a6,a7,a8,rfl⟩,hb9⟩;have B9:Hid (Below wr.heap.size wr w9):=hb9;have R9:Hid (B7 w1 w9 g gt gh gw R n0 n9 (300*i+300)):=A8.out.grow hb9;have X9:w9.cell? ⟨gx,3,none⟩=some (.int .i64 xn):=(by rw[cell_of_row _ _ _ _ _ _ ((hb9.block _ (aA.1 X8.out).1).trans X8.out),Gw,HKD.out.2.2.2]);clear hb9 CS1;refine Ak ?_);unfold AA;have CS:=Fl R9.out.own R9.out.inn xn;have hz:=Hh HF3.out
     have CS1:Calls aB 22 #[.pointer (some ⟨g,0,none⟩),.int .i64 xn] w9 fun e w'=>(∃a b c d n2 n3 n4 n5,e=.returned (.agg #[.bool true,.int .i64 a,.int .i64 0,.bool b,.int .i64 c,.int .i64 d,.int .i64 0,.int .i64 n2,.int .i64 n3,.int .i64 n4,.int .i64 n5]))∧Below w9.heap.size w9 w':=by
      refine CS.mono fun e w' q=>⟨?_,q.2⟩;rw[q.1];unfold KD Ix;rw[hz.1,hz.2];exact⟨_,_,_,_,_,_,_,_,rfl⟩
     clear CS hz
     go_wp2_with (first
      | (refine Gy rfl 59 _ 2 rfl _ (.int .i64 0) rfl (Oe _ _ _ _ _ _ _ _ _ _) ?_)
      | (refine Gy rfl 59 _ 6 rfl _ (.int .i64 0) rfl (QG _ _ _ _ _ _ _ _ _ _) ?_)
      | (go_at_call 22;refine CS1.mono ?_;rintro e w10 ⟨⟨b1,b2,b3,b4,b5,b6,b7,b8,rfl⟩,hb10⟩;have R10:Hid (B7 w1 w10 g gt gh gw R n0 n9 (300*i+300)):=R9.out.grow hb10;clear hb10 CS1))
     go_roundw
     case rel=>exact⟨i+1,n9,by omega,by omega,by go_num,R10,HF3.out,HN9.out⟩
     case measure=>simp[intOf];omega
  have bkd:(kd==2)=true:=by simpa using ekd
  clear ekd;by_cases eer:er=0
  case neg=>
   have ber:(er==0)=false:=by simpa using eer
   have HNE:Hid (¬er=0):=eer;have HC:Hid (x.kind=2→∀m,DQ (Dw x)=some m→m.kind=3→Ad m 0≠n.hold.life):=fun _ m hm=>absurd (HMD.out.2.1 m hm).1 HNE.out;clear eer;have CD:=HR6.out.does HB0.out (by omega) x;obtain⟨hf1,hf2⟩:=Pq HF.out.1 x HC.out;have HF2:Hid (Gb (Al R) (Fq R n x)):=hf1
   have HL2:Hid (∀y∈(Fq R n x).log,Ou y):=by
    obtain⟨lg,e1,e2⟩:=hf2;show∀y∈_,_;rw[e1,HF.out.2,aG];exact e2
   clear hf1 hf2;obtain⟨n',hn'⟩:∃n',n'=Fq R n x:=⟨_,rfl⟩;rw[←hn'] at CD HF2 HL2;clear hn';have X6:=HX6.out
   go_wp2_with (first
    | ((with_reducible refine Aw 41 _ rfl ?_);refine AH JI rfl _ rfl gx 0 rfl _ _ _ (AO x) KS.out.1 X6 (Ar _ _) ?_)
    | (go_at_call 12;refine CD.mono ?_;rintro e w7 ⟨rfl,a7,k7⟩;have A7:Hid (B7 w1 w7 g gt gh gw R n0 n' (300*i+300)):=a7;have X7:Hid (w7.heap[gx]?=some (.cells (AO x) 41 (0,0))):=k7.row HX6.out G9;clear a7 k7 CD X6;refine Ak ?_))
   unfold AA;clear y0 m0 m1 HR6 HM6 HX6 HC HF HMD HFM;have CN:=A7.out.notes;obtain⟨L,hL⟩:∃L,L=n'.log:=⟨_,rfl⟩;rw[←hL] at CN HL2;clear hL;go_wp2_with (go_at_call 19;refine CN.mono ?_;rintro e w8 ⟨⟨v,rfl,hv⟩,a8,k8⟩;have A8:Hid (B7 w1 w8 g gt gh gw R n0 {n' with log:=[]} (300*i+300)):=a8;have V8:Hid (Ee Hm Bj w8 v L):=hv.sl;have X8:Hid (w8.heap[gx]?=some (.cells (AO x) 41 (0,0))):=k8.row X7.out G9;clear a8 k8 hv CN A7 X7;refine Ak ?_);unfold AA;obtain⟨on,cn,hvn,hcn,hcn2⟩:=V8.out.slice;obtain⟨ql,hql⟩:∃ql,ql=L.length:=⟨_,rfl⟩;rw[←hql] at hvn hcn;have HQL:Hid (ql=L.length):=hql;unfold maxLen at hcn2;subst hvn;clear hql;have HF3:Hid (Gb (Al R) {n' with log:=[]}):=HF2.out;obtain⟨n9,hn9⟩:∃n9,n9={n' with log:=[]}:=⟨_,rfl⟩;have HN9:Hid (n9.log=[]):=by show _=_;rw[hn9]
   rw[←hn9] at A8 HF3;clear hn9 HF2;go_wp2_with fail;go_loopw [16] (fun s16 W=> ∃k:Nat,k≤ql∧s16=.int .i64 (k:Int)∧Hid (W=w8)) (fun s16 _=>ql-(intOf s16).toNat)
   case atStart=>exact⟨0,aD _,rfl,by first | exact rfl | exact trivial⟩
   case round=>
    obtain⟨k,hk,rfl,HW8⟩:=hrel;obtain rfl:=HW8.out;by_cases hkl:k<ql
    ·have hkl':(k:Int)<(ql:Int):=by omega
     obtain⟨gn,offn,curn,tyn,frn,y,rfl,hgn,hcn3,hyn⟩:=V8.out.at k hkl;have c5:wr.cell? ⟨gn,offn+k*47,none⟩=some (.int .i64 y.kind):=LP (k:=0) hgn hcn3 (by decide) rfl;obtain⟨f1,f2,f3,f4⟩:=NC (HL2.out y (aC hyn));obtain⟨yk,hyk⟩:∃yk,yk=y.kind:=⟨_,rfl⟩;rw[←hyk] at c5 f1 f2 f3 f4;clear hgn hcn3 hyn hyk;go_wp2_with fail;go_roundw
     case rel=>exact⟨k+1,by omega,by go_num,by first | exact rfl | exact trivial⟩
     case measure=>simp[intOf];omega
    ·have hkl':¬(k:Int)<(ql:Int):=by omega
     have CS:=Fl A8.out.own A8.out.inn xn;have x3:wr.cell? ⟨gx,3,none⟩=some (.int .i64 xn):=by rw[cell_of_row _ _ _ _ _ _ X8.out,Gw,HKD.out.2.2.2]
     have hz:=Hh HF3.out
     have CS1:Calls aB 22 #[.pointer (some ⟨g,0,none⟩),.int .i64 xn] wr fun e w'=>(∃a b c d n2 n3 n4 n5,e=.returned (.agg #[.bool true,.int .i64 a,.int .i64 0,.bool b,.int .i64 c,.int .i64 d,.int .i64 0,.int .i64 n2,.int .i64 n3,.int .i64 n4,.int .i64 n5]))∧Below wr.heap.size wr w':=by
      refine CS.mono fun e w' q=>⟨?_,q.2⟩;rw[q.1];unfold KD Ix;rw[hz.1,hz.2];exact⟨_,_,_,_,_,_,_,_,rfl⟩
     clear CS hz;go_wp2_with (go_at_call 22;refine CS1.mono ?_;rintro e w9 ⟨⟨a1,a2,a3,a4,a5,a6,a7,a8,rfl⟩,hb9⟩;have B9:Hid (Below wr.heap.size wr w9):=hb9;have R9:Hid (B7 w1 w9 g gt gh gw R n0 n9 (300*i+300)):=A8.out.grow hb9;have X9:w9.cell? ⟨gx,3,none⟩=some (.int .i64 xn):=(by rw[cell_of_row _ _ _ _ _ _ ((hb9.block _ (aA.1 X8.out).1).trans X8.out),Gw,HKD.out.2.2.2]);clear hb9 CS1;refine Ak ?_);unfold AA;have CS:=Fl R9.out.own R9.out.inn xn;have hz:=Hh HF3.out
     have CS1:Calls aB 22 #[.pointer (some ⟨g,0,none⟩),.int .i64 xn] w9 fun e w'=>(∃a b c d n2 n3 n4 n5,e=.returned (.agg #[.bool true,.int .i64 a,.int .i64 0,.bool b,.int .i64 c,.int .i64 d,.int .i64 0,.int .i64 n2,.int .i64 n3,.int .i64 n4,.int .i64 n5]))∧Below w9.heap.size w9 w':=by
      refine CS.mono fun e w' q=>⟨?_,q.2⟩;rw[q.1];unfold KD Ix;rw[hz.1,hz.2];exact⟨_,_,_,_,_,_,_,_,rfl⟩
     clear CS hz
     go_wp2_with (first
      | (refine Gy rfl 59 _ 2 rfl _ (.int .i64 0) rfl (Oe _ _ _ _ _ _ _ _ _ _) ?_)
      | (refine Gy rfl 59 _ 6 rfl _ (.int .i64 0) rfl (QG _ _ _ _ _ _ _ _ _ _) ?_)
      | (go_at_call 22;refine CS1.mono ?_;rintro e w10 ⟨⟨b1,b2,b3,b4,b5,b6,b7,b8,rfl⟩,hb10⟩;have R10:Hid (B7 w1 w10 g gt gh gw R n0 n9 (300*i+300)):=R9.out.grow hb10;clear hb10 CS1))
     go_roundw
     case rel=>exact⟨i+1,n9,by omega,by omega,by go_num,R10,HF3.out,HN9.out⟩
     case measure=>simp[intOf];omega
  have ber:(er==0)=true:=by simpa using eer
  clear eer;by_cases emk:mk=3
  case neg=>
   have bmk:(mk==3)=false:=by simpa using emk
   have HNE:Hid (¬mk=3):=emk;have HC:Hid (x.kind=2→∀m,DQ (Dw x)=some m→m.kind=3→Ad m 0≠n.hold.life):=fun _ m hm h3=>absurd (HKD.out.2.1.trans (by rw[(HMD.out.2.1 m hm).2];exact h3)) HNE.out;clear emk;have CD:=HR6.out.does HB0.out (by omega) x;obtain⟨hf1,hf2⟩:=Pq HF.out.1 x HC.out;have HF2:Hid (Gb (Al R) (Fq R n x)):=hf1
   have HL2:Hid (∀y∈(Fq R n x).log,Ou y):=by
    obtain⟨lg,e1,e2⟩:=hf2;show∀y∈_,_;rw[e1,HF.out.2,aG];exact e2
   clear hf1 hf2;obtain⟨n',hn'⟩:∃n',n'=Fq R n x:=⟨_,rfl⟩;rw[←hn'] at CD HF2 HL2;clear hn';have X6:=HX6.out
   go_wp2_with (first
    | ((with_reducible refine Aw 41 _ rfl ?_);refine AH JI rfl _ rfl gx 0 rfl _ _ _ (AO x) KS.out.1 X6 (Ar _ _) ?_)
    | (go_at_call 12;refine CD.mono ?_;rintro e w7 ⟨rfl,a7,k7⟩;have A7:Hid (B7 w1 w7 g gt gh gw R n0 n' (300*i+300)):=a7;have X7:Hid (w7.heap[gx]?=some (.cells (AO x) 41 (0,0))):=k7.row HX6.out G9;clear a7 k7 CD X6;refine Ak ?_))
   unfold AA;clear y0 m0 m1 HR6 HM6 HX6 HC HF HMD HFM;have CN:=A7.out.notes;obtain⟨L,hL⟩:∃L,L=n'.log:=⟨_,rfl⟩;rw[←hL] at CN HL2;clear hL;go_wp2_with (go_at_call 19;refine CN.mono ?_;rintro e w8 ⟨⟨v,rfl,hv⟩,a8,k8⟩;have A8:Hid (B7 w1 w8 g gt gh gw R n0 {n' with log:=[]} (300*i+300)):=a8;have V8:Hid (Ee Hm Bj w8 v L):=hv.sl;have X8:Hid (w8.heap[gx]?=some (.cells (AO x) 41 (0,0))):=k8.row X7.out G9;clear a8 k8 hv CN A7 X7;refine Ak ?_);unfold AA;obtain⟨on,cn,hvn,hcn,hcn2⟩:=V8.out.slice;obtain⟨ql,hql⟩:∃ql,ql=L.length:=⟨_,rfl⟩;rw[←hql] at hvn hcn;have HQL:Hid (ql=L.length):=hql;unfold maxLen at hcn2;subst hvn;clear hql;have HF3:Hid (Gb (Al R) {n' with log:=[]}):=HF2.out;obtain⟨n9,hn9⟩:∃n9,n9={n' with log:=[]}:=⟨_,rfl⟩;have HN9:Hid (n9.log=[]):=by show _=_;rw[hn9]
   rw[←hn9] at A8 HF3;clear hn9 HF2;go_wp2_with fail;go_loopw [16] (fun s16 W=> ∃k:Nat,k≤ql∧s16=.int .i64 (k:Int)∧Hid (W=w8)) (fun s16 _=>ql-(intOf s16).toNat)
   case atStart=>exact⟨0,aD _,rfl,by first | exact rfl | exact trivial⟩
   case round=>
    obtain⟨k,hk,rfl,HW8⟩:=hrel;obtain rfl:=HW8.out;by_cases hkl:k<ql
    ·have hkl':(k:Int)<(ql:Int):=by omega
     obtain⟨gn,offn,curn,tyn,frn,y,rfl,hgn,hcn3,hyn⟩:=V8.out.at k hkl;have c5:wr.cell? ⟨gn,offn+k*47,none⟩=some (.int .i64 y.kind):=LP (k:=0) hgn hcn3 (by decide) rfl;obtain⟨f1,f2,f3,f4⟩:=NC (HL2.out y (aC hyn));obtain⟨yk,hyk⟩:∃yk,yk=y.kind:=⟨_,rfl⟩;rw[←hyk] at c5 f1 f2 f3 f4;clear hgn hcn3 hyn hyk;go_wp2_with fail;go_roundw
     case rel=>exact⟨k+1,by omega,by go_num,by first | exact rfl | exact trivial⟩
     case measure=>simp[intOf];omega
    ·have hkl':¬(k:Int)<(ql:Int):=by omega
     have CS:=Fl A8.out.own A8.out.inn xn;have x3:wr.cell? ⟨gx,3,none⟩=some (.int .i64 xn):=by rw[cell_of_row _ _ _ _ _ _ X8.out,Gw,HKD.out.2.2.2]
     have hz:=Hh HF3.out
     have CS1:Calls aB 22 #[.pointer (some ⟨g,0,none⟩),.int .i64 xn] wr fun e w'=>(∃a b c d n2 n3 n4 n5,e=.returned (.agg #[.bool true,.int .i64 a,.int .i64 0,.bool b,.int .i64 c,.int .i64 d,.int .i64 0,.int .i64 n2,.int .i64 n3,.int .i64 n4,.int .i64 n5]))∧Below wr.heap.size wr w':=by
      refine CS.mono fun e w' q=>⟨?_,q.2⟩;rw[q.1];unfold KD Ix;rw[hz.1,hz.2];exact⟨_,_,_,_,_,_,_,_,rfl⟩
     clear CS hz;go_wp2_with (go_at_call 22;refine CS1.mono ?_;rintro e w9 ⟨⟨a1,a2,a3,a4,a5,a6,a7,a8,rfl⟩,hb9⟩;have B9:Hid (Below wr.heap.size wr w9):=hb9;have R9:Hid (B7 w1 w9 g gt gh gw R n0 n9 (300*i+300)):=A8.out.grow hb9;have X9:w9.cell? ⟨gx,3,none⟩=some (.int .i64 xn):=(by rw[cell_of_row _ _ _ _ _ _ ((hb9.block _ (aA.1 X8.out).1).trans X8.out),Gw,HKD.out.2.2.2]);clear hb9 CS1;refine Ak ?_);unfold AA;have CS:=Fl R9.out.own R9.out.inn xn;have hz:=Hh HF3.out
     have CS1:Calls aB 22 #[.pointer (some ⟨g,0,none⟩),.int .i64 xn] w9 fun e w'=>(∃a b c d n2 n3 n4 n5,e=.returned (.agg #[.bool true,.int .i64 a,.int .i64 0,.bool b,.int .i64 c,.int .i64 d,.int .i64 0,.int .i64 n2,.int .i64 n3,.int .i64 n4,.int .i64 n5]))∧Below w9.heap.size w9 w':=by
      refine CS.mono fun e w' q=>⟨?_,q.2⟩;rw[q.1];unfold KD Ix;rw[hz.1,hz.2];exact⟨_,_,_,_,_,_,_,_,rfl⟩
     clear CS hz
     go_wp2_with (first
      | (refine Gy rfl 59 _ 2 rfl _ (.int .i64 0) rfl (Oe _ _ _ _ _ _ _ _ _ _) ?_)
      | (refine Gy rfl 59 _ 6 rfl _ (.int .i64 0) rfl (QG _ _ _ _ _ _ _ _ _ _) ?_)
      | (go_at_call 22;refine CS1.mono ?_;rintro e w10 ⟨⟨b1,b2,b3,b4,b5,b6,b7,b8,rfl⟩,hb10⟩;have R10:Hid (B7 w1 w10 g gt gh gw R n0 n9 (300*i+300)):=R9.out.grow hb10;clear hb10 CS1))
     go_roundw
     case rel=>exact⟨i+1,n9,by omega,by omega,by go_num,R10,HF3.out,HN9.out⟩
     case measure=>simp[intOf];omega
  have bmk:(mk==3)=true:=by simpa using emk
  clear emk;by_cases emi:mi=inc
  case neg=>
   have bmi:(mi==inc)=false:=by simpa using emi
   have HNE:Hid (¬mi=inc):=emi;have HC:Hid (x.kind=2→∀m,DQ (Dw x)=some m→m.kind=3→Ad m 0≠n.hold.life):=fun _ m hm _ h0=>HNE.out (HKD.out.2.2.1.trans (by rw[(HMD.out.2.1 m hm).2,h0,HR6.out.par.life];exact HL0.out));clear emi;have CD:=HR6.out.does HB0.out (by omega) x;obtain⟨hf1,hf2⟩:=Pq HF.out.1 x HC.out;have HF2:Hid (Gb (Al R) (Fq R n x)):=hf1
   have HL2:Hid (∀y∈(Fq R n x).log,Ou y):=by
    obtain⟨lg,e1,e2⟩:=hf2;show∀y∈_,_;rw[e1,HF.out.2,aG];exact e2
   clear hf1 hf2;obtain⟨n',hn'⟩:∃n',n'=Fq R n x:=⟨_,rfl⟩;rw[←hn'] at CD HF2 HL2;clear hn';have X6:=HX6.out
   go_wp2_with (first
    | ((with_reducible refine Aw 41 _ rfl ?_);refine AH JI rfl _ rfl gx 0 rfl _ _ _ (AO x) KS.out.1 X6 (Ar _ _) ?_)
    | (go_at_call 12;refine CD.mono ?_;rintro e w7 ⟨rfl,a7,k7⟩;have A7:Hid (B7 w1 w7 g gt gh gw R n0 n' (300*i+300)):=a7;have X7:Hid (w7.heap[gx]?=some (.cells (AO x) 41 (0,0))):=k7.row HX6.out G9;clear a7 k7 CD X6;refine Ak ?_))
   unfold AA;clear y0 m0 m1 HR6 HM6 HX6 HC HF HMD HFM;have CN:=A7.out.notes;obtain⟨L,hL⟩:∃L,L=n'.log:=⟨_,rfl⟩;rw[←hL] at CN HL2;clear hL;go_wp2_with (go_at_call 19;refine CN.mono ?_;rintro e w8 ⟨⟨v,rfl,hv⟩,a8,k8⟩;have A8:Hid (B7 w1 w8 g gt gh gw R n0 {n' with log:=[]} (300*i+300)):=a8;have V8:Hid (Ee Hm Bj w8 v L):=hv.sl;have X8:Hid (w8.heap[gx]?=some (.cells (AO x) 41 (0,0))):=k8.row X7.out G9;clear a8 k8 hv CN A7 X7;refine Ak ?_);unfold AA;obtain⟨on,cn,hvn,hcn,hcn2⟩:=V8.out.slice;obtain⟨ql,hql⟩:∃ql,ql=L.length:=⟨_,rfl⟩;rw[←hql] at hvn hcn;have HQL:Hid (ql=L.length):=hql;unfold maxLen at hcn2;subst hvn;clear hql;have HF3:Hid (Gb (Al R) {n' with log:=[]}):=HF2.out;obtain⟨n9,hn9⟩:∃n9,n9={n' with log:=[]}:=⟨_,rfl⟩;have HN9:Hid (n9.log=[]):=by show _=_;rw[hn9]
   rw[←hn9] at A8 HF3;clear hn9 HF2;go_wp2_with fail;go_loopw [16] (fun s16 W=> ∃k:Nat,k≤ql∧s16=.int .i64 (k:Int)∧Hid (W=w8)) (fun s16 _=>ql-(intOf s16).toNat)
   case atStart=>exact⟨0,aD _,rfl,by first | exact rfl | exact trivial⟩
   case round=>
    obtain⟨k,hk,rfl,HW8⟩:=hrel;obtain rfl:=HW8.out;by_cases hkl:k<ql
    ·have hkl':(k:Int)<(ql:Int):=by omega
     obtain⟨gn,offn,curn,tyn,frn,y,rfl,hgn,hcn3,hyn⟩:=V8.out.at k hkl;have c5:wr.cell? ⟨gn,offn+k*47,none⟩=some (.int .i64 y.kind):=LP (k:=0) hgn hcn3 (by decide) rfl;obtain⟨f1,f2,f3,f4⟩:=NC (HL2.out y (aC hyn));obtain⟨yk,hyk⟩:∃yk,yk=y.kind:=⟨_,rfl⟩;rw[←hyk] at c5 f1 f2 f3 f4;clear hgn hcn3 hyn hyk;go_wp2_with fail;go_roundw
     case rel=>exact⟨k+1,by omega,by go_num,by first | exact rfl | exact trivial⟩
     case measure=>simp[intOf];omega
    ·have hkl':¬(k:Int)<(ql:Int):=by omega
     have CS:=Fl A8.out.own A8.out.inn xn;have x3:wr.cell? ⟨gx,3,none⟩=some (.int .i64 xn):=by rw[cell_of_row _ _ _ _ _ _ X8.out,Gw,HKD.out.2.2.2]
     have hz:=Hh HF3.out
     have CS1:Calls aB 22 #[.pointer (some ⟨g,0,none⟩),.int .i64 xn] wr fun e w'=>(∃a b c d n2 n3 n4 n5,e=.returned (.agg #[.bool true,.int .i64 a,.int .i64 0,.bool b,.int .i64 c,.int .i64 d,.int .i64 0,.int .i64 n2,.int .i64 n3,.int .i64 n4,.int .i64 n5]))∧Below wr.heap.size wr w':=by
      refine CS.mono fun e w' q=>⟨?_,q.2⟩;rw[q.1];unfold KD Ix;rw[hz.1,hz.2];exact⟨_,_,_,_,_,_,_,_,rfl⟩
     clear CS hz;go_wp2_with (go_at_call 22;refine CS1.mono ?_;rintro e w9 ⟨⟨a1,a2,a3,a4,a5,a6,a7,a8,rfl⟩,hb9⟩;have B9:Hid (Below wr.heap.size wr w9):=hb9;have R9:Hid (B7 w1 w9 g gt gh gw R n0 n9 (300*i+300)):=A8.out.grow hb9;have X9:w9.cell? ⟨gx,3,none⟩=some (.int .i64 xn):=(by rw[cell_of_row _ _ _ _ _ _ ((hb9.block _ (aA.1 X8.out).1).trans X8.out),Gw,HKD.out.2.2.2]);clear hb9 CS1;refine Ak ?_);unfold AA;have CS:=Fl R9.out.own R9.out.inn xn;have hz:=Hh HF3.out
     have CS1:Calls aB 22 #[.pointer (some ⟨g,0,none⟩),.int .i64 xn] w9 fun e w'=>(∃a b c d n2 n3 n4 n5,e=.returned (.agg #[.bool true,.int .i64 a,.int .i64 0,.bool b,.int .i64 c,.int .i64 d,.int .i64 0,.int .i64 n2,.int .i64 n3,.int .i64 n4,.int .i64 n5]))∧Below w9.heap.size w9 w':=by
      refine CS.mono fun e w' q=>⟨?_,q.2⟩;rw[q.1];unfold KD Ix;rw[hz.1,hz.2];exact⟨_,_,_,_,_,_,_,_,rfl⟩
     clear CS hz
     go_wp2_with (first
      | (refine Gy rfl 59 _ 2 rfl _ (.int .i64 0) rfl (Oe _ _ _ _ _ _ _ _ _ _) ?_)
      | (refine Gy rfl 59 _ 6 rfl _ (.int .i64 0) rfl (QG _ _ _ _ _ _ _ _ _ _) ?_)
      | (go_at_call 22;refine CS1.mono ?_;rintro e w10 ⟨⟨b1,b2,b3,b4,b5,b6,b7,b8,rfl⟩,hb10⟩;have R10:Hid (B7 w1 w10 g gt gh gw R n0 n9 (300*i+300)):=R9.out.grow hb10;clear hb10 CS1))
     go_roundw
     case rel=>exact⟨i+1,n9,by omega,by omega,by go_num,R10,HF3.out,HN9.out⟩
     case measure=>simp[intOf];omega
  have bmi:(mi==inc)=true:=by simpa using emi
  clear emi;go_wp2_with fail;go_roundw
  case rel=>exact⟨i+1,n,by omega,by omega,by go_num,⟨HR6.out.own,HR6.out.inn.le (by omega),HR6.out.par,HR6.out.pk⟩,HF⟩
  case measure=>simp[intOf];omega
end
end Go.Proofs.YtbhkoipcpcoooaaGreat
