import Derived.Test.YtbhkoipcpcoooaaGreatJ26
import Derived.Test.YtbhkoipcpcoooaaGreatLx2
import Derived.Test.YtbhkoipcpcoooaaGreatJ9
import Derived.Test.YtbhkoipcpcoooaaGreatJ2
import Derived.Test.YtbhkoipcpcoooaaGreatJ1
import Derived.Sort.LotA
import Derived.Test.YtbhkoipcpcoooaaGreatLx1
import Derived.Test.YtbhkoipcpcoooaaGreatProg
import Derived.WalkKit
import Derived.WalkSpells
import Derived.WalkLawsBesides
import Derived.BigQuiet
import Derived.KernelRfl
import Derived.Laws.StructEq
import Derived.Laws.Tables
import Derived.Laws.Rows
import Derived.StillTailTactics
import Derived.StillTail
import Derived.Test.YtbhkoipcpcoooaaGreatJ4
import Derived.Test.YtbhkoipcpcoooaaGreatJ3
import Derived.Great.BuildSlice
import Derived.Laws.AppendOwn
import Derived.Laws.OwnMore
import Derived.Maps.AppendAt
import Derived.Lib.Bytealg
import Derived.Lib.UnsafeStr
import Derived.Lib.BufferWrite
import Derived.Laws.MakeOwn
import Derived.OwnWalk
import Derived.OrdersHeld
import Derived.Laws.CopyRow
import Derived.Lib.BitFns
import Derived.WalkMore
import Derived.Test.YtbhkoipcpcoooaaGreatJ7
import Derived.Test.YtbhkoipcpcoooaaGreatJ6
import Derived.Test.YtbhkoipcpcoooaaGreatJ5
import Derived.Deep.QuietTactic
import Derived.Lib.Hide
import Derived.Lib.Walk
import Derived.Shelf.SlSortCmp.KitK
import Derived.Deep.LoopGhost
import Derived.Deep.CutRange
import Derived.Laws.AppendOwnNone
import Derived.Great.Walk
import Derived.Laws.Cover3
import Derived.Test.YtbhkoipcpcoooaaGreatJ8
import Derived.Test.YtbhkoipcpcoooaaGreatJ23
import Derived.Test.YtbhkoipcpcoooaaGreatJ10
import Derived.Test.YtbhkoipcpcoooaaGreatJ17
import Derived.Test.YtbhkoipcpcoooaaGreatJ19
import Derived.Test.YtbhkoipcpcoooaaGreatJ18
import Derived.Test.YtbhkoipcpcoooaaGreatJ16
import Derived.Test.YtbhkoipcpcoooaaGreatJ11
import Derived.BigRegion
import Derived.Deep.RegionLaw
import Derived.Shelf.RegionOpenPlain
import Derived.Test.YtbhkoipcpcoooaaGreatJ12
import Derived.Test.YtbhkoipcpcoooaaGreatJ15
import Derived.Test.YtbhkoipcpcoooaaGreatJ14
import Derived.Test.YtbhkoipcpcoooaaGreatJ13
import Derived.Laws.BytesArg
import Derived.Laws.Bits64b
import Derived.Laws.CopyOwn
import Derived.Test.YtbhkoipcpcoooaaGreatRows
import Derived.ProofKit
import Derived.OpenShut
import Derived.Carry
import Derived.Deep.Slices
import Derived.SizedLaws
import Derived.Test.YtbhkoipcpcoooaaGreatJ25
import Derived.Test.YtbhkoipcpcoooaaGreatJ24
import Derived.Test.YtbhkoipcpcoooaaGreatJ22
import Derived.Test.YtbhkoipcpcoooaaGreatJ20
import Derived.Test.YtbhkoipcpcoooaaGreatJ21
import Derived.BigGuard
namespace Go.Proofs.YtbhkoipcpcoooaaGreat
set_option maxRecDepth 20000
set_option maxHeartbeats 64000000
open Go
open _root_.Array renaming getElem?_eq_some_iff → aA
open _root_.Nat renaming zero_le → aB
section
open Go.RowKit
theorem VS(w:World)(num inc:Int)(s:IP)(va:Value)(l:List CJ)(hl:Ee Fj AO w va l):Calls Tryz.prog 4 #[.int .i64 num,.int .i64 inc,.agg (Ci s),va] w fun e w'=>e=.returned (.bool true)∧Below w.heap.size w w':=by
 obtain⟨oA,cA,hva,hcA,hcA2⟩:=hl.slice;obtain⟨q,hq⟩:∃q,q=l.length:=⟨_,rfl⟩;rw[←hq] at hva hcA;have HL:Hid (∀W,Below w.heap.size w W→Ee Fj AO W va l):=fun W hb=>hl.below hb;have HQ:Hid (q=l.length):=hq;unfold maxLen at hcA2;clear hl hq;subst hva;obtain⟨w0,hw0⟩:∃w0,w0=w.alloc (.cells (Ci s) 24):=⟨_,rfl⟩;have Z0:Hid (w0.heap[w.heap.size]?=some (.cells (Ci s) 24 (0,0))):=by show _=_;rw[hw0];exact Ab _ _ _ rfl
 have B0:Hid (Below w.heap.size w w0):=by show Below _ _ _;rw[hw0];exact(Below.refl _ _).alloc (Nat.le_refl _) _
 have HW:=LG w0;have hw0':=hw0.symm;clear hw0;by_cases hnew:Lz s num inc
 case neg=>
  have HN:Hid (∀W,Calls Tryz.prog 10 #[.int .i64 num,.int .i64 inc,.agg (Ci s)] W fun e w'=>e=.returned (.tuple #[.pointer none,.int .i64 1])∧Below W.heap.size W w'):=fun W=>OX s num inc hnew W;clear hnew;go_enter Tryz.func4,Tryz.ntmps4;go_wp2_with (go_at_call 9;refine HW.mono ?_;rintro e w1 ⟨rfl,hb1⟩;have B1:Hid (Below w0.heap.size w0 w1):=hb1;clear hb1 HW hw0';refine Ak ?_);unfold AA;have Z1:Hid (w1.heap[w.heap.size]?=some (.cells (Ci s) 24 (0,0))):=(B1.out.block _ (aA.1 Z0.out).1).trans Z0.out;have CN:=HN.out w1
  go_wp2_with (first
   | ((with_reducible refine Aw 24 _ rfl ?_);refine AH IG rfl _ rfl w.heap.size 0 rfl _ _ _ (Ci s) rfl Z1.out (Ar _ _) ?_)
   | (go_at_call 10;refine CN.mono ?_;rintro e w2 ⟨rfl,hb2⟩))
  go_ret;have x1:=B0.out.trans (B1.out.mono B0.out.size);exact⟨rfl,x1.trans (hb2.mono x1.size)⟩
 obtain⟨R,n0,HD0⟩:∃R n0,Hid (R=KK s.ca s.ro s.pa s.idl s.hd∧n0=NW num inc s.le s.be s.ca (⟨[],[],[]⟩:Aq) ⟨s.wa,s.tr,s.ti,[],0⟩):=⟨_,_,rfl,rfl⟩;have HN:Hid (∀W,Calls Tryz.prog 10 #[.int .i64 num,.int .i64 inc,.agg (Ci s)] W fun e w'=> ∃g gt gh gw,e=.returned (.tuple #[.pointer (some ⟨g,0,none⟩),.int .i64 0])∧DA W w' g gt gh gw R n0):=fun W=>by rw[HD0.out.1,HD0.out.2];exact LQ s num inc hnew W
 have HI0:Hid (Az 0 R n0):=by show Az _ _ _;rw[HD0.out.1,HD0.out.2];exact Ot hnew
 have HB0:Hid (1≤n0.beat):=by show 1≤_;rw[HD0.out.2];exact(Io hnew.1).2.2
 have HOK:Hid (Lz s num inc):=hnew;clear hnew;go_enter Tryz.func4,Tryz.ntmps4;simp only[List.append_eq,List.cons_append,List.nil_append];go_wp2_with (go_at_call 9;refine HW.mono ?_;rintro e w1 ⟨rfl,hb1⟩;have B1:Hid (Below w0.heap.size w0 w1):=hb1;clear hb1 HW hw0';refine Ak ?_);unfold AA;have Z1:Hid (w1.heap[w.heap.size]?=some (.cells (Ci s) 24 (0,0))):=(B1.out.block _ (aA.1 Z0.out).1).trans Z0.out;have HBW:Hid (Below w.heap.size w w1):=B0.out.trans (B1.out.mono B0.out.size);have HZ:Hid (∀W,Below w1.heap.size w1 W→W.heap[w.heap.size]?=some (.cells (Ci s) 24 (0,0))):=fun W hW=>(hW.block _ (aA.1 Z1.out).1).trans Z1.out;have CN:=HN.out w1
 go_wp2_with (first
  | ((with_reducible refine Aw 24 _ rfl ?_);refine AH IG rfl _ rfl w.heap.size 0 rfl _ _ _ (Ci s) rfl Z1.out (Ar _ _) ?_)
  | (go_at_call 10;refine CN.mono ?_;rintro e w2 ⟨g,gt,gh,gw,rfl,a2⟩;have A2:Hid (DA w1 w2 g gt gh gw R n0):=a2;clear a2 CN HN;refine Ak ?_))
 unfold AA;clear B0 Z0 B1;have HL0:Hid (n0.hold.life=inc∧n0.lease=s.le):=by show _∧_;rw[HD0.out.2];exact⟨rfl,rfl⟩
 have HF0:Hid (GH (J3 inc (l.take 0)) n0∧n0.log=[]):=by
  show _∧_;rw[HD0.out.2];exact⟨Ajb _ _ _ _ _ _ _ _,rfl⟩
 have H0:Hid (B7 w1 w2 g gt gh gw R n0 n0 0):=⟨A2.out,HI0.out,II.refl _,JS.refl _⟩;obtain⟨le,hle⟩:∃le,le=s.le:=⟨_,rfl⟩;have HLE:Hid (le=s.le):=hle
 have HSL:Hid (∀W,Below w1.heap.size w1 W→W.cell? ⟨w.heap.size,15,none⟩=some (.int .i64 le)):=fun W hW=>by
  rw[cell_of_row _ _ _ _ _ _ (HZ.out W hW),HLE.out];rfl
 clear A2 HD0 hle;go_wp2_with fail;go_loopw [11] (fun s11 wr=> ∃(i:Nat) (n:Af Aq),i≤q∧i≤80∧s11=.int .i64 (i:Int)∧Hid (B7 w1 wr g gt gh gw R n0 n (300*i))∧Hid (GH (J3 inc (l.take i)) n∧n.log=[])) (fun s11 _=>80-(intOf s11).toNat)
 case atStart=>exact⟨0,n0,aB _,aB _,rfl,H0,HF0⟩
 case round=>
  obtain⟨i,n,hi,hi80,rfl,HR,HF⟩:=hrel;have HBr:Hid (Below w.heap.size w wr):=HBW.out.trans (HR.out.own.bel.mono HBW.out.size);clear H0 HF0;by_cases hlt:i<q
  case neg=>
   have hlt':¬(i:Int)<(q:Int):=by omega
   go_wp2_with fail;go_ret;exact⟨rfl,HBr.out⟩
  have hlt':(i:Int)<(q:Int):=by omega
  by_cases hlt2:i<80
  case neg=>
   have hlt2':¬(i:Int)<80:=by omega
   go_wp2_with fail;go_ret;exact⟨rfl,HBr.out⟩
  have hlt2':(i:Int)<80:=by omega
  obtain⟨ga,offa,cura,tya,fra,x,rfl,hga,hcca,hxa⟩:=(HL.out wr HBr.out).at i hlt;have HXA:Hid (l[i]?=some x):=hxa;obtain⟨wx,hwx⟩:∃wx,wx=wr.alloc (.cells (AO x) 41):=⟨_,rfl⟩;have BX:Hid (Below wr.heap.size wr wx):=by show Below _ _ _;rw[hwx];exact(Below.refl _ _).alloc (Nat.le_refl _) _
  have Ax:wx.heap[wr.heap.size]?=some (.cells (AO x) 41 (0,0)):=by rw[hwx];exact Ab _ _ _ rfl
  have SRx:(wr.alloc (.cells (AO Lj) 41)).setRow wr.heap.size (AO x)=wx:=by rw[hwx];exact Bo _ _ _ _ _ rfl
  have KGa:Hid (wr.heap[ga]?=some (.cells cura tya fra)):=hga;have KCa:Hid (∀j,j<71→cura[offa+i*71+j]?=(AO x)[j]?):=hcca;have KS:Hid ((AO x).size=71∧(AO x).all (·.oneCell')=true):=⟨Hk x,Pz x⟩;clear hxa hwx hga hcca
  go_wp2_with (first
   | ((with_reducible refine Mx 41 rfl ?_);refine Hs (E:=Fj) Hq rfl rfl ?_)
   | ((with_reducible refine Aw 41 _ rfl ?_);refine Eu (E:=Fj) Hq rfl _ rfl ga (offa+i*71) rfl cura tya fra (AO x) KS.out.1 KGa.out KCa.out ?_)
   | ((with_reducible refine Bu 41 _ _ rfl ?_);refine EK (E:=Fj) Hq rfl _ _ rfl wr.heap.size (AO x) KS.out rfl rfl _ (Ab _ _ _ rfl) rfl _ SRx ?_;refine Ak ?_))
  unfold AA;clear SRx KGa KCa;obtain⟨xn,hxn⟩:∃xn,xn=x.now:=⟨_,rfl⟩;have HXN:Hid (xn=x.now):=hxn;have k3:wx.cell? ⟨wr.heap.size,3,none⟩=some (.int .i64 xn):=by rw[cell_of_row _ _ _ _ _ _ Ax,Gw,hxn]
  clear hxn;by_cases hx0:xn<0
  case pos=>
   have HO:Hid (B7 w1 wx g gt gh gw R n0 n (300*(i+1))):=⟨(HR.out.grow BX.out).own,HR.out.inn.le (by omega),HR.out.par,HR.out.pk⟩;have HI:Hid (GH (J3 inc (l.take (i+1))) n∧n.log=[]):=⟨Qi HF.out.1 fun _ _ q=>Pa q,HF.out.2⟩;clear HR HF Ax;go_wp2_with fail;go_roundw
   case rel=>exact⟨i+1,n,by omega,by omega,by go_num,HO,HI⟩
   case measure=>simp[intOf];omega
  by_cases hx1:xn>1099511627776
  case pos=>
   have HO:Hid (B7 w1 wx g gt gh gw R n0 n (300*(i+1))):=⟨(HR.out.grow BX.out).own,HR.out.inn.le (by omega),HR.out.par,HR.out.pk⟩;have HI:Hid (GH (J3 inc (l.take (i+1))) n∧n.log=[]):=⟨Qi HF.out.1 fun _ _ q=>Pa q,HF.out.2⟩;clear HR HF Ax;go_wp2_with fail;go_roundw
   case rel=>exact⟨i+1,n,by omega,by omega,by go_num,HO,HI⟩
   case measure=>simp[intOf];omega
  have HXB:Hid (0≤xn∧xn≤1099511627776):=⟨Int.not_lt.1 hx0,Int.not_lt.1 hx1⟩;obtain⟨hl1,hl2⟩:=Apg HF.out.1 HF.out.2 (HR.out.par.life.trans HL0.out.1) HXA.out (by rw[←HXN.out];exact HXB.out.1) (by rw[←HXN.out];exact HXB.out.2);rw[HR.out.par.lease,HL0.out.2, ←HXN.out, ←HLE.out] at hl2;have CD:=(HR.out.grow BX.out).does HB0.out (by omega) x;obtain⟨n',hn'⟩:∃n',n'=Fq R n x:=⟨_,rfl⟩;rw[←hn'] at hl1 hl2 CD;have HI1:Hid (GH (J3 inc (l.take (i+1))) n'):=hl1;have HI2:Hid (∀y∈n'.log,Ro y→∃z∈l.take (i+1),G6 inc n'.hold.use xn le z):=hl2;clear hl1 hl2 hn' HF;obtain⟨gx,hgx⟩:∃gx,gx=wr.heap.size:=⟨_,rfl⟩;rw[←hgx] at k3 Ax ⊢;clear hgx
  go_wp2_with (first
   | ((with_reducible refine Aw 41 _ rfl ?_);refine AH JI rfl _ rfl gx 0 rfl _ _ _ (AO x) KS.out.1 Ax (Ar _ _) ?_)
   | (go_at_call 12;refine CD.mono ?_;rintro e w7 ⟨rfl,a7,k7⟩;have A7:Hid (B7 w1 w7 g gt gh gw R n0 n' (300*i+300)):=a7;have X7:Hid (w7.heap[gx]?=some (.cells (AO x) 41 (0,0))):=k7.row Ax G9;clear a7 k7 CD;refine Ak ?_))
  unfold AA;clear k3 Ax BX HR HXA;have x3:w7.cell? ⟨gx,3,none⟩=some (.int .i64 xn):=by rw[cell_of_row _ _ _ _ _ _ X7.out,Gw,HXN.out]
  obtain⟨us,hus⟩:∃us,us=n'.hold.use:=⟨_,rfl⟩
  have CS:Calls Tryz.prog 22 #[.pointer (some ⟨g,0,none⟩),.int .i64 xn] w7 fun e w'=>(∃a b c d n1 n2 n3 n4 n5,e=.returned (.agg #[.bool true,.int .i64 a,.int .i64 us,.bool b,.int .i64 c,.int .i64 d,.int .i64 n1,.int .i64 n2,.int .i64 n3,.int .i64 n4,.int .i64 n5]))∧Below w7.heap.size w7 w':=by
   refine(Fl A7.out.own A7.out.inn xn).mono fun e w' q=>⟨?_,q.2⟩;rw[q.1,hus];exact⟨_,_,_,_,_,_,_,_,_,rfl⟩
  rw[←hus] at HI2;clear hus
  go_wp2_with (first
   | (refine Gy rfl 59 _ 2 rfl _ (.int .i64 us) rfl (Oe _ _ _ _ _ _ _ _ _ _) ?_;refine Ak ?_)
   | (go_at_call 22;refine CS.mono ?_;rintro e w8 ⟨⟨a1,a2,a3,a4,a5,a6,a7,a8,a9,rfl⟩,hb8⟩;have A8:Hid (B7 w1 w8 g gt gh gw R n0 n' (300*i+300)):=A7.out.grow hb8;have X8:Hid (w8.heap[gx]?=some (.cells (AO x) 41 (0,0))):=(hb8.block _ (aA.1 X7.out).1).trans X7.out;clear hb8 CS))
  unfold AA;clear x3 A7 X7;have HLI:Hid (i<q):=hlt;go_wp2_with fail;go_loopw [14,15] (fun s14 s15 W=> ∃(k:Nat) (b:Bool),k≤i+1∧s15=.int .i64 (k:Int)∧s14=.bool b∧Hid (b=true↔ ∃y∈l.take k,G6 inc us xn le y)∧Hid (B7 w1 W g gt gh gw R n0 n' (300*i+300))∧Hid (W.heap[gx]?=some (.cells (AO x) 41 (0,0)))) (fun _ s15 _=>i+1-(intOf s15).toNat)
  case atStart=>exact⟨0,false,aB _,rfl,rfl,Aiv,A8,X8⟩
  case round=>
   obtain⟨k,b,hk,rfl,rfl,HBL,HRk,HXk⟩:=hrel;clear A8 X8;by_cases hki:k≤i
   ·have hki':(k:Int)≤(i:Int):=by omega
    have hkq:(k:Int)<(q:Int):=by omega
    have HBk:Hid (Below w.heap.size w wr):=HBW.out.trans (HRk.out.own.bel.mono HBW.out.size);obtain⟨gb,offb,curb,tyb,frb,y,hgab,hgb,hccb,hyb⟩:=(HL.out wr HBk.out).at k (by omega);simp only[Option.some.injEq,Addr.mk.injEq,and_true] at hgab;obtain⟨rfl,rfl⟩:=hgab;have KGb:Hid (wr.heap[ga]?=some (.cells curb tyb frb)):=hgb;have KCb:Hid (∀j,j<71→curb[offa+k*71+j]?=(AO y)[j]?):=hccb;have HYB:Hid (l[k]?=some y):=hyb;clear hgb hccb hyb;have CB:=NY y wr
    go_wp2_with (first
     | ((with_reducible refine Aw 41 _ rfl ?_);refine Eu (E:=Fj) Hq rfl _ rfl ga (offa+k*71) rfl curb tyb frb (AO y) (Hk y) KGb.out KCb.out ?_)
     | (go_at_call 15;refine CB.mono ?_;rintro e v3 ⟨rfl,hb3⟩;have B3:Hid (Below wr.heap.size wr v3):=hb3;clear hb3 CB;refine Ak ?_))
    unfold AA;obtain⟨cap,v4,hcv,hb4,hbs⟩:=Agf v3 (Dw y) (Lc y);have CDec:=SM _ _ v4 hbs (Lc y);have B4:Hid (Below wr.heap.size wr v4):=B3.out.trans (hb4.mono B3.out.size);unfold Yq at CDec;obtain⟨md,hmd⟩:∃md,md=(GG (Dw y)).1:=⟨_,rfl⟩;obtain⟨er,her⟩:∃er,er=(GG (Dw y)).2:=⟨_,rfl⟩;rw[←hmd, ←her] at CDec
    have HMD:Hid (BB md∧(∀m,DQ (Dw y)=some m→er=0∧md=m)∧(er=0→DQ (Dw y)=some md)):=by
     show _∧_∧_;rw[hmd,her];exact XR _
    clear hb4 hbs B3 hmd her;have HFM:Hid ((Ae md).size=53∧(Ae md).all (·.oneCell')=true):=CY HMD.out.1;have MK:Hid ((Ae md)[0]?=some (.int .i64 md.kind)):=DB md;have MI:Hid (∀j,j<13→(Ae md)[j+1]?=some (.int .i64 (Ad md j))):=fun j hj=>BK HMD.out.1 j hj;go_wp2_with (go_at_call 30;refine CDec.mono ?_;rintro e v5 ⟨rfl,hb5⟩;have B5:Hid (Below wr.heap.size wr v5):=B4.out.trans (hb5.mono B4.out.size);clear hb5 CDec hcv B4;refine Ak ?_);unfold AA;have N0:Hid ((v5.alloc (.cells Ao 39)).heap[v5.heap.size]?=some (.cells Ao 39 (0,0))):=Ab _ _ _ rfl;obtain⟨v6,hv6⟩:∃v6,v6=(v5.alloc (.cells Ao 39)).setRow v5.heap.size (Ae md):=⟨_,rfl⟩;have M6:v6.heap[v5.heap.size]?=some (.cells (Ae md) 39 (0,0)):=by rw[hv6];exact setRow_heap _ _ _ _ _ _ N0.out
    have B6:Hid (Below wr.heap.size wr v6):=by show Below _ _ _;rw[hv6];exact Aj (B5.out.alloc B5.out.size _) B5.out.size _
    have SRm:Hid ((v5.alloc (.cells Ao 39)).setRow v5.heap.size (Ae md)=v6):=hv6.symm;clear hv6;go_wp2_with ((with_reducible refine Bu 39 _ _ rfl ?_);refine BP BD rfl _ _ rfl v5.heap.size (Ae md) HFM.out rfl rfl _ N0.out rfl _ SRm.out ?_;refine Ak ?_);unfold AA;clear N0 SRm;obtain⟨gm,hgm⟩:∃gm,gm=v5.heap.size:=⟨_,rfl⟩;rw[←hgm] at M6 ⊢;clear hgm;have HR6:Hid (B7 w1 v6 g gt gh gw R n0 n' (300*i+300)):=HRk.out.grow B6.out;have HX6:Hid (v6.heap[gx]?=some (.cells (AO x) 41 (0,0))):=(B6.out.block _ (aA.1 HXk.out).1).trans HXk.out;have KG6:Hid (v6.heap[ga]?=some (.cells curb tyb frb)):=(B6.out.block _ (aA.1 KGb.out).1).trans KGb.out;obtain⟨yk,hyk⟩:∃yk,yk=y.kind:=⟨_,rfl⟩;obtain⟨ys,hys⟩:∃ys,ys=y.src:=⟨_,rfl⟩;obtain⟨yn,hyn⟩:∃yn,yn=y.now:=⟨_,rfl⟩;obtain⟨mk,hmk⟩:∃mk,mk=md.kind:=⟨_,rfl⟩;obtain⟨mi,hmi⟩:∃mi,mi=Ad md 0:=⟨_,rfl⟩;obtain⟨mu,hmu⟩:∃mu,mu=Ad md 10:=⟨_,rfl⟩;obtain⟨mt,hmt⟩:∃mt,mt=Ad md 9:=⟨_,rfl⟩;have HKS:Hid (yk=y.kind∧ys=y.src∧yn=y.now∧mk=md.kind∧mi=Ad md 0∧mu=Ad md 10∧mt=Ad md 9):=⟨hyk,hys,hyn,hmk,hmi,hmu,hmt⟩;have y0:v6.cell? ⟨ga,offa+k*71,none⟩=some (.int .i64 yk):=by rw[cell_of_row _ _ _ _ _ _ KG6.out, ←Nat.add_zero (offa+k*71),KCb.out 0 (by decide),TE,hyk]
    have y2:v6.cell? ⟨ga,offa+k*71+2,none⟩=some (.int .i64 ys):=by rw[cell_of_row _ _ _ _ _ _ KG6.out,KCb.out 2 (by decide),Agw,hys]
    have y3:v6.cell? ⟨ga,offa+k*71+3,none⟩=some (.int .i64 yn):=by rw[cell_of_row _ _ _ _ _ _ KG6.out,KCb.out 3 (by decide),Gw,hyn]
    have m0:v6.cell? ⟨gm,0,none⟩=some (.int .i64 mk):=by rw[cell_of_row _ _ _ _ _ _ M6,hmk];exact MK.out
    have m1:v6.cell? ⟨gm,1,none⟩=some (.int .i64 mi):=by rw[cell_of_row _ _ _ _ _ _ M6,hmi];exact MI.out 0 (by decide)
    have m11:v6.cell? ⟨gm,11,none⟩=some (.int .i64 mu):=by rw[cell_of_row _ _ _ _ _ _ M6,hmu];exact MI.out 10 (by decide)
    have m10:v6.cell? ⟨gm,10,none⟩=some (.int .i64 mt):=by rw[cell_of_row _ _ _ _ _ _ M6,hmt];exact MI.out 9 (by decide)
    have x3:v6.cell? ⟨gx,3,none⟩=some (.int .i64 xn):=by rw[cell_of_row _ _ _ _ _ _ HX6.out,Gw,HXN.out]
    have s15:=HSL.out v6 HR6.out.own.bel;clear hyk hys hyn hmk hmi hmu hmt M6 MK MI KGb KCb KG6 HRk HXk B6 B5
    cases b with
    | true=>
     have HST:Hid (true=true↔ ∃y∈l.take (k+1),G6 inc us xn le y):=Gr HYB.out HBL.out (by simp);go_wp2_with fail;go_roundw
     case rel=>exact⟨k+1,true,by omega,by go_num,rfl,HST,HR6,HX6⟩
     case measure=>simp[intOf];omega
    | false=>
     by_cases eq0:yk=2
     case neg=>
      have bq0:(yk==2)=false:=by simpa using eq0
      have HNE:Hid (¬yk=2):=eq0;clear eq0
      have HST:Hid (false=true↔ ∃y∈l.take (k+1),G6 inc us xn le y):=Gr HYB.out HBL.out ⟨fun h=>(by cases h),fun h=>by
       rcases h with h | h
       ·cases h
       ·obtain⟨d1,d2,d3,d4,m,hm,d5⟩:=Ht h;have d:y.kind=2∧y.src=0∧0≤y.now∧y.now≤1099511627776:=⟨d1,d2,d3,d4⟩;exact absurd (HKS.out.1.trans d.1) HNE.out⟩
      go_wp2_with fail;go_roundw
      case rel=>exact⟨k+1,false,by omega,by go_num,rfl,HST,HR6,HX6⟩
      case measure=>simp[intOf];omega
     have HP0:Hid (yk=2):=eq0;have bq0:(yk==2)=true:=by simpa using eq0
     clear eq0;by_cases eq1:ys=0
     case neg=>
      have bq1:(ys==0)=false:=by simpa using eq1
      have HNE:Hid (¬ys=0):=eq1;clear eq1
      have HST:Hid (false=true↔ ∃y∈l.take (k+1),G6 inc us xn le y):=Gr HYB.out HBL.out ⟨fun h=>(by cases h),fun h=>by
       rcases h with h | h
       ·cases h
       ·obtain⟨d1,d2,d3,d4,m,hm,d5⟩:=Ht h;have d:y.kind=2∧y.src=0∧0≤y.now∧y.now≤1099511627776:=⟨d1,d2,d3,d4⟩;exact absurd (HKS.out.2.1.trans d.2.1) HNE.out⟩
      go_wp2_with fail;go_roundw
      case rel=>exact⟨k+1,false,by omega,by go_num,rfl,HST,HR6,HX6⟩
      case measure=>simp[intOf];omega
     have HP1:Hid (ys=0):=eq1;have bq1:(ys==0)=true:=by simpa using eq1
     clear eq1;by_cases eq2:0≤yn
     case neg=>
      have bq2:¬0≤yn:=eq2;have bq2':¬yn≥0:=eq2;have HNE:Hid (¬0≤yn):=eq2;clear eq2
      have HST:Hid (false=true↔ ∃y∈l.take (k+1),G6 inc us xn le y):=Gr HYB.out HBL.out ⟨fun h=>(by cases h),fun h=>by
       rcases h with h | h
       ·cases h
       ·obtain⟨d1,d2,d3,d4,m,hm,d5⟩:=Ht h;have d:y.kind=2∧y.src=0∧0≤y.now∧y.now≤1099511627776:=⟨d1,d2,d3,d4⟩;exact absurd (by rw[HKS.out.2.2.1];exact d.2.2.1) HNE.out⟩
      go_wp2_with fail;go_roundw
      case rel=>exact⟨k+1,false,by omega,by go_num,rfl,HST,HR6,HX6⟩
      case measure=>simp[intOf];omega
     have HP2:Hid (0≤yn):=eq2;have bq2:0≤yn:=eq2;have bq2':yn≥0:=eq2;clear eq2;by_cases eq3:yn≤1099511627776
     case neg=>
      have bq3:¬yn≤1099511627776:=eq3;have HNE:Hid (¬yn≤1099511627776):=eq3;clear eq3
      have HST:Hid (false=true↔ ∃y∈l.take (k+1),G6 inc us xn le y):=Gr HYB.out HBL.out ⟨fun h=>(by cases h),fun h=>by
       rcases h with h | h
       ·cases h
       ·obtain⟨d1,d2,d3,d4,m,hm,d5⟩:=Ht h;have d:y.kind=2∧y.src=0∧0≤y.now∧y.now≤1099511627776:=⟨d1,d2,d3,d4⟩;exact absurd (by rw[HKS.out.2.2.1];exact d.2.2.2) HNE.out⟩
      go_wp2_with fail;go_roundw
      case rel=>exact⟨k+1,false,by omega,by go_num,rfl,HST,HR6,HX6⟩
      case measure=>simp[intOf];omega
     have HP3:Hid (yn≤1099511627776):=eq3;have bq3:yn≤1099511627776:=eq3;clear eq3;by_cases eq4:er=0
     case neg=>
      have bq4:(er==0)=false:=by simpa using eq4
      have HNE:Hid (¬er=0):=eq4;clear eq4
      have HST:Hid (false=true↔ ∃y∈l.take (k+1),G6 inc us xn le y):=Gr HYB.out HBL.out ⟨fun h=>(by cases h),fun h=>by
       rcases h with h | h
       ·cases h
       ·obtain⟨d1,d2,d3,d4,m,hm,d5⟩:=Ht h;have d:y.kind=2∧y.src=0∧0≤y.now∧y.now≤1099511627776:=⟨d1,d2,d3,d4⟩;exact absurd (((HMD.out.2.1 m hm).1)) HNE.out⟩
      go_wp2_with fail;go_roundw
      case rel=>exact⟨k+1,false,by omega,by go_num,rfl,HST,HR6,HX6⟩
      case measure=>simp[intOf];omega
     have HP4:Hid (er=0):=eq4;have bq4:(er==0)=true:=by simpa using eq4
     clear eq4;by_cases eq5:mk=3
     case neg=>
      have bq5:(mk==3)=false:=by simpa using eq5
      have HNE:Hid (¬mk=3):=eq5;clear eq5
      have HST:Hid (false=true↔ ∃y∈l.take (k+1),G6 inc us xn le y):=Gr HYB.out HBL.out ⟨fun h=>(by cases h),fun h=>by
       rcases h with h | h
       ·cases h
       ·obtain⟨d1,d2,d3,d4,m,hm,d5⟩:=Ht h;have d:y.kind=2∧y.src=0∧0≤y.now∧y.now≤1099511627776:=⟨d1,d2,d3,d4⟩;exact absurd (HKS.out.2.2.2.1.trans ((congrArg An.kind (HMD.out.2.1 m hm).2).trans d5.1)) HNE.out⟩
      go_wp2_with fail;go_roundw
      case rel=>exact⟨k+1,false,by omega,by go_num,rfl,HST,HR6,HX6⟩
      case measure=>simp[intOf];omega
     have HP5:Hid (mk=3):=eq5;have bq5:(mk==3)=true:=by simpa using eq5
     clear eq5;by_cases eq6:mi=inc
     case neg=>
      have bq6:(mi==inc)=false:=by simpa using eq6
      have HNE:Hid (¬mi=inc):=eq6;clear eq6
      have HST:Hid (false=true↔ ∃y∈l.take (k+1),G6 inc us xn le y):=Gr HYB.out HBL.out ⟨fun h=>(by cases h),fun h=>by
       rcases h with h | h
       ·cases h
       ·obtain⟨d1,d2,d3,d4,m,hm,d5⟩:=Ht h;have d:y.kind=2∧y.src=0∧0≤y.now∧y.now≤1099511627776:=⟨d1,d2,d3,d4⟩;exact absurd (HKS.out.2.2.2.2.1.trans ((congrArg (Ad · 0) (HMD.out.2.1 m hm).2).trans d5.2.1)) HNE.out⟩
      go_wp2_with fail;go_roundw
      case rel=>exact⟨k+1,false,by omega,by go_num,rfl,HST,HR6,HX6⟩
      case measure=>simp[intOf];omega
     have HP6:Hid (mi=inc):=eq6;have bq6:(mi==inc)=true:=by simpa using eq6
     clear eq6;by_cases eq7:mu=us
     case neg=>
      have bq7:(mu==us)=false:=by simpa using eq7
      have HNE:Hid (¬mu=us):=eq7;clear eq7
      have HST:Hid (false=true↔ ∃y∈l.take (k+1),G6 inc us xn le y):=Gr HYB.out HBL.out ⟨fun h=>(by cases h),fun h=>by
       rcases h with h | h
       ·cases h
       ·obtain⟨d1,d2,d3,d4,m,hm,d5⟩:=Ht h;have d:y.kind=2∧y.src=0∧0≤y.now∧y.now≤1099511627776:=⟨d1,d2,d3,d4⟩;exact absurd (HKS.out.2.2.2.2.2.1.trans ((congrArg (Ad · 10) (HMD.out.2.1 m hm).2).trans d5.2.2.1)) HNE.out⟩
      go_wp2_with fail;go_roundw
      case rel=>exact⟨k+1,false,by omega,by go_num,rfl,HST,HR6,HX6⟩
      case measure=>simp[intOf];omega
     have HP7:Hid (mu=us):=eq7;have bq7:(mu==us)=true:=by simpa using eq7
     clear eq7;by_cases eq8:0<us
     case neg=>
      have bq8:¬0<us:=eq8;have bq8':¬us>0:=eq8;have HNE:Hid (¬0<us):=eq8;clear eq8
      have HST:Hid (false=true↔ ∃y∈l.take (k+1),G6 inc us xn le y):=Gr HYB.out HBL.out ⟨fun h=>(by cases h),fun h=>by
       rcases h with h | h
       ·cases h
       ·obtain⟨d1,d2,d3,d4,m,hm,d5⟩:=Ht h;have d:y.kind=2∧y.src=0∧0≤y.now∧y.now≤1099511627776:=⟨d1,d2,d3,d4⟩;exact absurd (d5.2.2.2.1) HNE.out⟩
      go_wp2_with fail;go_roundw
      case rel=>exact⟨k+1,false,by omega,by go_num,rfl,HST,HR6,HX6⟩
      case measure=>simp[intOf];omega
     have HP8:Hid (0<us):=eq8;have bq8:0<us:=eq8;have bq8':us>0:=eq8;clear eq8
     obtain⟨hmt0,hmt1⟩:Ch mt:=by
      have h1:=(Lv (HMD.out.2.2 HP4.out)).2.1 9;rw[←HKS.out.2.2.2.2.2.2] at h1;exact h1
     have hwp:IntKind.i64.wrap (xn-mt)=xn-mt:=by rw[IntKind.wrap_i64];have:=HXB.out;omega
     clear hmt0 hmt1;by_cases eq9:xn-mt<le
     case neg=>
      have bq9:¬xn-mt<le:=eq9;have HNE:Hid (¬xn-mt<le):=eq9;clear eq9
      have HST:Hid (false=true↔ ∃y∈l.take (k+1),G6 inc us xn le y):=Gr HYB.out HBL.out ⟨fun h=>(by cases h),fun h=>by
       rcases h with h | h
       ·cases h
       ·obtain⟨d1,d2,d3,d4,m,hm,d5⟩:=Ht h;have d:y.kind=2∧y.src=0∧0≤y.now∧y.now≤1099511627776:=⟨d1,d2,d3,d4⟩;exact absurd (by rw[HKS.out.2.2.2.2.2.2,(HMD.out.2.1 m hm).2];exact d5.2.2.2.2) HNE.out⟩
      go_wp2_with fail;go_roundw
      case rel=>exact⟨k+1,false,by omega,by go_num,rfl,HST,HR6,HX6⟩
      case measure=>simp[intOf];omega
     have HP9:Hid (xn-mt<le):=eq9;have bq9:xn-mt<le:=eq9;clear eq9;have HST:Hid (true=true↔ ∃y∈l.take (k+1),G6 inc us xn le y):=Gr HYB.out HBL.out ⟨fun _=> .inr (Amy (md:=md) (HKS.out.1.symm.trans HP0.out) (HKS.out.2.1.symm.trans HP1.out) (by rw[←HKS.out.2.2.1];exact HP2.out) (by rw[←HKS.out.2.2.1];exact HP3.out) (HMD.out.2.2 HP4.out) (HKS.out.2.2.2.1.symm.trans HP5.out) (HKS.out.2.2.2.2.1.symm.trans HP6.out) (HKS.out.2.2.2.2.2.1.symm.trans HP7.out) HP8.out (by rw[←HKS.out.2.2.2.2.2.2];exact HP9.out)),fun _=>rfl⟩;go_wp2_with fail;go_roundw
     case rel=>exact⟨k+1,true,by omega,by go_num,rfl,HST,HR6,HX6⟩
     case measure=>simp[intOf];omega
   ·have hki':¬(k:Int)≤(i:Int):=by omega
    obtain rfl:k=i+1:=by omega
    have HEB:Hid (b=false→∀y∈n'.log,(y.kind==5)=false∧(y.kind==10)=false):=fun hb y hy=>by
     have key:¬Ro y:=fun he=>by
      have:=HBL.out.2 (HI2.out y hy he);rw[hb] at this
      cases this
     exact⟨by rw[beq_eq_false_iff_ne];exact fun e=>key (.inl e),by rw[beq_eq_false_iff_ne];exact fun e=>key (.inr e)⟩
    have CN:=HRk.out.notes;obtain⟨L,hL⟩:∃L,L=n'.log:=⟨_,rfl⟩;rw[←hL] at CN HEB;clear hL;have HI3:Hid (GH (J3 inc (l.take (i+1))) {n' with log:=[]}):=HI1.out;obtain⟨n9,hn9⟩:∃n9,n9={n' with log:=[]}:=⟨_,rfl⟩;have HN9:Hid (n9.log=[]):=by show _=_;rw[hn9]
    rw[←hn9] at CN HI3;clear hn9 HXk HRk HBL HI1 HI2;go_wp2_with (go_at_call 19;refine CN.mono ?_;rintro e w8' ⟨⟨v,rfl,hv⟩,a8,k8⟩;have A8:Hid (B7 w1 w8' g gt gh gw R n0 n9 (300*i+300)):=a8;have V8:Hid (Ee Hm Bj w8' v L):=hv.sl;clear a8 k8 hv CN;refine Ak ?_);unfold AA;obtain⟨on,cn,hvn,hcn,hcn2⟩:=V8.out.slice;obtain⟨ql,hql⟩:∃ql,ql=L.length:=⟨_,rfl⟩;rw[←hql] at hvn hcn;have HQL:Hid (ql=L.length):=hql;unfold maxLen at hcn2;subst hvn;clear hql;go_wp2_with fail;go_loopw [19] (fun s19 W=> ∃k:Nat,k≤ql∧s19=.int .i64 (k:Int)∧Hid (W=w8')) (fun s19 _=>ql-(intOf s19).toNat)
    case atStart=>exact⟨0,aB _,rfl,by first | exact rfl | exact trivial⟩
    case round=>
     obtain⟨k,hk,rfl,HW8⟩:=hrel;obtain rfl:=HW8.out;by_cases hkl:k<ql
     ·have hkl':(k:Int)<(ql:Int):=by omega
      obtain⟨gn,offn,curn,tyn,frn,y,rfl,hgn,hcn3,hyn⟩:=V8.out.at k hkl;have c5:wr.cell? ⟨gn,offn+k*47,none⟩=some (.int .i64 y.kind):=LP (k:=0) hgn hcn3 (by decide) rfl;have HY:Hid (y∈L):=List.mem_of_getElem? hyn;obtain⟨yk,hyk⟩:∃yk,yk=y.kind:=⟨_,rfl⟩;rw[←hyk] at c5
      cases b with
      | true=>
       clear hgn hcn3 hyn hyk;by_cases h5:yk=5
       ·have g5:(yk==5)=true:=by simpa using h5
        clear h5;go_wp2_with fail;go_roundw
        case rel=>exact⟨k+1,by omega,by go_num,by first | exact rfl | exact trivial⟩
        case measure=>simp[intOf];omega
       ·have g5:(yk==5)=false:=by simpa using h5
        clear h5;by_cases h10:yk=10
        focus
         have g10:(yk==10)=true:=by simpa using h10
        rotate_left
        focus
         have g10:(yk==10)=false:=by simpa using h10
        all_goals
         clear h10;go_wp2_with fail;go_roundw
         case rel=>exact⟨k+1,by omega,by go_num,by first | exact rfl | exact trivial⟩
         case measure=>simp[intOf];omega
      | false=>
       obtain⟨f1,f2⟩:=HEB.out rfl y HY.out;rw[←hyk] at f1 f2;clear hgn hcn3 hyn hyk;go_wp2_with fail;go_roundw
       case rel=>exact⟨k+1,by omega,by go_num,by first | exact rfl | exact trivial⟩
       case measure=>simp[intOf];omega
     ·have hkl':¬(k:Int)<(ql:Int):=by omega
      go_wp2_with fail;go_roundw
      case rel=>exact⟨i+1,n9,by omega,by omega,by go_num,A8,HI3.out,HN9.out⟩
      case measure=>simp[intOf];omega
end
end Go.Proofs.YtbhkoipcpcoooaaGreat
