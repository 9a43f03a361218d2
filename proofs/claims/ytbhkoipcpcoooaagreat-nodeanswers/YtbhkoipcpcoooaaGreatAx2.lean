import Derived.Test.YtbhkoipcpcoooaaGreatAx1
import Derived.Test.YtbhkoipcpcoooaaGreatJ26
import Derived.Test.YtbhkoipcpcoooaaGreatJ25
import Derived.Test.YtbhkoipcpcoooaaGreatJ9
import Derived.Test.YtbhkoipcpcoooaaGreatJ23
import Derived.Test.YtbhkoipcpcoooaaGreatJ3
import Derived.Test.YtbhkoipcpcoooaaGreatJ18
import Derived.Test.YtbhkoipcpcoooaaGreatJ13
import Derived.Test.YtbhkoipcpcoooaaGreatJ15
import Derived.Test.YtbhkoipcpcoooaaGreatJ14
import Derived.Test.YtbhkoipcpcoooaaGreatJ1
import Derived.Test.YtbhkoipcpcoooaaGreatProg
import Derived.WalkKit
import Derived.WalkSpells
import Derived.WalkLawsBesides
import Derived.BigQuiet
import Derived.KernelRfl
import Derived.Laws.StructEq
import Derived.Laws.Tables
import Derived.Laws.Rows
import Derived.Great.BuildSlice
import Derived.Laws.AppendOwn
import Derived.Laws.OwnMore
import Derived.Maps.AppendAt
import Derived.Laws.CopyRow
import Derived.Test.YtbhkoipcpcoooaaGreatJ2
import Derived.StillTailTactics
import Derived.StillTail
import Derived.Test.YtbhkoipcpcoooaaGreatJ12
import Derived.Lib.UnsafeStr
import Derived.Laws.AppendOwnNone
import Derived.Laws.BytesArg
import Derived.Laws.Bits64b
import Derived.OrdersHeld
import Derived.Test.YtbhkoipcpcoooaaGreatJ4
import Derived.Lib.BitFns
import Derived.WalkMore
import Derived.Laws.CopyOwn
import Derived.Lib.Bytealg
import Derived.Lib.BufferWrite
import Derived.Laws.MakeOwn
import Derived.OwnWalk
import Derived.BigRegion
import Derived.Lib.Hide
namespace Go.Proofs.YtbhkoipcpcoooaaGreat
set_option maxRecDepth 20000
set_option maxHeartbeats 64000000
open Go
open _root_.Array renaming getElem?_eq_some_iff → aA
open Go.Proofs.Tryz renaming prog → aB
open _root_.Nat renaming le_refl → aC, le_succ → aD, zero_le → aG
section
open Go.RowKit
theorem lawNAns_any(w:World)(num inc:Int)(s:IP)(va:Value)(l:List CJ)(hl:Ee Fj AO w va l)(from_:Int)(m:An)(hm:BB m)(now:Int):Calls aB 8 #[.int .i64 num,.int .i64 inc,.agg (Ci s),va,.int .i64 from_,.agg (Ae m),.int .i64 now] w fun e w'=>e=.returned (.bool true)∧Below w.heap.size w w':=by
 have HOKM:Hid (BB m):=hm;clear hm;obtain⟨oA,cA,hva,hcA,hcA2⟩:=hl.slice;obtain⟨q,hq⟩:∃q,q=l.length:=⟨_,rfl⟩;rw[←hq] at hva hcA;have HL:Hid (∀W,Below w.heap.size w W→Ee Fj AO W va l):=fun W hb=>hl.below hb;have HQ:Hid (q=l.length):=hq;unfold maxLen at hcA2;clear hl hq;subst hva;obtain⟨w0,hw0⟩:∃w0,w0=(w.alloc (.cells (Ci s) 24)).alloc (.cells (Ae m) 39):=⟨_,rfl⟩;have Z0:Hid (w0.heap[w.heap.size]?=some (.cells (Ci s) 24 (0,0))):=by show _=_;rw[hw0];exact Ah _ _ _ _ (Ab _ _ _ rfl)
 have ZM0:Hid (w0.heap[w.heap.size+1]?=some (.cells (Ae m) 39 (0,0))):=by show _=_;rw[hw0];exact Ab _ _ _ (by rw[Bf])
 have B0:Hid (Below w.heap.size w w0):=by show Below _ _ _;rw[hw0];exact((Below.refl _ _).alloc (aC _) _).alloc (by rw[Bf];exact aD _) _
 have HW:=LG w0;have hw0':=hw0.symm;clear hw0;by_cases hnew:Lz s num inc
 case neg=>
  have HN:Hid (∀W,Calls aB 10 #[.int .i64 num,.int .i64 inc,.agg (Ci s)] W fun e w'=>e=.returned (.tuple #[.pointer none,.int .i64 1])∧Below W.heap.size W w'):=fun W=>OX s num inc hnew W;clear hnew;go_enter Tryz.func8,Tryz.ntmps8;go_wp2_with (go_at_call 9;refine HW.mono ?_;rintro e w1 ⟨rfl,hb1⟩;have B1:Hid (Below w0.heap.size w0 w1):=hb1;clear hb1 HW hw0';refine Ak ?_);unfold AA;have Z1:Hid (w1.heap[w.heap.size]?=some (.cells (Ci s) 24 (0,0))):=(B1.out.block _ (aA.1 Z0.out).1).trans Z0.out;have CN:=HN.out w1
  go_wp2_with (first
   | ((with_reducible refine Aw 24 _ rfl ?_);refine AH IG rfl _ rfl w.heap.size 0 rfl _ _ _ (Ci s) rfl Z1.out (Ar _ _) ?_)
   | (go_at_call 10;refine CN.mono ?_;rintro e w2 ⟨rfl,hb2⟩))
  go_ret;have x1:=B0.out.trans (B1.out.mono B0.out.size);exact⟨rfl,x1.trans (hb2.mono x1.size)⟩
 obtain⟨R,n0,HD0⟩:∃R n0,Hid (R=KK s.ca s.ro s.pa s.idl s.hd∧n0=NW num inc s.le s.be s.ca (⟨[],[],[]⟩:Aq) ⟨s.wa,s.tr,s.ti,[],0⟩):=⟨_,_,rfl,rfl⟩;have HN:Hid (∀W,Calls aB 10 #[.int .i64 num,.int .i64 inc,.agg (Ci s)] W fun e w'=> ∃g gt gh gw,e=.returned (.tuple #[.pointer (some ⟨g,0,none⟩),.int .i64 0])∧DA W w' g gt gh gw R n0):=fun W=>by rw[HD0.out.1,HD0.out.2];exact LQ s num inc hnew W
 have HI0:Hid (Az 0 R n0):=by show Az _ _ _;rw[HD0.out.1,HD0.out.2];exact Ot hnew
 have HB0:Hid (1≤n0.beat):=by show 1≤_;rw[HD0.out.2];exact(Io hnew.1).2.2
 have HOK:Hid (Lz s num inc):=hnew;clear hnew;go_enter Tryz.func8,Tryz.ntmps8;go_wp2_with (go_at_call 9;refine HW.mono ?_;rintro e w1 ⟨rfl,hb1⟩;have B1:Hid (Below w0.heap.size w0 w1):=hb1;clear hb1 HW hw0';refine Ak ?_);unfold AA;have Z1:Hid (w1.heap[w.heap.size]?=some (.cells (Ci s) 24 (0,0))):=(B1.out.block _ (aA.1 Z0.out).1).trans Z0.out;have HZM:Hid (∀W,Below w1.heap.size w1 W→W.heap[w.heap.size+1]?=some (.cells (Ae m) 39 (0,0))):=fun W hW=>(hW.block _ (aA.1 ((B1.out.block _ (aA.1 ZM0.out).1).trans ZM0.out)).1).trans ((B1.out.block _ (aA.1 ZM0.out).1).trans ZM0.out);have HPB:Hid (w.heap.size+1<w1.heap.size):=(aA.1 (HZM.out w1 (Below.refl _ _))).1;have HBW:Hid (Below w.heap.size w w1):=B0.out.trans (B1.out.mono B0.out.size);have HZ:Hid (∀W,Below w1.heap.size w1 W→W.heap[w.heap.size]?=some (.cells (Ci s) 24 (0,0))):=fun W hW=>(hW.block _ (aA.1 Z1.out).1).trans Z1.out;have CN:=HN.out w1
 go_wp2_with (first
  | ((with_reducible refine Aw 24 _ rfl ?_);refine AH IG rfl _ rfl w.heap.size 0 rfl _ _ _ (Ci s) rfl Z1.out (Ar _ _) ?_)
  | (go_at_call 10;refine CN.mono ?_;rintro e w2 ⟨g,gt,gh,gw,rfl,a2⟩;have A2:Hid (DA w1 w2 g gt gh gw R n0):=a2;clear a2 CN HN;refine Ak ?_))
 unfold AA;clear B0 Z0 B1 ZM0;have HN0:Hid (n0.num=num∧n0.load=0):=by show _∧_;rw[HD0.out.2];exact⟨rfl,rfl⟩
 have H0:Hid (B7 w1 w2 g gt gh gw R n0 n0 0):=⟨A2.out,HI0.out,II.refl _,JS.refl _⟩;have HL0:Hid (n0.load≤((0:Nat):Int)):=by show _≤_;rw[HN0.out.2];decide
 clear A2 HD0;go_wp2_with fail;go_loopw [17] (fun s17 wr=> ∃(i:Nat) (n:Af Aq),i≤q∧i≤80∧s17=.int .i64 (i:Int)∧Hid (B7 w1 wr g gt gh gw R n0 n (300*i))∧Hid (n.load≤(i:Int))) (fun s17 _=>80-(intOf s17).toNat)
 case atStart=>exact⟨0,n0,aG _,aG _,rfl,H0,HL0⟩
 case round=>
  obtain⟨i,n,hi,hi80,rfl,HR,HLD⟩:=hrel;have HBr:Hid (Below w.heap.size w wr):=HBW.out.trans (HR.out.own.bel.mono HBW.out.size);clear H0 HL0;by_cases hand:i<q∧i<80
  case pos=>
   obtain⟨hlt,hlt2⟩:=hand;have hlt':(i:Int)<(q:Int):=by omega
   have hlt2':(i:Int)<80:=by omega
   obtain⟨ga,offa,cura,tya,fra,x,rfl,hga,hcca,hxa⟩:=(HL.out wr HBr.out).at i hlt;have KGa:Hid (wr.heap[ga]?=some (.cells cura tya fra)):=hga;have KCa:Hid (∀j,j<71→cura[offa+i*71+j]?=(AO x)[j]?):=hcca;have KS:Hid ((AO x).size=71):=Hk x;have CD:=HR.out.does HB0.out (by omega) x
   have HL9:Hid ((Fq R n x).load≤((i+1:Nat):Int)):=by
    have h1:=do_load R n x;have h2:=HLD.out;show _≤_;omega
   obtain⟨n',hn'⟩:∃n',n'=Fq R n x:=⟨_,rfl⟩;rw[←hn'] at CD HL9;clear hxa hga hcca hn'
   go_wp2_with (first
    | ((with_reducible refine Aw 41 _ rfl ?_);refine Eu (E:=Fj) Hq rfl _ rfl ga (offa+i*71) rfl cura tya fra (AO x) KS.out KGa.out KCa.out ?_)
    | (go_at_call 12;refine CD.mono ?_;rintro e w7 ⟨rfl,a7,k7⟩;have A7:Hid (B7 w1 w7 g gt gh gw R n0 n' (300*i+300)):=a7;clear a7 k7 CD))
   go_roundw
   case rel=>exact⟨i+1,n',by omega,by omega,by go_num,A7,HL9.out⟩
   case measure=>simp[intOf];omega
  have HA:Hid (OwnB w w1.heap.size wr g gt gh gw R n):=HR.out.own.toB HBW.out;have HI:Hid (Az 24000 R n):=HR.out.inn.le (by omega);have HLE:Hid (n.load≤80):=by show _≤_;have:=HLD.out;omega
  have HNN:Hid (n.num=num):=HR.out.par.num.trans HN0.out.1;have X0:Hid (wr.heap[w.heap.size+1]?=some (.cells (Ae m) 39 (0,0))):=HZM.out wr HR.out.own.bel;obtain⟨B,hB⟩:∃B,B=w1.heap.size:=⟨_,rfl⟩;rw[←hB] at HA HPB;have CN:=HA.out.notes;clear HR HLD HL HZM HZ HBr hB HN0
  have hex:(¬(i:Int)<(q:Int))∨((i:Int)<(q:Int)∧¬(i:Int)<80):=by
   by_cases h:i<q
   ·exact .inr ⟨by omega,fun e=>hand ⟨h,by omega⟩⟩
   ·exact .inl (by omega)
  clear hand;rcases hex with hlt' | ⟨hlt',hlt2'⟩
  all_goals
   go_wp2_with (go_at_call 19;refine CN.mono ?_;rintro e w3 ⟨⟨v3,rfl,_⟩,a3,k3,_⟩;have A3:Hid (OwnB w B w3 g gt gh gw R _):=a3;have X3:Hid (w3.heap[w.heap.size+1]?=some (.cells (Ae m) 39 (0,0))):=k3.row X0.out msg_tyD;clear a3 k3 CN;refine Ak ?_);unfold AA;have CL:=A3.out.letters;go_wp2_with (go_at_call 21;refine CL.mono ?_;rintro e w4 ⟨⟨v4,rfl,_⟩,a4,k4⟩;have A4:Hid (OwnB w B w4 g gt gh gw R _):=a4;have X4:Hid (w4.heap[w.heap.size+1]?=some (.cells (Ae m) 39 (0,0))):=k4.row X3.out msg_tyD;clear a4 k4 CL;refine Ak ?_);unfold AA;obtain⟨nA,hnA⟩:∃nA:Af Aq,nA={{n with log:=[]} with post:=[]}:=⟨_,rfl⟩;rw[←hnA] at A4;have HNA:Hid (nA.log=[]∧nA.post=[]∧nA.load≤80∧nA.num=num):=by show _∧_;rw[hnA];exact⟨rfl,rfl,HLE.out,HNN.out⟩
   have HIA:Hid (Az 24000 R nA):=by show Az _ _ _;rw[hnA];exact in_noPost (Aje HI.out)
   clear hnA A3 X3 X0 HA HI HLE HNN;have CS:=A4.out.status HIA.out now;obtain⟨V,hV⟩:∃V,V=KD nA now:=⟨_,rfl⟩;obtain⟨lo,hlo⟩:∃lo,lo=nA.load:=⟨_,rfl⟩;rw[←hV] at CS;have HV:Hid (V=KD nA now∧lo=nA.load):=⟨hV,hlo⟩;have HVF:Hid (V.size=11∧V.all (·.oneCell')=true):=by show _∧_;rw[hV];exact⟨rfl,by simp[KD,Ix,Value.oneCell']⟩
   have HVL:Hid (V[10]?=some (.int .i64 lo)):=by show _=_;rw[hV,hlo];rfl
   clear hV hlo;go_wp2_with (go_at_call 22;refine CS.mono ?_;rintro e w5 ⟨rfl,hb5⟩;have B5:Hid (Below w4.heap.size w4 w5):=hb5;clear hb5 CS;refine Ak ?_);unfold AA;have A5:Hid (OwnB w B w5 g gt gh gw R nA):=A4.out.grow B5.out;have X5:Hid (w5.heap[w.heap.size+1]?=some (.cells (Ae m) 39 (0,0))):=(B5.out.block _ (aA.1 X4.out).1).trans X4.out;have N5:Hid ((w5.alloc (.cells VZ 59)).heap[w5.heap.size]?=some (.cells VZ 59 (0,0))):=Ab _ _ _ rfl;obtain⟨w6,hw6⟩:∃w6,w6=(w5.alloc (.cells VZ 59)).setRow w5.heap.size V:=⟨_,rfl⟩;have SR6:Hid ((w5.alloc (.cells VZ 59)).setRow w5.heap.size V=w6):=hw6.symm;have B6:Hid (Below w5.heap.size w5 w6):=by show Below _ _ _;rw[hw6];exact Aj ((Below.refl _ _).alloc (aC _) _) (aC _) _
   have S6':w6.heap[w5.heap.size]?=some (.cells V 59 (0,0)):=by rw[hw6];exact setRow_heap _ _ _ _ _ _ N5.out
   have A6:Hid (OwnB w B w6 g gt gh gw R nA):=A5.out.grow B6.out;have X6:w6.heap[w.heap.size+1]?=some (.cells (Ae m) 39 (0,0)):=(B6.out.block _ (aA.1 X5.out).1).trans X5.out;have HP1:Hid (w.heap.size+1<w5.heap.size):=(aA.1 X5.out).1;clear hw6;go_wp2_with ((with_reducible refine Bu 59 _ _ rfl ?_);refine BP Alg rfl _ _ rfl w5.heap.size V HVF.out rfl rfl _ N5.out rfl _ SR6.out ?_;refine Ak ?_);unfold AA;clear A4 X4 A5 X5 B5 B6 N5 SR6;obtain⟨p1,hp1⟩:∃p1,p1=w5.heap.size:=⟨_,rfl⟩;rw[←hp1] at S6' HP1 ⊢;have S6:Hid (w6.heap[p1]?=some (.cells V 59 (0,0))):=S6';have km:w6.cell? ⟨w.heap.size+1,0,none⟩=some (.int .i64 m.kind):=by rw[cell_of_row _ _ _ _ _ _ X6];exact DB m
   have fz:w6.frozen? ⟨w.heap.size+1,0,none⟩=false:=FZ X6 rfl;obtain⟨mm,hmm⟩:∃mm:An,mm={m with kind:=6}:=⟨_,rfl⟩;have HMM:Hid (BB mm):=by show BB _;rw[hmm];exact HOKM.out
   obtain⟨w7,hw7⟩:∃w7,w7=w6.setCell ⟨w.heap.size+1,0,none⟩ (.int .i64 6):=⟨_,rfl⟩;have X7:w7.heap[w.heap.size+1]?=some (.cells (Ae mm) 39 (0,0)):=by rw[hw7,heap_setCell_same w6 _ _ _ _ _ X6,msA_kind,hmm]
   have K7:Hid (As (Cq (w.heap.size+1)) w6 w7):=by show As _ _ _;rw[hw7];exact⟨rfl,rfl,rfl,by simp[World.setCell],fun k' _ e=>heap_setCell_other w6 ⟨w.heap.size+1,0,none⟩ k' _ e⟩
   have A7:Hid (OwnB w B w7 g gt gh gw R nA):=A6.out.set (aD _) HPB.out K7.out;have S7:Hid (w7.heap[p1]?=some (.cells V 59 (0,0))):=K7.out.heap S6.out (by unfold Cq;have:=HP1.out;omega);have hw7':=hw7.symm;obtain⟨mi,hmi⟩:∃mi,mi=Ad mm 0:=⟨_,rfl⟩;obtain⟨ep,hep⟩:∃ep,ep=Ad mm 1:=⟨_,rfl⟩;obtain⟨sq,hsq⟩:∃sq,sq=Ad mm 11:=⟨_,rfl⟩;obtain⟨hd,hhd⟩:∃hd,hd=mm.head:=⟨_,rfl⟩;have m1:w7.cell? ⟨w.heap.size+1,1,none⟩=some (.int .i64 mi):=by rw[hmi];exact(Dm HMM.out X7).n 0 (by decide)
   have m2:w7.cell? ⟨w.heap.size+1,2,none⟩=some (.int .i64 ep):=by rw[hep];exact(Dm HMM.out X7).n 1 (by decide)
   have m12:w7.cell? ⟨w.heap.size+1,12,none⟩=some (.int .i64 sq):=by rw[hsq];exact(Dm HMM.out X7).n 11 (by decide)
   have HHB:Hid (AK hd):=by show AK _;rw[hhd];exact HMM.out.2.2.2
   have HHS:Hid ((hv hd).size=13):=by show _=_;rw[EW];exact HHB.out.1
   have HHC:Hid (∀j,j<13→(Ae mm)[40+j]?=(hv hd)[j]?):=fun j hj=>by rw[hhd];exact Lr HMM.out j hj
   have HMZ:Hid ((Ae mm).size=53):=BG HMM.out;obtain⟨m6,hm6⟩:∃m6,m6=Cz 6 mi ep 0 0 0 0 0 0 0 0 0 sq 0 (Z,Z) hd:=⟨_,rfl⟩;have HM6:Hid (m6=Cz 6 mi ep 0 0 0 0 0 0 0 0 0 sq 0 (Z,Z) hd):=hm6;have HO6:Hid (BB m6):=by show BB _;rw[hm6];exact Om _ _ _ _ _ _ _ _ _ _ _ _ _ _ ⟨BO,BO⟩ HHB.out
   have HF6:Hid ((Ae m6).size=53∧(Ae m6).all (·.oneCell')=true):=CY HO6.out;have b6:∀W,(Instr.build 39 #[(0,.int .i64 6),(1,.int .i64 mi),(12,.int .i64 sq),(2,.int .i64 ep),(15,.agg (hv hd))]).run aB W=.ok (.agg (Ae m6)) W:=fun W=>by rw[hm6];exact Akh mi sq ep HHB.out.1 W
   obtain⟨w8,hw8⟩:∃w8,w8=w7.setRow (w.heap.size+1) (Ae m6):=⟨_,rfl⟩;have SR8:Hid (w7.setRow (w.heap.size+1) (Ae m6)=w8):=hw8.symm;have K8:Hid (As (Cq (w.heap.size+1)) w7 w8):=by show As _ _ _;rw[hw8];exact IT _ _ _
   have X8:w8.heap[w.heap.size+1]?=some (.cells (Ae m6) 39 (0,0)):=by rw[hw8];exact setRow_heap _ _ _ _ _ _ X7
   have A8:Hid (OwnB w B w8 g gt gh gw R nA):=A7.out.set (aD _) HPB.out K8.out;have S8:Hid (w8.heap[p1]?=some (.cells V 59 (0,0))):=K8.out.heap S7.out (by unfold Cq;have:=HP1.out;omega);clear hmm hw7 hmi hep hsq hhd hm6 hw8 S6' hp1 A6 A7 S6 S7 X6
   go_wp2_with (first
    | ((with_reducible refine Aw 35 _ rfl ?_);refine AH JT rfl _ rfl (w.heap.size+1) 40 rfl _ _ _ (hv hd) HHS.out X7 HHC.out ?_)
    | ((with_reducible refine Cy 39 _ rfl ?_);refine Ll rfl _ _ rfl #[(0,.int .i64 6),(1,.int .i64 mi),(12,.int .i64 sq),(2,.int .i64 ep),(15,.agg (hv hd))] (by simp only[List.map_toArray,List.map_cons,List.map_nil];rfl) _ (b6 _) ?_)
    | ((with_reducible refine Bu 39 _ _ rfl ?_);refine BP BD rfl _ _ rfl (w.heap.size+1) (Ae m6) HF6.out rfl rfl _ X7 HMZ.out _ SR8.out ?_;refine Ak ?_))
   unfold AA;clear X7 m1 m2 m12 km fz hw7' b6 SR8 K7 K8 HMZ HHC;have CDt:=Mt m6 HO6.out w8;obtain⟨bs,hbs⟩:∃bs,bs=(FM m6).1:=⟨_,rfl⟩;rw[←hbs] at CDt;have HBS:Hid (bs=(FM m6).1):=hbs;have HBL:Hid (bs.length≤140737488355328):=by show _≤_;rw[hbs];exact Nat.le_trans (Mr HO6.out) (by decide)
   clear hbs
   go_wp2_with (first
    | ((with_reducible refine Aw 39 _ rfl ?_);refine AH BD rfl _ rfl (w.heap.size+1) 0 rfl _ _ _ (Ae m6) HF6.out.1 X8 (Ar _ _) ?_)
    | (go_at_call 33;refine CDt.mono ?_;rintro e w9 ⟨rfl,hb9⟩;have B9:Hid (Below w8.heap.size w8 w9):=hb9;clear hb9 CDt;refine Ak ?_))
   unfold AA;have A9:Hid (OwnB w B w9 g gt gh gw R nA):=A8.out.grow B9.out;have X9:Hid (w9.heap[w.heap.size+1]?=some (.cells (Ae m6) 39 (0,0))):=(B9.out.block _ (aA.1 X8).1).trans X8;have S9:Hid (w9.heap[p1]?=some (.cells V 59 (0,0))):=(B9.out.block _ (aA.1 S8.out).1).trans S8.out;have CT:=A9.out.take HIA.out (by decide) from_ bs HBL.out now;obtain⟨nT,hnT⟩:∃nT,nT=DC (Al R) nA from_ bs now:=⟨_,rfl⟩;rw[←hnT] at CT;have HT:=ans_cases HIA.out from_ mi ep sq now hd HHB.out;rw[←HM6.out, ←HBS.out, ←hnT] at HT;have HTC:Hid _:=HT;clear hnT HT A8 X8 S8 B9 HBS HBL;go_wp2_with (go_at_call 32;refine CT.mono ?_;rintro e w10 ⟨rfl,a10,k10⟩;have A10:Hid (OwnB w B w10 g gt gh gw R nT):=a10;have X10:Hid (w10.heap[w.heap.size+1]?=some (.cells (Ae m6) 39 (0,0))):=k10.row X9.out msg_tyD;have S10:Hid (w10.heap[p1]?=some (.cells V 59 (0,0))):=k10.row S9.out sta_tyD;clear a10 k10 CT;refine Ak ?_);unfold AA;have CL:=A10.out.letters
   go_wp2_with (go_at_call 21;refine CL.mono ?_;rintro e w11 ⟨⟨v11,rfl,hv11⟩,a11,k11⟩;have V11:Hid (Fc B w11 nT.num v11 nT.post):=hv11;have A11:Hid (OwnB w B w11 g gt gh gw R {nT with post:=[]}):=a11;have X11:Hid (w11.heap[w.heap.size+1]?=some (.cells (Ae m6) 39 (0,0))):=k11.row X10.out msg_tyD;have S11:Hid (w11.heap[p1]?=some (.cells V 59 (0,0))):=k11.row S10.out sta_tyD;clear a11 k11 hv11 CL;refine Ak ?_);unfold AA;have CN:=A11.out.notes;go_wp2_with (go_at_call 19;refine CN.mono ?_;rintro e w12 ⟨⟨v12,rfl,hv12⟩,a12,k12,kp12⟩;have V12:Hid (Fc B w12 nT.num v11 nT.post):=kp12 _ _ _ V11.out;have L12:Hid (BJ B w12 v12 nT.log):=hv12;have A12:Hid (OwnB w B w12 g gt gh gw R {{nT with post:=[]} with log:=[]}):=a12;have X12:Hid (w12.heap[w.heap.size+1]?=some (.cells (Ae m6) 39 (0,0))):=k12.row X11.out msg_tyD;have S12:Hid (w12.heap[p1]?=some (.cells V 59 (0,0))):=k12.row S11.out sta_tyD;clear a12 k12 kp12 hv12 CN;refine Ak ?_);unfold AA;clear A9 X9 S9 A10 X10 S10 V11 A11 X11 S11;obtain⟨nZ,hnZ⟩:∃nZ:Af Aq,nZ={{nT with post:=[]} with log:=[]}:=⟨_,rfl⟩;rw[←hnZ] at A12;have HNZ:Hid (nZ={{nT with post:=[]} with log:=[]}):=hnZ;clear hnZ
   have HIZ:Hid (∃M,Az M R nZ):=by
    show∃_,_;rw[HNZ.out];rcases HTC.out with e | ⟨_,c,a,_,_,_,_,e⟩
    ·rw[e];exact⟨_,Aje (in_noPost (EJ HIA.out _))⟩
    ·rw[e];have h:=HIA.out;exact⟨24000,h.tab,h.room,h.act,h.hold,h.wait,h.head,by have h1:=h.load;have h2:=HNA.out.2.2.1;exact⟨by show 0≤(if _ then _ else _:Int);rw[if_pos (by omega)];have:=h1.1;omega,by show(if _ then _ else _:Int)≤_;rw[if_pos (by omega)];omega⟩,h.last,by show 0+nA.tab.c.length≤24000;have:=h.log;omega,aG _,h.cache⟩
   obtain⟨MZ,hiZ⟩:=HIZ.out;have CS:=A12.out.status hiZ now;obtain⟨V2,hV2⟩:∃V2,V2=KD nZ now:=⟨_,rfl⟩;rw[←hV2] at CS;have HV2:Hid (V2=KD nZ now):=hV2;have HVF2:Hid (V2.size=11∧V2.all (·.oneCell')=true):=by show _∧_;rw[hV2];exact⟨rfl,by simp[KD,Ix,Value.oneCell']⟩
   clear hV2 hiZ;go_wp2_with (go_at_call 22;refine CS.mono ?_;rintro e w13 ⟨rfl,hb13⟩;have B13:Hid (Below w12.heap.size w12 w13):=hb13;clear hb13 CS;refine Ak ?_);unfold AA;have N13:Hid ((w13.alloc (.cells VZ 59)).heap[w13.heap.size]?=some (.cells VZ 59 (0,0))):=Ab _ _ _ rfl;obtain⟨w14,hw14⟩:∃w14,w14=(w13.alloc (.cells VZ 59)).setRow w13.heap.size V2:=⟨_,rfl⟩;have SR14:Hid ((w13.alloc (.cells VZ 59)).setRow w13.heap.size V2=w14):=hw14.symm;have B14:Hid (Below w12.heap.size w12 w14):=by show Below _ _ _;rw[hw14];exact Aj (B13.out.alloc B13.out.size _) B13.out.size _
   have T14:w14.heap[w13.heap.size]?=some (.cells V2 59 (0,0)):=by rw[hw14];exact setRow_heap _ _ _ _ _ _ N13.out
   have V14:Hid (Fc B w14 nT.num v11 nT.post):=V12.out.below B14.out;have L14:Hid (BJ B w14 v12 nT.log):=L12.out.below B14.out;have X14:w14.heap[w.heap.size+1]?=some (.cells (Ae m6) 39 (0,0)):=(B14.out.block _ (aA.1 X12.out).1).trans X12.out;have S14:w14.heap[p1]?=some (.cells V 59 (0,0)):=(B14.out.block _ (aA.1 S12.out).1).trans S12.out;have HB14:Hid (Below w.heap.size w w14):=A12.out.bel.trans (B14.out.mono A12.out.bel.size);clear hw14;go_wp2_with ((with_reducible refine Bu 59 _ _ rfl ?_);refine BP Alg rfl _ _ rfl w13.heap.size V2 HVF2.out rfl rfl _ N13.out rfl _ SR14.out ?_;refine Ak ?_);unfold AA;clear N13 SR14 B13 B14 V12 L12 X12 S12 A12;obtain⟨p2,hp2⟩:∃p2,p2=w13.heap.size:=⟨_,rfl⟩;rw[←hp2] at T14 ⊢;clear hp2;rcases HTC.out with hT | ⟨hs0,c,a,hcok,hch,ho7,hr7,hT⟩
   focus
    have HPN:Hid (nT.post=[]∧nT.log=[⟨13,nA.num,0,0,0,0,0,0,Z,(Z,Z)⟩]):=by
     show _∧_;rw[hT];exact⟨HNA.out.2.1,by show nA.log++[_]=_;rw[HNA.out.1];rfl⟩
    have hV2V:V2=V:=by rw[HV2.out,HV.out.1,HNZ.out,hT];rfl
    obtain⟨yN,hyN⟩:∃yN:AP,yN=⟨13,nA.num,0,0,0,0,0,0,Z,(Z,Z)⟩:=⟨_,rfl⟩;have HYN:Hid (yN.kind=13):=by show _=_;rw[hyN]
    have hv:=V14.out;have hn:=L14.out;rw[HPN.out.1] at hv;rw[HPN.out.2, ←hyN] at hn;obtain⟨ol,cl,rfl,_,_⟩:=hv.sl.slice;obtain⟨gn,capn,curn,tyn,frn,rfl,hcap,hmx,hgn,hcn⟩:=Aen hn (by simp)
    have c13:w14.cell? ⟨gn,0,none⟩=some (.int .i64 13):=by
     rw[cell_of_row _ _ _ _ _ _ hgn, ←HYN.out];have:=hcn 0 (by simp) 0 (by decide);exact this.trans (F0 yN rfl)
    subst hV2V;have e0:∀W,(Op.equalIn 10000 59 (.agg V2) (.agg V2)).run aB W=.ok true W:=fun W=>by rw[HV2.out];exact eqS20 nZ now W
    have eg:=egS20;simp only[List.length_nil,List.length_cons,Nat.zero_add] at hcap ⊢;clear hv hn hgn hcn hyN hT HPN V14 L14 HYN hmx X14
    go_wp2_with (first
     | ((with_reducible refine Aw 59 _ rfl ?_);refine AH Alg rfl _ rfl p1 0 rfl _ _ _ V2 HVF2.out.1 S14 (Ar _ _) ?_)
     | ((with_reducible refine Aw 59 _ rfl ?_);refine AH Alg rfl _ rfl p2 0 rfl _ _ _ V2 HVF2.out.1 T14 (Ar _ _) ?_))
    go_ret;exact⟨rfl,HB14.out⟩
   have HPN:Hid (nT.post=[(from_,Fb (Cz 7 mi ep 0 0 0 0 a 0 0 0 0 sq 0 c Z))]∧nT.log=[]∧nT.num=num):=by
    show _∧_∧_;rw[hT];exact⟨by show nA.post++_=_;rw[HNA.out.2.1];rfl,HNA.out.1,HNA.out.2.2.2⟩
   have hlb:V2[10]?=some (.int .i64 (lo+1)):=by
    rw[HV2.out,HNZ.out,hT,HV.out.2];show some (Value.int .i64 (if nA.load<281474976710655 then nA.load+1 else nA.load))=_;rw[if_pos (by have:=HNA.out.2.2.1;omega)]
   have hlo0:0≤lo∧lo≤80:=by rw[HV.out.2];exact⟨HIA.out.load.1,HNA.out.2.2.1⟩
   have hwr:IntKind.i64.wrap (lo+1)=lo+1:=by rw[IntKind.wrap_i64];omega
   obtain⟨m7,hm7⟩:∃m7,m7=Cz 7 mi ep 0 0 0 0 a 0 0 0 0 sq 0 c Z:=⟨_,rfl⟩;have e70:m7.cube=c∧Ad m7 6=a:=by rw[hm7];exact⟨rfl,rfl⟩
   have b7:∀W,(Instr.build 39 #[(0,.int .i64 7),(1,.int .i64 mi),(12,.int .i64 sq),(2,.int .i64 ep),(7,.int .i64 a),(14,.agg (cv c.1 c.2))]).run aB W=.ok (.agg (Ae m7)) W:=fun W=>by rw[hm7];exact XZ mi sq ep a hcok.1.1 hcok.2.1 W
   have hv:=V14.out;have hn:=L14.out;rw[HPN.out.1,HPN.out.2.2, ←hm7] at hv;rw[HPN.out.2.1] at hn;rw[←hm7] at ho7 hr7;have HO7:Hid (BB m7∧Ca m7=true∧m7.cube=c∧Ad m7 6=a):=⟨ho7,hr7,e70⟩;have HCC:Hid (GK c∧has c.1 c.2 hd=true):=⟨hcok,hch⟩;obtain⟨on,cn,rfl,_,_⟩:=hn.sl.slice;obtain⟨gl,capl,curl,tyl,frl,rfl,hcap,hmx,hgl,hcl⟩:=post_row hv;have HGL:Hid (w14.heap[gl]?=some (.cells curl tyl frl)):=hgl;have HCL:Hid (curl[0]?=some (.int .i64 num)∧curl[1]?=some (.int .i64 from_)):=⟨by have:=hcl 0 (by decide);simpa[KV] using this,by have:=hcl 1 (by decide);simpa[KV] using this⟩
   have c2:w14.cell? ⟨gl,2,none⟩=some (.string ⟨(Fb m7).toArray⟩):=by
    rw[cell_of_row _ _ _ _ _ _ hgl];have:=hcl 2 (by decide);simpa[KV] using this
   have hsb:(from_==0)=false:=by simpa using hs0
   obtain⟨bb,hbb⟩:∃bb,bb=Fb m7:=⟨_,rfl⟩;rw[←hbb] at c2
   have HBB:Hid (GG bb=(m7,0)∧bb.length≤140737488355328):=by
    show _∧_;rw[hbb];refine⟨NI (dec_enc ho7 hr7),?_⟩;have h1:=Mr ho7;unfold FM at h1;rw[if_pos hr7] at h1;exact Nat.le_trans h1 (by decide)
   obtain⟨w14x,hcapd,hcv,hb15,hbsl⟩:∃w15 cap,(convert 9 70 (.string ⟨bb.toArray⟩)).run aB w14=.ok (.slice (some ⟨w14.heap.size,0,none⟩) bb.length cap) w15∧Below w14.heap.size w14 w15∧Br w15 (.slice (some ⟨w14.heap.size,0,none⟩) bb.length cap) bb:=by
    obtain⟨cap,w1,h1,h2,h3⟩:=Agf w14 bb HBB.out.2;exact⟨w1,cap,h1,h2,h3⟩
   have CDec:=Aip _ _ w14x hbsl HBB.out.2;unfold Yq at CDec;rw[HBB.out.1] at CDec;have B15:Hid (Below w14.heap.size w14 w14x):=hb15;have HVL2:Hid (V2[10]?=some (.int .i64 (lo+1))):=hlb;have HT14:Hid (w14.heap[p2]?=some (.cells V2 59 (0,0))):=T14;have HS14:Hid (w14.heap[p1]?=some (.cells V 59 (0,0))):=S14;have HX14:Hid (w14.heap[w.heap.size+1]?=some (.cells (Ae m6) 39 (0,0))):=X14;simp only[List.length_nil] at ⊢;clear hv hn hgl hcl hmx hbb hm7 hT HPN V14 L14 hb15 hbsl hlb hlo0 T14 S14 X14 hcok hch ho7 hr7 e70 hs0;go_wp2_with (go_at_call 34;refine CDec.mono ?_;rintro e w16 ⟨rfl,hb16⟩;have B16:Hid (Below w14.heap.size w14 w16):=B15.out.trans (hb16.mono B15.out.size);clear hb16 CDec hcv c2;refine Ak ?_);unfold AA;have HF7:Hid ((Ae m7).size=53∧(Ae m7).all (·.oneCell')=true):=CY HO7.out.1;have N16:Hid ((w16.alloc (.cells Ao 39)).heap[w16.heap.size]?=some (.cells Ao 39 (0,0))):=Ab _ _ _ rfl;obtain⟨w17,hw17⟩:∃w17,w17=(w16.alloc (.cells Ao 39)).setRow w16.heap.size (Ae m7):=⟨_,rfl⟩;have SR17:Hid ((w16.alloc (.cells Ao 39)).setRow w16.heap.size (Ae m7)=w17):=hw17.symm;have B17:Hid (Below w14.heap.size w14 w17):=by show Below _ _ _;rw[hw17];exact Aj (B16.out.alloc B16.out.size _) B16.out.size _
   have M17:w17.heap[w16.heap.size]?=some (.cells (Ae m7) 39 (0,0)):=by rw[hw17];exact setRow_heap _ _ _ _ _ _ N16.out
   clear hw17;go_wp2_with ((with_reducible refine Bu 39 _ _ rfl ?_);refine BP BD rfl _ _ rfl w16.heap.size (Ae m7) HF7.out rfl rfl _ N16.out rfl _ SR17.out ?_;refine Ak ?_);unfold AA;obtain⟨p3,hp3⟩:∃p3,p3=w16.heap.size:=⟨_,rfl⟩;rw[←hp3] at M17 ⊢;have HK:Hid (∀W,Below w14.heap.size w14 W→W.heap[gl]?=some (.cells curl tyl frl)∧W.heap[w.heap.size+1]?=some (.cells (Ae m6) 39 (0,0))):=fun W hW=>⟨(hW.block _ (aA.1 HGL.out).1).trans HGL.out,(hW.block _ (aA.1 HX14.out).1).trans HX14.out⟩;have q2:w17.cell? ⟨p2,10,none⟩=some (.int .i64 (lo+1)):=by rw[cell_of_row _ _ _ _ _ _ ((B17.out.block _ (aA.1 HT14.out).1).trans HT14.out)];exact HVL2.out
   have q1:w17.cell? ⟨p1,10,none⟩=some (.int .i64 lo):=by rw[cell_of_row _ _ _ _ _ _ ((B17.out.block _ (aA.1 HS14.out).1).trans HS14.out)];exact HVL.out
   have X17:=(HK.out w17 B17.out).2;have HCS:Hid ((cv c.1 c.2).size=26∧(cv c.1 c.2).all (·.oneCell')=true):=⟨Bq _ _ HCC.out.1.1.1 HCC.out.1.2.1,Ii _ _⟩;have HCC7:Hid (∀j,j<26→(Ae m7)[14+j]?=(cv c.1 c.2)[j]?):=fun j hj=>by have:=Kq HO7.out.1 j hj;rw[HO7.out.2.2.1] at this;exact this
   have HHC6:Hid (∀j,j<13→(Ae m6)[40+j]?=(hv hd)[j]?):=fun j hj=>by have:=Lr HO6.out j hj;rw[HM6.out] at this ⊢;exact this
   have CH:=hasHead_any c.1 c.2 hd HCC.out.1.1 HCC.out.1.2 HHB.out w17;rw[HCC.out.2] at CH;clear hp3 N16 SR17 B16 B15
   go_wp2_with (first
    | ((with_reducible refine Aw 37 _ rfl ?_);refine AH Es rfl _ rfl p3 14 rfl _ _ _ (cv c.1 c.2) HCS.out.1 M17 HCC7.out ?_)
    | ((with_reducible refine Aw 35 _ rfl ?_);refine AH JT rfl _ rfl (w.heap.size+1) 40 rfl _ _ _ (hv hd) HHS.out X17 HHC6.out ?_)
    | (go_at_call 35;refine CH.mono ?_;rintro e w18 ⟨rfl,hb18⟩;have B18:Hid (Below w17.heap.size w17 w18):=hb18;clear hb18 CH q1 q2;refine Ak ?_))
   unfold AA;have N18:Hid ((w18.alloc (.cells AE 37)).heap[w18.heap.size]?=some (.cells AE 37 (0,0))):=Ab _ _ _ rfl;obtain⟨w19,hw19⟩:∃w19,w19=(w18.alloc (.cells AE 37)).setRow w18.heap.size (cv c.1 c.2):=⟨_,rfl⟩;have SR19:Hid ((w18.alloc (.cells AE 37)).setRow w18.heap.size (cv c.1 c.2)=w19):=hw19.symm;have B19:Hid (Below w17.heap.size w17 w19):=by show Below _ _ _;rw[hw19];exact Aj (B18.out.alloc B18.out.size _) B18.out.size _
   have C19:w19.heap[w18.heap.size]?=some (.cells (cv c.1 c.2) 37 (0,0)):=by rw[hw19];exact setRow_heap _ _ _ _ _ _ N18.out
   clear hw19;go_wp2_with ((with_reducible refine Bu 37 _ _ rfl ?_);refine BP Es rfl _ _ rfl w18.heap.size (cv c.1 c.2) HCS.out rfl rfl _ N18.out rfl _ SR19.out ?_;refine Ak ?_);unfold AA;obtain⟨p4,hp4⟩:∃p4,p4=w18.heap.size:=⟨_,rfl⟩;rw[←hp4] at C19 ⊢;have B149:Hid (Below w14.heap.size w14 w19):=B17.out.trans (B19.out.mono B17.out.size);obtain⟨h1,X19⟩:=HK.out w19 B149.out;have M19:w19.heap[p3]?=some (.cells (Ae m7) 39 (0,0)):=(B19.out.block _ (aA.1 M17).1).trans M17;have g0:w19.cell? ⟨gl,0,none⟩=some (.int .i64 num):=by rw[cell_of_row _ _ _ _ _ _ h1];exact HCL.out.1
   have g1:w19.cell? ⟨gl,1,none⟩=some (.int .i64 from_):=by rw[cell_of_row _ _ _ _ _ _ h1];exact HCL.out.2
   have n1:w19.cell? ⟨w.heap.size+1,1,none⟩=some (.int .i64 mi):=by have:=(Dm HO6.out X19).n 0 (by decide);rw[HM6.out] at this;exact this
   have n2:w19.cell? ⟨w.heap.size+1,2,none⟩=some (.int .i64 ep):=by have:=(Dm HO6.out X19).n 1 (by decide);rw[HM6.out] at this;exact this
   have n12:w19.cell? ⟨w.heap.size+1,12,none⟩=some (.int .i64 sq):=by have:=(Dm HO6.out X19).n 11 (by decide);rw[HM6.out] at this;exact this
   have n7:w19.cell? ⟨p3,7,none⟩=some (.int .i64 a):=by have:=(Dm HO7.out.1 M19).n 6 (by decide);rw[HO7.out.2.2.2] at this;exact this
   obtain⟨V7,hV7⟩:∃V7,V7=Ae m7:=⟨_,rfl⟩
   have eM:∀W,(Op.equalIn 10000 39 (.agg V7) (.agg V7)).run aB W=.ok true W:=fun W=>by
    rw[hV7,Aqw HO7.out.1 HO7.out.1 W,(Ag7 HO7.out.1 HO7.out.1).2 rfl]
   have eg:=egM;rw[←hV7] at M19 b7 HF7;have HBZ:Hid (Below w.heap.size w w19):=HB14.out.trans (B149.out.mono HB14.out.size);clear hV7 hp4 N18 SR19 B18 B19 B17 B149 M17 X17 X19 h1
   go_wp2_with (first
    | ((with_reducible refine Aw 39 _ rfl ?_);refine AH BD rfl _ rfl p3 0 rfl _ _ _ V7 HF7.out.1 M19 (Ar _ _) ?_)
    | ((with_reducible refine Aw 37 _ rfl ?_);refine AH Es rfl _ rfl p4 0 rfl _ _ _ (cv c.1 c.2) HCS.out.1 C19 (Ar _ _) ?_)
    | ((with_reducible refine Cy 39 _ rfl ?_);refine IK rfl _ _ rfl #[(0,.int .i64 7),(1,.int .i64 mi),(12,.int .i64 sq),(2,.int .i64 ep),(7,.int .i64 a),(14,.agg (cv c.1 c.2))] (by simp only[List.map_toArray,List.map_cons,List.map_nil];rfl) (.agg V7) (b7 _) ?_))
   go_ret;exact⟨rfl,HBZ.out⟩
end
end Go.Proofs.YtbhkoipcpcoooaaGreat
