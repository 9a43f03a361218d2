import Derived.Test.YtbhkoipcpcoooabGreatJ24
import Derived.Test.YtbhkoipcpcoooabGreatJ17
namespace Go.Proofs.YtbhkoipcpcoooabGreat
set_option maxRecDepth 20000
set_option maxHeartbeats 64000000
open Go
open Go.Proofs.Tryz renaming prog → aA, ntmps5 → aJ, func5 → aL
open Go.RowKit.Below renaming refl → aB
open _root_.List renaming map_toArray → aC, map_nil → aG, map_cons → aI
open Go.Instr renaming build → aD
open _root_.Nat renaming le_refl → aH, le_trans → aM
open _root_.Option.some renaming injEq → aK
section
open Go.RowKit
theorem Dw{ops:Array Oper}{rest:List Oper}{o:Oper}{a:Act}{w:World}{Q:Exit→Act→World→Prop}(hw:Region.wanted o (yielded ops a.tmps)=true)(t:TypeId)(ps:Array (Nat×Operand))(ho:o.op=.build t ps)(qs:Array (Nat×Value))(hq:(ps.map fun(i,x)=>(i,a.eval x))=qs)(v:Value)
  (hr:(aD t qs).run aA w=.ok v w) (h:wpList aA ops Q rest (a.put o.dst v) w):wpList aA ops Q (o::rest) a w:=by
 refine wpList_step fun K hK=> ?_;rw[if_pos hw];unfold Oper.wp;rw[Tg ho a w qs hq v hr];exact hK _ _ h
def QZ:H6:=⟨2,2,2,4,4,0,0,1,0,4,64,2,1,2,1,3,3⟩
theorem Ab2:PW QZ 1 1:=by
 refine⟨by kernel_rfl,by decide,by decide,by decide,by decide⟩
set_option maxRecDepth 100000 in
theorem Td(w:World):Calls aA 12 #[] w fun e w'=>e=.returned (.agg (DN QZ))∧Below w.heap.size w w':=by
 have BA:Hid (Below w.heap.size w (w.alloc (.cells (DN QZ) 50))):=(aB _ _).alloc (aH _) _;have SA:Hid ((w.alloc (.cells (DN QZ) 50)).heap[w.heap.size]?=some (.cells (DN QZ) 50 (0,0))):=Ac _ _ _ rfl;go_enter Tryz.func12,Tryz.ntmps12;go_wp2_with (refine Du LG rfl _ _ rfl w.heap.size (DN QZ) (Abn _) rfl rfl stZ (Ac _ _ _ rfl) rfl _ (BD _ _ _ _ _ rfl) ?_);refine JG LG (p:=0) rfl rfl w.heap.size rfl (DN QZ) rfl SA.out ⟨rfl,BA.out⟩
theorem W9(s:H6)(num inc:Int)(h:PW s num inc)(w:World):
  Calls aA 11 #[.int .i64 num,.int .i64 inc,.agg (DN s)] w fun e w'=> ∃g gt gh gw,e=.returned (.tuple #[.pointer (some ⟨g,0,none⟩),.int .i64 0])∧EM w w' g gt gh gw (JF s.ca s.ro s.pa s.idl s.hd) (U3 num inc s.le s.be s.ca (⟨[],[],[]⟩:Ay) ⟨s.wa,s.tr,s.ti,[],0⟩):=by
 refine(W7 s num inc h w).mono ?_;rintro e w' ⟨⟨g,gt,gh,gw,r,rfl,h1⟩,h2⟩;exact⟨g,gt,gh,gw,rfl,r,h1,h2⟩
theorem WU{B:Nat}{w:World}{v:Value}{C:List Di}(h:BZ B w v C)(hne:0<C.length):∃g cap cur t fr,v=.slice (some ⟨g,0,none⟩) C.length cap∧C.length≤cap∧cap≤maxLen∧w.heap[g]?=some (.cells cur t fr)∧∀i (hi:i<C.length),∀j,j<47→cur[i*47+j]?=(BL C[i])[j]?:=by
 have hs:=h.sl;obtain⟨_,⟨rfl,e0⟩ | ⟨g,cap,cur',rfl,_⟩⟩:=h
 ·omega
 ·obtain⟨o,cap2,e,h1,h2,h3⟩:=hs;simp only[Value.slice.injEq] at e;obtain⟨rfl,_,rfl⟩:=e;obtain⟨g1,off,cur,t,fr,e1,hg,_⟩:=h3 0 hne;simp only[aK,Addr.mk.injEq] at e1;obtain⟨rfl,rfl,_⟩:=e1;refine⟨g,cap,cur,t,fr,rfl,h1,h2,hg,fun i hi j hj=> ?_⟩;obtain⟨g2,off2,cur2,t2,fr2,e2,hg2,hc2⟩:=h3 i hi;simp only[aK,Addr.mk.injEq] at e2;obtain⟨rfl,rfl,_⟩:=e2;rw[hg] at hg2;simp only[aK,Obj.cells.injEq] at hg2;obtain⟨rfl,_,_⟩:=hg2;have:=hc2 j hj;rw[Nat.zero_add] at this;exact this
theorem XW(W:World):(aD 27 #[(0,.int .i64 1),(1,.int .i64 1),(2,.int .i64 1),(5,.int .i64 1),(8,.int .i64 2)]).run aA W=.ok (.agg (Ah NO)) W:=by
 unfold NO;rw[Hr];kernel_rfl
theorem XV(W:World):(aD 27 #[(0,.int .i64 3),(1,.int .i64 1),(11,.int .i64 1)]).run aA W=.ok (.agg (Ah NN)) W:=by
 unfold NN;rw[Hr];kernel_rfl
theorem XU(W:World):(aD 27 #[(0,.int .i64 7),(1,.int .i64 1),(12,.int .i64 1),(2,.int .i64 1),(7,.int .i64 5)]).run aA W=.ok (.agg (Ah NM)) W:=by
 unfold NM;rw[Hr];kernel_rfl
theorem Aab(W:World):(aD 23 #[]).run aA W=.ok (.agg (hv Z)) W:=by
 rw[Hr];kernel_rfl
theorem OE(x:Di){k:Nat}{z:Value}(h:(#[.int .i64 x.kind,.int .i64 x.at_,.int .i64 x.to,.int .i64 x.index,.int .i64 x.epoch,.int .i64 x.action,.int .i64 x.why,.int .i64 x.place]:Array Value)[k]?=some z):(BL x)[k]?=some z:=by
 have hk:k<8:=(gS h);unfold BL;rw[Array.append_assoc,Array.getElem?_append_left hk];exact h
def Ua:Di:=⟨6,1,0,7,0,0,2,0,Z,(Z,Z)⟩
def T8:Di:=⟨5,1,0,9,0,5,0,0,Z,(Z,Z)⟩
theorem Aa6(W:World):(aD 56 #[(0,.int .i64 6),(1,.int .i64 1),(3,.int .i64 7),(6,.int .i64 2)]).run aA W=.ok (.agg (BL Ua)) W:=by
 kernel_rfl
theorem Aa5(W:World):(aD 56 #[(0,.int .i64 5),(1,.int .i64 1),(3,.int .i64 9),(5,.int .i64 5)]).run aA W=.ok (.agg (BL T8)) W:=by
 kernel_rfl
theorem Ag4(W:World):(Op.equalIn 10000 56 (.agg (BL Ua)) (.agg (BL Ua))).run aA W=.ok true W:=by
 kernel_rfl
theorem Ag3(W:World):(Op.equalIn 10000 56 (.agg (BL T8)) (.agg (BL T8))).run aA W=.ok true W:=by
 kernel_rfl
theorem Ab5:Bj NO:=⟨rfl,AX,AX,AX⟩
theorem Ab4:Bj NN:=⟨rfl,AX,AX,AX⟩
theorem Ab3:Bj NM:=⟨rfl,AX,AX,AX⟩
theorem Adl(op:BinOp)(x y:Operand)(xs ys:Array Value)(w:World):(eqGuard op 56 x y (.agg xs) (.agg ys)).run aA w=.ok () w:=
 run_eqGuard_agg w op 56 x y xs ys (by kernel_rfl)
theorem TL(w:World):Calls aA 4 #[] w fun e w'=>e=.returned (.bool true)∧Below w.heap.size w w':=by
 have CS:=Td w;have I0:Hid (AQ 0 GW Aai):=Ad1 Ab2;have I1:Hid (AQ 4 GW VQ):=QC I0.out 7 AX 0;have I2:Hid (AQ 10 GW VP):=Mm I1.out 0 _ 0;have I3:Hid (AQ 16 GW Aah):=Mm I2.out 0 _ 0;have I4:Hid (AQ 20 GW VO):=QC I3.out 8 AX 0;have I5:Hid (AQ 26 GW Aag):=Mm I4.out 2 _ 1;go_enter Tryz.func4,Tryz.ntmps4;go_wp2_with (go_at_call 12;refine CS.mono ?_;rintro e w1 ⟨rfl,hb1⟩;have B1:Hid (Below w.heap.size w w1):=hb1;clear hb1 CS;refine Aw ?_);unfold AZ;have CN:=W9 QZ 1 1 Ab2 w1;go_wp2_with (go_at_call 11;refine CN.mono ?_;rintro e w2 ⟨g,gt,gh,gw,rfl,a2⟩;have A2:Hid (EM w1 w2 g gt gh gw GW Aai):=a2;clear a2 CN;refine Aw ?_);unfold AZ;have C3:=JP A2.out I0.out (by decide) 7 Z AX 0;have bh:=Aab
 go_wp2_with (first
  | ((with_reducible refine BP 23 _ rfl ?_);refine Dw rfl _ _ rfl #[] rfl (.agg (hv Z)) (bh _) ?_)
  | (go_at_call 13;refine C3.mono ?_;rintro e w3 ⟨rfl,a3,_⟩;have A3:Hid (EM w1 w3 g gt gh gw GW VQ):=a3;clear a3 C3;refine Aw ?_))
 unfold AZ;have D3:=Jm NO Ab5 w3;have bm1:=XW
 go_wp2_with (first
  | ((with_reducible refine BP 27 _ rfl ?_);refine Dw rfl _ _ rfl #[(0,.int .i64 1),(1,.int .i64 1),(2,.int .i64 1),(5,.int .i64 1),(8,.int .i64 2)] (by simp only[aC,aI,aG];rfl) (.agg (Ah NO)) (bm1 _) ?_)
  | (go_at_call 15;refine D3.mono ?_;rintro e w3' ⟨rfl,hb3⟩;have A3':Hid (EM w1 w3' g gt gh gw GW VQ):=A3.out.grow hb3;clear hb3 D3 A3 bm1;refine Aw ?_))
 unfold AZ;have C4:=K5 A3'.out I1.out (by decide) 0 (Eg NO).1 (aM (Lx Ab5) (by decide)) 0;go_wp2_with (go_at_call 14;refine C4.mono ?_;rintro e w4 ⟨rfl,a4,_⟩;have A4:Hid (EM w1 w4 g gt gh gw GW VP):=a4;clear a4 C4 A3';refine Aw ?_);unfold AZ;have D4:=Jm NN Ab4 w4;have bm2:=XV
 go_wp2_with (first
  | ((with_reducible refine BP 27 _ rfl ?_);refine Dw rfl _ _ rfl #[(0,.int .i64 3),(1,.int .i64 1),(11,.int .i64 1)] (by simp only[aC,aI,aG];rfl) (.agg (Ah NN)) (bm2 _) ?_)
  | (go_at_call 15;refine D4.mono ?_;rintro e w4' ⟨rfl,hb4⟩;have A4':Hid (EM w1 w4' g gt gh gw GW VP):=A4.out.grow hb4;clear hb4 D4 A4 bm2;refine Aw ?_))
 unfold AZ;have C5:=K5 A4'.out I2.out (by decide) 0 (Eg NN).1 (aM (Lx Ab4) (by decide)) 0;go_wp2_with (go_at_call 14;refine C5.mono ?_;rintro e w5 ⟨rfl,a5,_⟩;have A5:Hid (EM w1 w5 g gt gh gw GW Aah):=a5;clear a5 C5 A4';refine Aw ?_);unfold AZ;have C6:=JP A5.out I3.out (by decide) 8 Z AX 0
 go_wp2_with (first
  | ((with_reducible refine BP 23 _ rfl ?_);refine Dw rfl _ _ rfl #[] rfl (.agg (hv Z)) (bh _) ?_)
  | (go_at_call 13;refine C6.mono ?_;rintro e w6 ⟨rfl,a6,_⟩;have A6:Hid (EM w1 w6 g gt gh gw GW VO):=a6;clear a6 C6 A5;refine Aw ?_))
 unfold AZ;have D6:=Jm NM Ab3 w6;have bm3:=XU
 go_wp2_with (first
  | ((with_reducible refine BP 27 _ rfl ?_);refine Dw rfl _ _ rfl #[(0,.int .i64 7),(1,.int .i64 1),(12,.int .i64 1),(2,.int .i64 1),(7,.int .i64 5)] (by simp only[aC,aI,aG];rfl) (.agg (Ah NM)) (bm3 _) ?_)
  | (go_at_call 15;refine D6.mono ?_;rintro e w6' ⟨rfl,hb6⟩;have A6':Hid (EM w1 w6' g gt gh gw GW VO):=A6.out.grow hb6;clear hb6 D6 A6 bm3;refine Aw ?_))
 unfold AZ;have C7:=K5 A6'.out I4.out (by decide) 2 (Eg NM).1 (aM (Lx Ab3) (by decide)) 1;go_wp2_with (go_at_call 14;refine C7.mono ?_;rintro e w7 ⟨rfl,a7,_⟩;have A7:Hid (EM w1 w7 g gt gh gw GW Aag):=a7;clear a7 C7 A6';refine Aw ?_);unfold AZ;have C8:=JP A7.out I5.out (by decide) 9 Z AX 1
 go_wp2_with (first
  | ((with_reducible refine BP 23 _ rfl ?_);refine Dw rfl _ _ rfl #[] rfl (.agg (hv Z)) (bh _) ?_)
  | (go_at_call 13;refine C8.mono ?_;rintro e w8 ⟨rfl,a8,_⟩;have A8:Hid (EM w1 w8 g gt gh gw GW Af5):=a8;clear a8 C8 A7;refine Aw ?_))
 unfold AZ;have CL:=Tm A8.out;clear A8;go_wp2_with (go_at_call 6;refine CL.mono ?_;rintro e w9 ⟨⟨v,rfl,hv9⟩,a9,_⟩;have HV9:Hid _:=hv9;have B9:Hid (Below w.heap.size w w9):=B1.out.trans (a9.bel.mono B1.out.size);clear a9 hv9 CL;refine Aw ?_);unfold AZ;have hv9:=HV9.out;rw[Af4] at hv9;obtain⟨gn,cap,cur,ty,fr,rfl,hcap,hmx,hg,hc⟩:=WU hv9 (by decide);clear hv9 HV9;simp only[List.length_cons,List.length_nil] at hcap hc ⊢;have q0:∀j,j<47→cur[0+j]?=(BL Ua)[j]?:=fun j hj=>(congrArg (cur[·]?) (show 0+j=0*47+j by omega)).trans (hc 0 (by decide) j hj);have q5:∀j,j<47→cur[235+j]?=(BL T8)[j]?:=fun j hj=>(congrArg (cur[·]?) (show 235+j=5*47+j by omega)).trans (hc 5 (by decide) j hj);have k94:w9.cell? ⟨gn,94,none⟩=some (.int .i64 9):=by rw[cell_of_row _ _ _ _ _ _ hg];exact(hc 2 (by decide) 0 (by decide)).trans (OE _ rfl)
 have k96:w9.cell? ⟨gn,96,none⟩=some (.int .i64 2):=by rw[cell_of_row _ _ _ _ _ _ hg];exact(hc 2 (by decide) 2 (by decide)).trans (OE _ rfl)
 have k188:w9.cell? ⟨gn,188,none⟩=some (.int .i64 5):=by rw[cell_of_row _ _ _ _ _ _ hg];exact(hc 4 (by decide) 0 (by decide)).trans (OE _ rfl)
 have k191:w9.cell? ⟨gn,191,none⟩=some (.int .i64 8):=by rw[cell_of_row _ _ _ _ _ _ hg];exact(hc 4 (by decide) 3 (by decide)).trans (OE _ rfl)
 have b0:=Aa6;have b5:=Aa5;have e0:=Ag4;have e5:=Ag3;have eg:=Adl;have z0:=F0 Ua;have z5:=F0 T8;clear hc;obtain⟨V0,hV0⟩:∃V,V=BL Ua:=⟨_,rfl⟩;obtain⟨V5,hV5⟩:∃V,V=BL T8:=⟨_,rfl⟩;rw[←hV0] at q0 b0 e0 z0;rw[←hV5] at q5 b5 e5 z5;clear hV0 hV5
 go_wp2_with (first
  | ((with_reducible refine Bf 56 _ rfl ?_);refine Fu My rfl _ rfl gn 0 rfl cur ty fr V0 z0 hg q0 ?_)
  | ((with_reducible refine Bf 56 _ rfl ?_);refine Fu My rfl _ rfl gn 235 rfl cur ty fr V5 z5 hg q5 ?_)
  | ((with_reducible refine BP 56 _ rfl ?_);refine Dw rfl _ _ rfl #[(0,.int .i64 6),(1,.int .i64 1),(3,.int .i64 7),(6,.int .i64 2)] (by simp only[aC,aI,aG];rfl) (.agg V0) (b0 _) ?_)
  | ((with_reducible refine BP 56 _ rfl ?_);refine Dw rfl _ _ rfl #[(0,.int .i64 5),(1,.int .i64 1),(3,.int .i64 9),(5,.int .i64 5)] (by simp only[aC,aI,aG];rfl) (.agg V5) (b5 _) ?_))
 go_ret;exact⟨rfl,B9.out⟩
theorem WZ(w:World)(ix:Int)(hd:List Int)(now:Int):Calls aA 13 #[.pointer none,.int .i64 ix,.agg (hv hd),.int .i64 now] w fun e w'=>e=.returned (.tuple #[])∧Below w.heap.size w w':=by
 have B0:Hid (Below w.heap.size w (w.alloc (.cells (hv hd) 23))):=(aB _ _).alloc (aH _) _;go_enter Tryz.func13,Tryz.ntmps13;go_wp2_with fail
 first | go_end0 | refine bodyPost_ret (results_none rfl _ _ _) rfl ?_
 exact⟨rfl,B0.out⟩
theorem Ac7(w:World)(src:Int)(s:ByteArray)(now:Int):Calls aA 14 #[.pointer none,.int .i64 src,.string s,.int .i64 now] w fun e w'=>e=.returned (.tuple #[])∧Below w.heap.size w w':=by
 have B0:Hid (Below w.heap.size w w):=aB _ _;go_enter Tryz.func14,Tryz.ntmps14;go_wp2_with fail
 first | go_end0 | refine bodyPost_ret (results_none rfl _ _ _) rfl ?_
 exact⟨rfl,B0.out⟩
theorem Ac6(w:World)(now:Int):Calls aA 17 #[.pointer none,.int .i64 now] w fun e w'=>e=.returned (.tuple #[])∧Below w.heap.size w w':=by
 have B0:Hid (Below w.heap.size w w):=aB _ _;go_enter Tryz.func17,Tryz.ntmps17;go_wp2_with fail
 first | go_end0 | refine bodyPost_ret (results_none rfl _ _ _) rfl ?_
 exact⟨rfl,B0.out⟩
theorem Y8(w:World):Calls aA 18 #[.pointer none] w fun e w'=>e=.returned (.tuple #[])∧Below w.heap.size w w':=by
 have B0:Hid (Below w.heap.size w w):=aB _ _;go_enter Tryz.func18,Tryz.ntmps18;go_wp2_with fail
 first | go_end0 | refine bodyPost_ret (results_none rfl _ _ _) rfl ?_
 exact⟨rfl,B0.out⟩
theorem YY(w:World):Calls aA 6 #[.pointer none] w fun e w'=>e=.returned (.slice none 0 0)∧Below w.heap.size w w':=by
 have B0:Hid (Below w.heap.size w w):=aB _ _;go_enter Tryz.func6,Tryz.ntmps6;go_wp2_with fail;go_ret;exact⟨rfl,B0.out⟩
theorem U2(w:World):Calls aA 7 #[.pointer none] w fun e w'=>e=.returned (.slice none 0 0)∧Below w.heap.size w w':=by
 have B0:Hid (Below w.heap.size w w):=aB _ _;go_enter Tryz.func7,Tryz.ntmps7;go_wp2_with fail;go_ret;exact⟨rfl,B0.out⟩
theorem YV(w:World)(k:Int):Calls aA 9 #[.pointer none,.int .i64 k] w fun e w'=>e=.returned (.slice none 0 0)∧Below w.heap.size w w':=by
 have B0:Hid (Below w.heap.size w w):=aB _ _;go_enter Tryz.func9,Tryz.ntmps9;go_wp2_with fail;go_ret;exact⟨rfl,B0.out⟩
theorem UZ(w:World):Calls aA 10 #[.pointer none] w fun e w'=>e=.returned (.slice none 0 0)∧Below w.heap.size w w':=by
 have B0:Hid (Below w.heap.size w w):=aB _ _;go_enter Tryz.func10,Tryz.ntmps10;go_wp2_with fail;go_ret;exact⟨rfl,B0.out⟩
theorem Ng(W:World):(aD 38 #[]).run aA W=.ok (.agg Fz) W:=by
 kernel_rfl
theorem WT(w:World)(now:Int):Calls aA 8 #[.pointer none,.int .i64 now] w fun e w'=>e=.returned (.agg Fz)∧Below w.heap.size w w':=by
 have Z0:(w.alloc (.cells Fz 38)).heap[w.heap.size]?=some (.cells Fz 38 (0,0)):=Ac _ _ _ rfl;have B0:Hid (Below w.heap.size w ((w.alloc (.cells Fz 38)).setRow w.heap.size Fz)):=Ak ((aB _ _).alloc (aH _) _) (aH _) _;have Z1:Hid (((w.alloc (.cells Fz 38)).setRow w.heap.size Fz).heap[w.heap.size]?=some (.cells Fz 38 (0,0))):=setRow_heap _ _ _ _ _ _ Z0;have bs:=Ng;go_enter Tryz.func8,Tryz.ntmps8
 go_wp2_with (first
  | ((with_reducible refine BP 38 _ rfl ?_);refine Dw rfl _ _ rfl #[] rfl (.agg Fz) (bs _) ?_)
  | ((with_reducible refine Da 38 _ _ rfl ?_);refine Du Ab8 rfl _ _ rfl w.heap.size Fz ⟨rfl,by simp[Fz,Value.oneCell']⟩ rfl rfl _ Z0 rfl _ rfl ?_))
 refine JG Ab8 rfl rfl w.heap.size rfl Fz rfl Z1.out ?_;exact⟨rfl,B0.out⟩
theorem Ack(wr:World)(x:Gr):Calls aA 5 #[.pointer none,.agg (Dd x)] wr fun e w'=>e=.returned (.tuple #[])∧Below wr.heap.size wr w':=by
 obtain⟨w0,hw0⟩:=eX (wr.alloc (.cells (Dd x) 29));have Z0:w0.heap[wr.heap.size]?=some (.cells (Dd x) 29 (0,0)):=by rw[hw0];exact Ac _ _ _ rfl
 have B0:Hid (Below wr.heap.size wr w0):=by show Below _ _ _;rw[hw0];exact(aB _ _).alloc (aH _) _
 have HZ:Hid (∀u:Al w0,u.world.heap[wr.heap.size]?=some (.cells (Dd x) 29 (0,0))):=fun u=>(u.below.block _ (gS Z0)).trans Z0;have HSZ:Hid ((Dd x).size=71):=Q6 x;have c0:w0.cell? ⟨wr.heap.size,0,none⟩=some (.int .i64 x.kind):=by rw[cell_of_row _ _ _ _ _ _ Z0,X6]
 have c1:w0.cell? ⟨wr.heap.size,1,none⟩=some (.int .i64 x.index):=by rw[cell_of_row _ _ _ _ _ _ Z0,Afe]
 have c3:w0.cell? ⟨wr.heap.size,3,none⟩=some (.int .i64 x.now):=by rw[cell_of_row _ _ _ _ _ _ Z0,SY]
 have hsh:(hv x.head).size=13:=by rw[DE];exact x.hh.1
 have f4:=Afc x;have hw0':=hw0.symm;obtain⟨kd,hkd⟩:=eX x.kind;rw[←hkd] at c0;have HXN:Hid (∀u:Al w0,u.world.cell? ⟨wr.heap.size,3,none⟩=some (.int .i64 x.now)):=fun u=>by rw[cell_of_row _ _ _ _ _ _ (HZ.out u),SY]
 have HXS:Hid (∀u:Al w0,u.world.cell? ⟨wr.heap.size,2,none⟩=some (.int .i64 x.src)):=fun u=>by rw[cell_of_row _ _ _ _ _ _ (HZ.out u),Afd]
 clear hw0 hkd;by_cases e1:kd=1
 ·have b1:(kd==1)=true:=by simpa using e1
  have CI:=WZ w0 x.index x.head x.now;clear e1;go_enter aL,aJ
  go_wp2_with (first
   | ((with_reducible refine Bf 23 _ rfl ?_);refine Bc Iw rfl _ rfl wr.heap.size 4 rfl _ _ _ (hv x.head) hsh Z0 f4 ?_)
   | (go_at_call 13;refine CI.mono ?_;rintro e w1 ⟨rfl,a1⟩))
  first | go_end0 | refine bodyPost_ret (results_none rfl _ _ _) rfl ?_
  exact⟨rfl,B0.out.trans (a1.mono B0.out.size)⟩
 ·have b1:(kd==1)=false:=by simpa using e1
  clear e1;by_cases e2:kd=2
  ·have b2:(kd==2)=true:=by simpa using e2
   clear e2;go_enter aL,aJ;go_wp2_with fail;clear c1 c3 f4;have CB:∀u:Al w0,Calls aA 16 #[.agg (Dd x)] u.world fun e w'=>e=.returned (.string ⟨(JV x).toArray⟩)∧Below u.world.heap.size u.world w':=fun u=>TH x u.world;have d3:=HXN.out;have d2:=HXS.out;have ne9:=Al.ne w0;refine Ca 7 (by kernel_rfl) (by kernel_rfl) ?_;simp only[List.take_succ_cons,List.take_zero,List.drop_succ_cons,List.drop_zero]
   iterate 3 (go_big_quiet_step (fail))
   refine G5 Ut rfl _ rfl wr.heap.size 0 rfl _ _ _ (Dd x) HSZ.out (fun w' h=>by obtain⟨z,rfl⟩:=h;exact HZ.out z) (AA _ _) ?_;simp only[pU];go_big_quiet_want;go_big_quiet_op;refine⟨_,fun u=>Calls.later_of (CB u),?_⟩;go_big_quiet_on;go_big_quiet_step (fail);go_big_quiet_step (fail);refine wpQuiet_nil ?_;rintro w' ⟨uL,rfl⟩;have CT:=Ac7 uL.world x.src ⟨(JV x).toArray⟩ x.now;go_wp2_with (go_at_call 14;refine CT.mono ?_;rintro e w1 ⟨rfl,a1⟩)
   first | go_end0 | refine bodyPost_ret (results_none rfl _ _ _) rfl ?_
   have x1:=B0.out.trans (uL.below.mono B0.out.size);exact⟨rfl,x1.trans (a1.mono x1.size)⟩
  ·have b2:(kd==2)=false:=by simpa using e2
   clear e2;by_cases e3:kd=3
   ·have b3:(kd==3)=true:=by simpa using e3
    have CT:=Ac6 w0 x.now;clear e3;go_enter aL,aJ;go_wp2_with (go_at_call 17;refine CT.mono ?_;rintro e w1 ⟨rfl,a1⟩)
    first | go_end0 | refine bodyPost_ret (results_none rfl _ _ _) rfl ?_
    exact⟨rfl,B0.out.trans (a1.mono B0.out.size)⟩
   ·have b3:(kd==3)=false:=by simpa using e3
    clear e3;by_cases e4:kd=4
    ·have b4:(kd==4)=true:=by simpa using e4
     have CC:=Y8 w0;clear e4;go_enter aL,aJ;go_wp2_with (go_at_call 18;refine CC.mono ?_;rintro e w1 ⟨rfl,a1⟩)
     first | go_end0 | refine bodyPost_ret (results_none rfl _ _ _) rfl ?_
     exact⟨rfl,B0.out.trans (a1.mono B0.out.size)⟩
    ·have b4:(kd==4)=false:=by simpa using e4
     clear e4;go_enter aL,aJ;go_wp2_with fail
     first | go_end0 | refine bodyPost_ret (results_none rfl _ _ _) rfl ?_
     exact⟨rfl,B0.out⟩
theorem ZP(W:World):(Op.equalIn 10000 38 (.agg Fz) (.agg Fz)).run aA W=.ok true W:=by
 kernel_rfl
theorem Adk(op:BinOp)(x y:Operand)(xs ys:Array Value)(w:World):(eqGuard op 38 x y (.agg xs) (.agg ys)).run aA w=.ok () w:=
 run_eqGuard_agg w op 38 x y xs ys (by kernel_rfl)
theorem Sg(w:World)(x:Gr):Calls aA 3 #[.agg (Dd x)] w fun e w'=>e=.returned (.bool true)∧Below w.heap.size w w':=by
 obtain⟨w0,hw0⟩:=eX (w.alloc (.cells (Dd x) 29));have Z0:Hid (w0.heap[w.heap.size]?=some (.cells (Dd x) 29 (0,0))):=by show _=_;rw[hw0];exact Ac _ _ _ rfl
 have B0:Hid (Below w.heap.size w w0):=by show Below _ _ _;rw[hw0];exact(aB _ _).alloc (aH _) _
 have HZ:Hid (∀W,Below w0.heap.size w0 W→W.heap[w.heap.size]?=some (.cells (Dd x) 29 (0,0))):=fun W hb=>(hb.block _ (gS Z0.out)).trans Z0.out;have HC:Hid (∀W,Below w0.heap.size w0 W→W.cell? ⟨w.heap.size,3,none⟩=some (.int .i64 x.now)∧W.cell? ⟨w.heap.size,0,none⟩=some (.int .i64 x.kind)):=fun W hb=>⟨by rw[cell_of_row _ _ _ _ _ _ (HZ.out W hb),SY],by rw[cell_of_row _ _ _ _ _ _ (HZ.out W hb),X6]⟩;have HW:=TL w0;have hw0':=hw0.symm;clear hw0;go_enter Tryz.func3,Tryz.ntmps3;go_wp2_with (go_at_call 4;refine HW.mono ?_;rintro e w1 ⟨rfl,hb1⟩;have B1:Hid _:=hb1;clear hb1 HW hw0';refine Aw ?_);unfold AZ;have Z1:=HZ.out w1 B1.out;have ND:=Ack w1 x;have HSZ:Hid ((Dd x).size=71):=Q6 x
 go_wp2_with (first
  | ((with_reducible refine Bf 29 _ rfl ?_);refine Bc Ut rfl _ rfl w.heap.size 0 rfl _ _ _ (Dd x) HSZ.out Z1 (AA _ _) ?_)
  | (go_at_call 5;refine ND.mono ?_;rintro e w2 ⟨rfl,hb2⟩;have B2:Hid _:=B1.out.trans (hb2.mono B1.out.size);clear hb2 ND Z1;refine Aw ?_))
 unfold AZ;have CN:=YY w2;go_wp2_with (go_at_call 6;refine CN.mono ?_;rintro e w3 ⟨rfl,hb3⟩;have B3:Hid _:=B2.out.trans (hb3.mono B2.out.size);clear hb3 CN;refine Aw ?_);unfold AZ;have CL:=U2 w3;go_wp2_with (go_at_call 7;refine CL.mono ?_;rintro e w4 ⟨rfl,hb4⟩;have B4:Hid _:=B3.out.trans (hb4.mono B3.out.size);clear hb4 CL;refine Aw ?_);unfold AZ;have k3:=(HC.out w4 B4.out).1;have CS:=WT w4 x.now;go_wp2_with (go_at_call 8;refine CS.mono ?_;rintro e w5 ⟨rfl,hb5⟩;have B5:Hid _:=B4.out.trans (hb5.mono B4.out.size);clear hb5 CS k3;refine Aw ?_);unfold AZ;have k0:=(HC.out w5 B5.out).2;have CO:=YV w5 x.kind;have bs:=Ng;have e0:=ZP;have eg:=Adk;obtain⟨V,hV⟩:=eX Fz;rw[←hV] at bs e0 ⊢;clear hV
 go_wp2_with (first
  | ((with_reducible refine BP 38 _ rfl ?_);refine Dw rfl _ _ rfl #[] (by simp only[aC,aG]) (.agg V) (bs _) ?_)
  | (go_at_call 9;refine CO.mono ?_;rintro e w6 ⟨rfl,hb6⟩;have B6:Hid _:=B5.out.trans (hb6.mono B5.out.size);clear hb6 CO k0;refine Aw ?_))
 unfold AZ;have CW:=UZ w6;go_wp2_with (go_at_call 10;refine CW.mono ?_;rintro e w7 ⟨rfl,hb7⟩;have B7:Hid _:=B6.out.trans (hb7.mono B6.out.size);clear hb7 CW);go_ret;exact⟨rfl,B0.out.trans (B7.out.mono B0.out.size)⟩
end
end Go.Proofs.YtbhkoipcpcoooabGreat
