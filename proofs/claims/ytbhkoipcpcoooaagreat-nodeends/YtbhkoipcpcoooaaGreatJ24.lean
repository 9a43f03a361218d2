import Derived.Test.YtbhkoipcpcoooaaGreatJ23
import Derived.Test.YtbhkoipcpcoooaaGreatRows
import Derived.Test.YtbhkoipcpcoooaaGreatJ4
import Derived.ProofKit
import Derived.OpenShut
import Derived.Carry
import Derived.Test.YtbhkoipcpcoooaaGreatJ12
import Derived.Deep.Slices
import Derived.SizedLaws
import Derived.Test.YtbhkoipcpcoooaaGreatJ13
import Derived.Test.YtbhkoipcpcoooaaGreatJ15
import Derived.Test.YtbhkoipcpcoooaaGreatJ16
import Derived.Test.YtbhkoipcpcoooaaGreatJ3
import Derived.Deep.QuietTactic
namespace Go.Proofs.YtbhkoipcpcoooaaGreat
set_option maxRecDepth 20000
set_option maxHeartbeats 64000000
open Go
open Go.Proofs.Tryz renaming prog → aA, underlying3 → aC, ntmps122 → aI, func122 → aJ, ntmps66 → aN, func66 → aP, underlying41 → aY, ntmps10 → bA, func10 → bC, underlying25 → bD, underlying9 → bX
open _root_.List renaming getElem?_take_of_lt → aB, getElem?_eq_none → aD, take_append_drop → aL, length_map → aO, getElem?_append_right → aR, getElem?_eq_getElem → aT, getElem?_cons_succ → aV, ext_getElem? → aW, getElem?_map → aX, getElem?_toArray → aZ, mem_of_getElem? → bB, getElem?_append_left → bE, length_take → bF, getElem?_replicate → bG, mem_append → bH, take_of_length_le → bI, drop_drop → bJ, getElem?_drop → bP, getD → bR, length_cons → bT, all_toArray → bU
open _root_.Nat renaming le_refl → aG, le_trans → bO, lt_or_ge → bQ
open Go.RowKit.Below renaming refl → aH
open _root_.Option renaming isSome_iff_exists → aK
open Go.DataW renaming trod → aM, weights → bK, trod_struct → bS, weightsAll → bW, trod_int → bY
open Go.World renaming drew → aQ
section
open Go.RowKit
def Lz(s:IP)(num inc:Int):Prop:=IN s=true∧1≤num∧num≤s.sw∧1≤inc∧inc≤281474976710655
theorem Io{s:IP}(h:IN s=true):OkR s.ca s.ro s.pa s.idl s.hd∧TK s.wa s.tr s.ti∧1≤s.be:=by
 unfold IN at h;rw[List.all_eq_true] at h
 have key:∀x a b,(x,a,b)∈Kv s→a≤x∧x≤b:=fun x a b hm=>by
  have:=h _ hm;unfold Vg Tf at this;rw[Bool.and_eq_true,decide_eq_true_eq,decide_eq_true_eq] at this;exact⟨this.1,this.2⟩
 have k1:=key s.ca 0 2048 (by unfold Kv;simp);have k2:=key s.ro 2 2048 (by unfold Kv;simp);have k3:=key s.pa 2 64 (by unfold Kv;simp);have k4:=key s.idl 0 1000 (by unfold Kv;simp);have k5:=key s.hd 0 1000 (by unfold Kv;simp);have k6:=key s.wa 1 64 (by unfold Kv;simp);have k7:=key s.tr 1 8 (by unfold Kv;simp);have k8:=key s.ti 2 100 (by unfold Kv;simp);have k9:=key s.be 1 20 (by unfold Kv;simp);unfold OkR TK;omega
theorem OX(s:IP)(num inc:Int)(h:¬Lz s num inc)(w:World):
  Calls aA 10 #[.int .i64 num,.int .i64 inc,.agg (Ci s)] w fun e w'=>e=.returned (.tuple #[.pointer none,.int .i64 1])∧Below w.heap.size w w':=by
 obtain⟨w0,hw0⟩:=eX (w.alloc (.cells (Ci s) 24));have Z0:Hid (w0.heap[w.heap.size]?=some (.cells (Ci s) 24 (0,0))):=by show _=_;rw[hw0];exact Ab _ _ _ rfl
 have B0:Hid (Below w.heap.size w w0):=by show Below _ _ _;rw[hw0];exact(aH _ _).alloc (aG _) _
 have CR:=U0 s w0;have HSW:Hid (∀W,Below w0.heap.size w0 W→W.cell? ⟨w.heap.size,0,none⟩=some (.int .i64 s.sw)):=fun W hW=>by rw[cell_of_row W _ 0 _ _ _ ((hW.block _ (gS Z0.out)).trans Z0.out)];rfl
 have hw0':=hw0.symm;clear hw0;unfold Lz at h
 cases hr:IN s with
 | false=>
  rw[hr] at CR;clear hr h;go_enter bC,bA
  go_wp2_with (first
   | ((with_reducible refine Aw 24 _ rfl ?_);refine AH IG rfl _ rfl w.heap.size 0 rfl _ _ _ (Ci s) rfl Z0.out (Ar _ _) ?_)
   | (go_at_call 38;refine CR.mono ?_;rintro e w1 ⟨rfl,hb1⟩;have B1:Hid _:=hb1;have s0:=HSW.out w1 hb1;clear hb1 CR hw0';refine Ak ?_))
  unfold AA;go_wp2_with fail;go_ret2;exact⟨rfl,B0.out.trans (B1.out.mono B0.out.size)⟩
 | true=>
  rw[hr] at CR h;clear hr;obtain⟨sw,hsw⟩:∃sw,sw=s.sw:=⟨_,rfl⟩;rw[←hsw] at h HSW;clear hsw;by_cases h1:num<1
  ·clear h;go_enter bC,bA
   go_wp2_with (first
    | ((with_reducible refine Aw 24 _ rfl ?_);refine AH IG rfl _ rfl w.heap.size 0 rfl _ _ _ (Ci s) rfl Z0.out (Ar _ _) ?_)
    | (go_at_call 38;refine CR.mono ?_;rintro e w1 ⟨rfl,hb1⟩;have B1:Hid _:=hb1;have s0:=HSW.out w1 hb1;clear hb1 CR hw0';refine Ak ?_))
   unfold AA;go_wp2_with fail;go_ret2;exact⟨rfl,B0.out.trans (B1.out.mono B0.out.size)⟩
  ·by_cases h2:num>sw
   ·clear h;go_enter bC,bA
    go_wp2_with (first
     | ((with_reducible refine Aw 24 _ rfl ?_);refine AH IG rfl _ rfl w.heap.size 0 rfl _ _ _ (Ci s) rfl Z0.out (Ar _ _) ?_)
     | (go_at_call 38;refine CR.mono ?_;rintro e w1 ⟨rfl,hb1⟩;have B1:Hid _:=hb1;have s0:=HSW.out w1 hb1;clear hb1 CR hw0';refine Ak ?_))
    unfold AA;go_wp2_with fail;go_ret2;exact⟨rfl,B0.out.trans (B1.out.mono B0.out.size)⟩
   ·by_cases h3:inc<1
    focus
     clear h
    rotate_left
    focus
     have h4:inc>281474976710655:=Int.not_le.1 fun h5=>h ⟨by trivial,by omega,by omega,by omega,h5⟩;clear h
    all_goals
     go_enter bC,bA
     go_wp2_with (first
      | ((with_reducible refine Aw 24 _ rfl ?_);refine AH IG rfl _ rfl w.heap.size 0 rfl _ _ _ (Ci s) rfl Z0.out (Ar _ _) ?_)
      | (go_at_call 38;refine CR.mono ?_;rintro e w1 ⟨rfl,hb1⟩;have B1:Hid _:=hb1;have s0:=HSW.out w1 hb1;clear hb1 CR hw0';refine Ak ?_))
     unfold AA;go_wp2_with fail;go_ret2;exact⟨rfl,B0.out.trans (B1.out.mono B0.out.size)⟩
theorem Aa4{ops:Array Oper}{Q:Exit→Act→World→Prop}{i:Nat}{o:Oper}{K:Act→World→Prop}{a:Act}{w:World}(hi:ops[i]?=some o)(hgd:o.guard=none)(t:TypeId)(x:Operand)(ho:o.op=.box t x)
  (cs:Array Value) (hx:a.eval x=.agg cs) (d:Option Tmp) (hd:o.dst=d) (hK:K (a.put d (.pointer (some ⟨w.heap.size,0,none⟩))) (w.alloc (.cells cs t))):wpOp aA ops Q i K a w:=by
 subst hd;refine Et hi (wpList_plain hgd fun _ hK'=> ?_);unfold Oper.wp execOp;simp only[ho,hx];simp[go_sem,Value.cells];exact hK' _ _ hK
theorem Apw{w w':World}{gh:Nat}{inc:Int}(h:Gc w gh ⟨inc,0,0,0,0,0,0,0,0⟩)(hb:Below w.heap.size w w'):FY w' gh (OW inc):=by
 have h0:FY w gh (OW inc):=⟨_,h,Amq inc⟩;exact h0.below hb
structure Wb(p:Nat)(s:IP) where
 world:World
 x:world.heap[p]?=some (.cells (Ci s) 24 (0,0))
abbrev Wd(p:Nat)(s:IP)(w:World):Prop:=∃z:Wb p s,w=z.world
theorem Akd(a b c:Int)(gt gh gw:Nat)(W:World):(Instr.build 91 #[(0,.int .i64 a),(1,.int .i64 b),(2,.int .i64 c),(4,.pointer (some ⟨gt,0,none⟩)),(5,.pointer (some ⟨gh,0,none⟩)),(6,.pointer (some ⟨gw,0,none⟩))]).run aA W=.ok (.agg #[.int .i64 a,.int .i64 b,.int .i64 c,.int .i64 0,.pointer (some ⟨gt,0,none⟩),.pointer (some ⟨gh,0,none⟩),.pointer (some ⟨gw,0,none⟩),.slice none 0 0,.slice none 0 0]) W:=by
 kernel_rfl
theorem Aet(s:IP)(num inc:Int)(h:Lz s num inc)(w:World):
  Calls aA 10 #[.int .i64 num,.int .i64 inc,.agg (Ci s)] w fun e w'=>(∃g gt gh gw r,e=.returned (.tuple #[.pointer (some ⟨g,0,none⟩),.int .i64 0])∧Cb w.heap.size w' g gt gh gw (KK s.ca s.ro s.pa s.idl s.hd) (NW num inc s.le s.be s.ca (⟨[],[],[]⟩:Aq) ⟨s.wa,s.tr,s.ti,[],0⟩) r)∧Below w.heap.size w w':=by
 obtain⟨w0,hw0⟩:=eX (w.alloc (.cells (Ci s) 24));have Z0:Hid (w0.heap[w.heap.size]?=some (.cells (Ci s) 24 (0,0))):=by show _=_;rw[hw0];exact Ab _ _ _ rfl
 have B0:Hid (Below w.heap.size w w0):=by show Below _ _ _;rw[hw0];exact(aH _ _).alloc (aG _) _
 have CR:=U0 s w0;have HSW:Hid (∀W,Below w0.heap.size w0 W→W.cell? ⟨w.heap.size,0,none⟩=some (.int .i64 s.sw)):=fun W hW=>by rw[cell_of_row W _ 0 _ _ _ ((hW.block _ (gS Z0.out)).trans Z0.out)];rfl
 have hw0':=hw0.symm;clear hw0;obtain⟨hr,h1,h2,h3,h4⟩:=h;obtain⟨r1,r2,r3⟩:=Io hr;rw[hr] at CR;have CT:∀W,Calls aA 39 #[.int .i64 s.ca,.int .i64 s.ro,.int .i64 s.pa,.int .i64 s.idl,.int .i64 s.hd] W _:=fun W=>Amm s.ca s.ro s.pa s.idl s.hd r1 W;have HCT:Hid _:=CT;have HCW:Hid (∀W,Calls aA 40 #[.int .i64 s.wa,.int .i64 s.tr,.int .i64 s.ti] W fun e w'=>e=.returned (.tuple #[.pointer (some ⟨W.heap.size,0,none⟩),.int .i64 0])∧Dt W.heap.size w' W.heap.size ⟨s.wa,s.tr,s.ti,[],0⟩ (.slice none 0 0)∧Below W.heap.size W w'):=fun W=>Aer s.wa s.tr s.ti r2 W;have HCELL:Hid (∀W:World,W.heap[w.heap.size]?=some (.cells (Ci s) 24 (0,0))→∀(j:Nat) (v:Value),(Ci s)[j]?=some v→W.cell? ⟨w.heap.size,j,none⟩=some v):=fun W hW j v hj=>by rw[cell_of_row W _ j _ _ _ hW];exact hj
 clear CT hr r1 r2 r3;have g1:¬num<1:=by omega
 obtain⟨sw,hsw⟩:∃sw,sw=s.sw:=⟨_,rfl⟩;rw[←hsw] at h2 HSW;clear hsw;have g2:¬num>sw:=by omega
 have g3:¬inc<1:=by omega
 have g4:¬inc>281474976710655:=by omega
 clear h1 h2 h3 h4;go_enter bC,bA
 go_wp2_with (first
  | ((with_reducible refine Aw 24 _ rfl ?_);refine AH IG rfl _ rfl w.heap.size 0 rfl _ _ _ (Ci s) rfl Z0.out (Ar _ _) ?_)
  | (go_at_call 38;refine CR.mono ?_;rintro e w1 ⟨rfl,hb1⟩;have B1:Hid _:=hb1;have s0:=HSW.out w1 hb1;clear hb1 CR hw0';refine Ak ?_))
 unfold AA;obtain⟨sca,q1⟩:∃x,x=s.ca:=⟨_,rfl⟩;obtain⟨sro,q2⟩:∃x,x=s.ro:=⟨_,rfl⟩;obtain⟨spa,q3⟩:∃x,x=s.pa:=⟨_,rfl⟩;obtain⟨sid,q4⟩:∃x,x=s.idl:=⟨_,rfl⟩;obtain⟨shd,q5⟩:∃x,x=s.hd:=⟨_,rfl⟩;obtain⟨swa,q6⟩:∃x,x=s.wa:=⟨_,rfl⟩;obtain⟨str,q7⟩:∃x,x=s.tr:=⟨_,rfl⟩;obtain⟨sti,q8⟩:∃x,x=s.ti:=⟨_,rfl⟩;obtain⟨sle,q9⟩:∃x,x=s.le:=⟨_,rfl⟩;obtain⟨sbe,q10⟩:∃x,x=s.be:=⟨_,rfl⟩;have HQ:Hid (sca=s.ca∧sro=s.ro∧spa=s.pa∧sid=s.idl∧shd=s.hd∧swa=s.wa∧str=s.tr∧sti=s.ti∧sle=s.le∧sbe=s.be):=⟨q1,q2,q3,q4,q5,q6,q7,q8,q9,q10⟩;rw[←q1, ←q2, ←q3, ←q4, ←q5] at HCT;rw[←q6, ←q7, ←q8] at HCW;have HL:Hid ((Ci s)[2]?=some (.int .i64 sca)∧(Ci s)[3]?=some (.int .i64 sro)∧(Ci s)[4]?=some (.int .i64 spa)∧(Ci s)[5]?=some (.int .i64 sid)∧(Ci s)[6]?=some (.int .i64 shd)∧(Ci s)[11]?=some (.int .i64 swa)∧(Ci s)[12]?=some (.int .i64 str)∧(Ci s)[13]?=some (.int .i64 sti)∧(Ci s)[15]?=some (.int .i64 sle)∧(Ci s)[14]?=some (.int .i64 sbe)):=by rw[q1,q2,q3,q4,q5,q6,q7,q8,q9,q10];exact⟨rfl,rfl,rfl,rfl,rfl,rfl,rfl,rfl,rfl,rfl⟩
 clear q1 q2 q3 q4 q5 q6 q7 q8 q9 q10;have Z1:Hid (w1.heap[w.heap.size]?=some (.cells (Ci s) 24 (0,0))):=(B1.out.block _ (gS Z0.out)).trans Z0.out;have k2:=HCELL.out w1 Z1.out 2 (.int .i64 sca) HL.out.1;have k3:=HCELL.out w1 Z1.out 3 (.int .i64 sro) HL.out.2.1;have k4:=HCELL.out w1 Z1.out 4 (.int .i64 spa) HL.out.2.2.1;have k5:=HCELL.out w1 Z1.out 5 (.int .i64 sid) HL.out.2.2.2.1;have k6:=HCELL.out w1 Z1.out 6 (.int .i64 shd) HL.out.2.2.2.2.1;have CT1:=HCT.out w1;go_wp2_with (go_at_call 39;refine CT1.mono ?_;rintro e w2 ⟨⟨gt,rfl,ht2⟩,hb2⟩;have T2:Hid _:=ht2;have B2:Hid _:=hb2;clear ht2 hb2 CT1 k2 k3 k4 k5 k6;refine Ak ?_);unfold AA;have Z2:Hid (w2.heap[w.heap.size]?=some (.cells (Ci s) 24 (0,0))):=(B2.out.block _ (gS Z1.out)).trans Z1.out;have k11:=HCELL.out w2 Z2.out 11 (.int .i64 swa) HL.out.2.2.2.2.2.1;have k12:=HCELL.out w2 Z2.out 12 (.int .i64 str) HL.out.2.2.2.2.2.2.1;have k13:=HCELL.out w2 Z2.out 13 (.int .i64 sti) HL.out.2.2.2.2.2.2.2.1;have CW1:=HCW.out w2;obtain⟨gw,hgw⟩:=eX w2.heap.size;rw[←hgw] at CW1;have HGW:Hid _:=hgw;clear hgw s0;go_wp2_with (go_at_call 40;refine CW1.mono ?_;rintro e w3 ⟨rfl,hv3,hb3⟩;have V3:Hid _:=hv3;have B3:Hid _:=hb3;clear hv3 hb3 CW1 k11 k12 k13;refine Ak ?_);unfold AA
 have Z3:Hid ((aQ w3).heap[w.heap.size]?=some (.cells (Ci s) 24 (0,0))):=(B3.out.block _ (by rw[HGW.out];exact(gS Z2.out))).trans Z2.out;have e15:∀z:Wb w.heap.size s,z.world.cell? ⟨w.heap.size,15,none⟩=some (.int .i64 sle):=fun z=>HCELL.out z.world z.x 15 _ HL.out.2.2.2.2.2.2.2.2.1;have e14:∀z:Wb w.heap.size s,z.world.cell? ⟨w.heap.size,14,none⟩=some (.int .i64 sbe):=fun z=>HCELL.out z.world z.x 14 _ HL.out.2.2.2.2.2.2.2.2.2;have HS0:Hid (Wd w.heap.size s (aQ w3)):=⟨⟨_,Z3.out⟩,rfl⟩;have ne9:Nonempty (Wb w.heap.size s):=⟨⟨_,Z3.out⟩⟩;go_wp2_with fail;refine Ey ?_;refine B8 (Wd w.heap.size s) 13 rfl (by kernel_rfl) ?_;refine rR [0,1,3,5,6,8,2,4] 8 5 HS0.out ?_;simp only[pk]
 iterate 8 (go_big_quiet_step (fail))
 refine wpQuiet_nil ?_;refine rO 7 ?_;refine Bm rfl rfl 41 #[.tmp 63] (by intro b w;have hf:=Tryz.func41;simp[go_sem]) #[.int .i64 inc] rfl (fun v w'=>v=.pointer (some ⟨(aQ w3).heap.size,0,none⟩)∧Gc w' (aQ w3).heap.size ⟨inc,0,0,0,0,0,0,0,0⟩∧Below (aQ w3).heap.size (aQ w3) w') ((Aes (aQ w3) inc).mono fun e w' h=>⟨_,h.1,rfl,h.2⟩) (some 64) rfl ?_;rintro v w4 ⟨rfl,hv4,hb4⟩;have HV4:Hid _:=hv4;have B4:Hid _:=hb4;clear hv4 hb4;obtain⟨gh,hgh⟩:=eX ((aQ w3).heap.size);have HGH:Hid _:=hgh;rw[←hgh];clear hgh;have I4:Hid (Wd w.heap.size s w4):=⟨⟨w4,(B4.out.block _ (gS Z3.out)).trans Z3.out⟩,rfl⟩;refine⟨I4.out,?_⟩;simp only[pU];refine rO 9 ?_;refine Kz rfl rfl _ _ rfl #[(0,.int .i64 num),(1,.int .i64 sle),(2,.int .i64 sbe),(4,.pointer (some ⟨gt,0,none⟩)),(5,.pointer (some ⟨gh,0,none⟩)),(6,.pointer (some ⟨gw,0,none⟩))] rfl _ (Akd num sle sbe gt gh gw _) (some 66) rfl ?_;refine⟨I4.out,?_⟩;simp only[pU];refine rO 10 ?_;obtain⟨g,hg⟩:=eX w4.heap.size
 refine Aa4 rfl rfl 91 _ rfl #[.int .i64 num,.int .i64 sle,.int .i64 sbe,.int .i64 0,.pointer (some ⟨gt,0,none⟩),.pointer (some ⟨gh,0,none⟩),.pointer (some ⟨gw,0,none⟩),.slice none 0 0,.slice none 0 0] rfl (some 67) rfl ?_;rw[←hg];obtain⟨w5,hw5⟩:=eX (w4.alloc (.cells #[.int .i64 num,.int .i64 sle,.int .i64 sbe,.int .i64 0,.pointer (some ⟨gt,0,none⟩),.pointer (some ⟨gh,0,none⟩),.pointer (some ⟨gw,0,none⟩),.slice none 0 0,.slice none 0 0] 91));rw[←hw5];have HG:Hid _:=hg;have HW5:Hid _:=hw5;clear hg hw5;have I5:Hid (Wd w.heap.size s w5):=⟨⟨w5,by rw[HW5.out];exact Ah _ _ _ _ ((B4.out.block _ (gS Z3.out)).trans Z3.out)⟩,rfl⟩;refine⟨I5.out,?_⟩;simp only[pU];refine rR [11,12] 2 0 I5.out ?_;simp only[pk];go_big_quiet_step (fail);go_big_quiet_step (fail);refine wpQuiet_nil ?_;refine rD ?_;refine⟨rfl,?_⟩
 go_wp2_with fail;go_ret2;obtain⟨a1,a2,a3,a4,a5,a6,a7,a8,a9,a10⟩:=HQ.out;rw[←a1, ←a2, ←a3, ←a4, ←a5, ←a6, ←a7, ←a8, ←a9, ←a10];have z1:=B0.out.trans (B1.out.mono B0.out.size);have z2:=z1.trans (B2.out.mono z1.size);have hg2:=HGW.out;have z3:=z2.trans (B3.out.mono (by rw[hg2];exact z2.size));have z4:Below w.heap.size w w4:=z3.drew.trans (B4.out.mono z3.drew.size);have z5:Below w.heap.size w w5:=by rw[HW5.out];exact z4.alloc z4.size _
 have y3:Below w2.heap.size w2 w3:=by rw[←hg2];exact B3.out
 have x5:Below w4.heap.size w4 w5:=by rw[HW5.out];exact(aH _ _).alloc (aG _) _
 have x4:Below w3.heap.size w3 w5:=((aH _ _).drew.trans B4.out).trans (x5.mono B4.out.size);have x3:=y3.trans (x4.mono y3.size);have t5:=T2.out.below x3;have v5:=V3.out.below x4;exact⟨⟨g,gt,gh,gw,⟨.slice none 0 0,.slice none 0 0,.slice none 0 0,.slice none 0 0,.slice none 0 0,.slice none 0 0⟩,rfl,⟨by rw[HW5.out];exact Ab _ _ _ HG.out,⟨t5.blk,t5.o1.base z1.size,t5.o2.base z1.size,t5.o3.base z1.size,t5.a12,t5.a13,t5.a23,bO z1.size t5.hB⟩,Apw (w:=w4) (by rw[HGH.out];exact HV4.out) x5,⟨v5.blk,v5.own.base (by rw[hg2];exact z2.size),bO (by rw[hg2];exact z2.size) v5.hB⟩,Fc.nil _ _ _,BJ.nil _ _,by rw[HG.out];exact z4.size,by rw[HGH.out];exact z3.size⟩⟩,z5⟩
theorem Qj{R:Rm}{N:Nat}{n:Af Aq}(h:Az N R n)(index:Int){hd:List Int}(hH:AK hd)(now:Int):Az (N+4) R (Cl (Al R) n index hd now):=by
 have h1:=QV h now n.hold.use hd;unfold Cl;split
 ·split
  ·rename_i t s e;rw[e] at h1;split
   ·obtain⟨q1,q2,q3⟩:=Afs h1 index hH now;split;rename_i w sq er he;have he':Fk (AX n t).wait index hd now=(w,sq,er):=he;rw[he'] at q1 q2 q3;have h2:Az (N+2) R (Db (AX n t) w):=Kt h1 q1 q2 q3;split
    ·unfold Da;split
     ·exact h2.le (by omega)
     ·exact EJ (Ku h2 _ _) _
    ·exact(EJ h1 _).le (by omega)
   ·exact(EJ h1 _).le (by omega)
  ·rename_i t s e;rw[e] at h1;exact(EJ h1 _).le (by omega)
 ·exact(EJ h _).le (by omega)
end
section
open Go.ChangeAt Go.ChangeShapes Go.RowKit Go.WideElems Go.WideMaps Go.WideShapes
theorem own:ownKnob aA.godebug=none:=by kernel_rfl
theorem Pv{H:Type}{enc:TypeId×Value→H}{W:World}{base:Nat}{spare:Nat→Bool}{held:Bool}{fuel:Nat}{cs:List Value}{x:DataW H×List MemPlace}(hl:cs.length=13)
  (h:aM enc aA W base spare held fuel 35 cs=some x):∃L:List Int,cs=L.map (Value.int .u8)∧AK L:=by
 have c5:aA.cellsOf 5=1:=by kernel_rfl
 obtain⟨xs,m,rfl,hx,hlen,hn,hel⟩:=DataW.trod_array Tryz.underlying35 h
 have each:∀i,i<13→∃z:Int,cs[i]?=some (.int .u8 z)∧0≤z∧z<256:=fun i hi=>by
  have h1:=hel i hi;rw[aT (show i<xs.length by omega),c5,Nat.mul_one] at h1;obtain⟨z,ez,_,wz⟩:=bY Tryz.underlying5 h1;refine⟨z,?_,?_⟩
  ·have:=congrArg (·[0]?) ez;simpa[List.getElem?_take,bP] using this
  ·have:=bounds_u8 wz;omega
 refine⟨cs.map intOf,?_,by simp[hl],fun k=> ?_⟩
 ·apply aW;intro k;rcases bQ k 13 with hk | hk
  ·obtain⟨z,hz,_⟩:=each k hk;simp only[aX,hz];rfl
  ·rw[aD (by omega),aD (by simpa[hl] using hk)]
 ·rcases bQ k 13 with hk | hk
  ·obtain⟨z,hz,hb⟩:=each k hk;rw[bR,aX,hz];exact hb
  ·rw[bR,aD (by simpa[hl] using hk)];decide
theorem OC{cs:List Value}{i:Nat}{v:Value}(h:(cs.drop i).take 1=[v]):cs[i]?=some v:=by
 have:=congrArg List.head? h;rw[List.head?_take,if_neg (by decide),List.head?_drop] at this;simpa using this
theorem Bn{P:Program}{H:Type}{enc:TypeId×Value→H}{W:World}{base:Nat}{spare:Nat→Bool}{held:Bool}{n:Nat}{t:TypeId}{cs:List Value}{y:Option (DataW H×List MemPlace)}{i:Nat}{k:IntKind}(ht:P.underlying t=some (.int k))(hc:P.cellsOf t=1)
  (h:aM enc P W base spare held n t ((cs.drop i).take (P.cellsOf t))=y) (hy:y.isSome=true):∃z:Int,cs[i]?=some (.int k z):=by
 obtain⟨y',rfl⟩:=aK.1 hy;obtain⟨z,h1,_,_⟩:=bY ht h;rw[hc] at h1;exact⟨z,OC h1⟩
theorem Bs{α:Type}{xs:List α}{n i:Nat}(h:xs.length=n)(hi:i<n):(xs[i]?).isSome=true:=by
 rw[aT (by omega)];rfl
theorem Agd{H:Type}{enc:TypeId×Value→H}{W:World}{base:Nat}{spare:Nat→Bool}{held:Bool}{fuel:Nat}{cs:List Value}{x:DataW H×List MemPlace}(hl:cs.length=26)
  (h:aM enc aA W base spare held fuel 37 cs=some x):∃V M:List Int,cs=(V++M).map (Value.int .u8)∧AK V∧AK M:=by
 have c13:aA.cellsOf 35=13:=by kernel_rfl
 obtain⟨y0,y1,k,hy,_,t0,t1⟩:=trod_struct2 Tryz.underlying37 h;rw[c13] at t0 t1;obtain⟨V,hV,bV⟩:=Pv (by simp;omega) t0;obtain⟨M,hM,bM⟩:=Pv (by simp;omega) t1;refine⟨V,M,?_,bV,bM⟩;rw[List.map_append, ←hV, ←hM];simp only[List.drop_zero];rw[bI (l:=List.drop 13 cs) (by simp;omega),aL]
theorem Aik{H:Type}{enc:TypeId×Value→H}{W:World}{base:Nat}{spare:Nat→Bool}{held:Bool}{fuel:Nat}{cs:List Value}{x:DataW H×List MemPlace}(hl:cs.length=53)
  (h:aM enc aA W base spare held fuel 39 cs=some x):∃m:An,cs=Ns m∧BB m:=by
 have c3:aA.cellsOf 3=1:=by kernel_rfl
 have c26:aA.cellsOf 37=26:=by kernel_rfl
 have c13:aA.cellsOf 35=13:=by kernel_rfl
 obtain⟨xs,n,_,_,_,hxl,hf⟩:=bS Tryz.underlying39 h;obtain⟨n0,h0⟩:=Bn aC c3 (hf 0 _ rfl) (Bs hxl (by decide));obtain⟨n1,h1⟩:=Bn aC c3 (hf 1 _ rfl) (Bs hxl (by decide));obtain⟨n2,h2⟩:=Bn aC c3 (hf 2 _ rfl) (Bs hxl (by decide));obtain⟨n3,h3⟩:=Bn aC c3 (hf 3 _ rfl) (Bs hxl (by decide));obtain⟨n4,h4⟩:=Bn aC c3 (hf 4 _ rfl) (Bs hxl (by decide));obtain⟨n5,h5⟩:=Bn aC c3 (hf 5 _ rfl) (Bs hxl (by decide));obtain⟨n6,h6⟩:=Bn aC c3 (hf 6 _ rfl) (Bs hxl (by decide));obtain⟨n7,h7⟩:=Bn aC c3 (hf 7 _ rfl) (Bs hxl (by decide));obtain⟨n8,h8⟩:=Bn aC c3 (hf 8 _ rfl) (Bs hxl (by decide));obtain⟨n9,h9⟩:=Bn aC c3 (hf 9 _ rfl) (Bs hxl (by decide));obtain⟨n10,h10⟩:=Bn aC c3 (hf 10 _ rfl) (Bs hxl (by decide));obtain⟨n11,h11⟩:=Bn aC c3 (hf 11 _ rfl) (Bs hxl (by decide));obtain⟨n12,h12⟩:=Bn aC c3 (hf 12 _ rfl) (Bs hxl (by decide));obtain⟨n13,h13⟩:=Bn aC c3 (hf 13 _ rfl) (Bs hxl (by decide))
 have h14:aM enc aA W base spare held n 37 ((cs.drop 14).take (aA.cellsOf 37))=xs[14]?:=hf 14 _ rfl;obtain⟨y,hy⟩:=aK.1 (Bs hxl (show 14<16 by decide));rw[hy,c26] at h14;obtain⟨V,M,hVM,bV,bM⟩:=Agd (by simp;omega) h14;have h15:aM enc aA W base spare held n 35 ((cs.drop 40).take (aA.cellsOf 35))=xs[15]?:=hf 15 _ rfl;obtain⟨z,hz⟩:=aK.1 (Bs hxl (show 15<16 by decide));rw[hz,c13] at h15;obtain⟨L,hL,bL⟩:=Pv (by simp;omega) h15;refine⟨⟨n0,[n1,n2,n3,n4,n5,n6,n7,n8,n9,n10,n11,n12,n13],(V,M),L⟩,?_,rfl,bV,bM,bL⟩
 have e1:cs.take 14=[.int .i64 n0,.int .i64 n1,.int .i64 n2,.int .i64 n3,.int .i64 n4,.int .i64 n5,.int .i64 n6,.int .i64 n7,.int .i64 n8,.int .i64 n9,.int .i64 n10,.int .i64 n11,.int .i64 n12,.int .i64 n13]:=by
  apply aW;intro k;rcases(show k=0∨k=1∨k=2∨k=3∨k=4∨k=5∨k=6∨k=7∨k=8∨k=9∨k=10∨k=11∨k=12∨k=13∨14≤k by omega) with rfl | rfl | rfl | rfl | rfl | rfl | rfl | rfl | rfl | rfl | rfl | rfl | rfl | rfl | hk
  ·rw[aB (by decide)];exact h0
  ·rw[aB (by decide)];exact h1
  ·rw[aB (by decide)];exact h2
  ·rw[aB (by decide)];exact h3
  ·rw[aB (by decide)];exact h4
  ·rw[aB (by decide)];exact h5
  ·rw[aB (by decide)];exact h6
  ·rw[aB (by decide)];exact h7
  ·rw[aB (by decide)];exact h8
  ·rw[aB (by decide)];exact h9
  ·rw[aB (by decide)];exact h10
  ·rw[aB (by decide)];exact h11
  ·rw[aB (by decide)];exact h12
  ·rw[aB (by decide)];exact h13
  ·rw[aD (by rw[bF];omega),aD (by simpa using hk)]
 have e2:cs=cs.take 14++((cs.drop 14).take 26++(cs.drop 40).take 13):=by
  rw[bI (l:=cs.drop 40) (by simp;omega)]
  conv=>lhs;rw[←aL 14 cs]
  congr 1
  conv=>lhs;rw[←aL 26 (cs.drop 14)]
  rw[bJ]
 rw[e2,e1,hVM,hL];rfl
structure CJ where
 kind:Int
 index:Int
 src:Int
 now:Int
 head:List Int
 msg:An
 raw:List UInt8
 hh:AK head
 hm:BB msg
 hr:raw.length≤140737488351232
def Le(x:CJ):List Value:=.int .i64 x.kind:: .int .i64 x.index:: .int .i64 x.src:: .int .i64 x.now::(x.head.map (Value.int .u8)++(Ns x.msg++[.string ⟨x.raw.toArray⟩]))
def AO(x:CJ):Array Value:=(Le x).toArray
theorem Akt(x:CJ):(Le x).length=71:=by
 have:=QO x.hm;have:=x.hh.1;simp only[Le,bT,List.length_append,aO,List.length_nil];omega
theorem Hk(x:CJ):(AO x).size=71:=by
 unfold AO;rw[List.size_toArray,Akt]
theorem Pz(x:CJ):(AO x).all (·.oneCell')=true:=by
 have:=Aey x.msg;unfold Ae at this;rw[bU] at this;unfold AO Le;rw[bU];simp only[List.all_cons,List.all_append,List.all_map,this];simp[Value.oneCell']
theorem Aqx:AK (List.replicate 13 (0:Int)):=⟨by decide,fun k=>by
 rcases bQ k 13 with h | h
 ·rw[bR,bG,if_pos h];decide
 ·rw[bR,bG,if_neg (by omega)];decide⟩
def Lj:CJ:=⟨0,0,0,0,_,_,[],Aqx,Du 0,by decide⟩
def Fj:El:=⟨41,25,71,216,AO Lj⟩
theorem Hq:Fj.Ok:=⟨bD,⟨_,aY,rfl⟩,by kernel_rfl,rfl,by decide,by decide,by decide⟩
def Ar1:Ag:=⟨41,71⟩
theorem JI:Ar1.Ok:=⟨⟨_,aY,rfl⟩,by kernel_rfl⟩
theorem TE(x:CJ):(AO x)[0]?=some (.int .i64 x.kind):=by simp[AO,Le]
theorem Agx(x:CJ):(AO x)[1]?=some (.int .i64 x.index):=by simp[AO,Le]
theorem Agw(x:CJ):(AO x)[2]?=some (.int .i64 x.src):=by simp[AO,Le]
theorem Gw(x:CJ):(AO x)[3]?=some (.int .i64 x.now):=by simp[AO,Le]
theorem Apv(x:CJ):∀j,j<13→(AO x)[4+j]?=(hv x.head)[j]?:=fun j hj=>by
 have:=x.hh.1
 simp only[AO,Le,hv,aZ,show 4+j=j+1+1+1+1 by omega,aV]
 rw[bE (by rw[aO];omega)]
theorem Apu(x:CJ):∀j,j<53→(AO x)[17+j]?=(Ae x.msg)[j]?:=fun j hj=>by
 have h1:=x.hh.1
 have h2:=QO x.hm
 simp only[AO,Le,Ae,aZ,show 17+j=(j+13)+1+1+1+1 by omega,aV]
 rw[aR (by rw[aO];omega),aO,h1,show j+13-13=j by omega,bE (by omega)]
theorem Apt(x:CJ):(AO x)[70]?=some (.string ⟨x.raw.toArray⟩):=by
 have h1:=x.hh.1;have h2:=QO x.hm;simp only[AO,Le,aZ];rw[show(70:Nat)=66+1+1+1+1 by rfl];simp only[aV];rw[aR (by rw[aO];omega),aO,h1,aR (by omega),h2];rfl
theorem PC{H:Type}{P:Program}{e:TypeId}:∀ {es:List (DataW H)} {d:DataW H},d∈es→∀m∈d.weights P e,m∈bW P e es
 | [],_,h,_,_=>absurd h (by simp)
 | x::es,d,h,m,hm=>by
  simp only[bW,bH]
  rcases List.mem_cons.1 h with rfl | h
  ·exact .inl hm
  ·exact .inr (PC h m hm)
theorem Sq{H:Type}{P:Program}{t e:TypeId}(ht:P.underlying t=some (.slice e)){b:Nat}{x:DataW H}(h:∀m∈x.weights P t,m≤b){es sp:List (DataW H)}(hx:x=.slice es sp):∀d∈es,∀m∈d.weights P e,m≤b:=fun d hd m hm=>by
 subst hx
 refine h m ?_
 simp only[bK,ht,List.mem_cons,bH]
 exact .inr (.inl (PC hd m hm))
theorem Uo{P:Program}{H:Type}{enc:TypeId×Value→H}{W:World}{base:Nat}{spare:Nat→Bool}{held:Bool}{n:Nat}{t:TypeId}{cs:List Value}{xs:List (DataW H×List MemPlace)}{ts:List TypeId}{i k b:Nat}(ht:P.underlying t=some .string)(hc:P.cellsOf t=1)
  (h:aM enc P W base spare held n t ((cs.drop i).take (P.cellsOf t))=xs[k]?) (hy:(xs[k]?).isSome=true) (hts:ts[k]?=some t) (hw:∀m∈DataW.weightsEach P ts (xs.map (·.1)),m≤b):∃s:ByteArray,cs[i]?=some (.string s)∧s.size≤b:=by
 obtain⟨y,hy⟩:=aK.1 hy;rw[hy] at h;obtain⟨s,h1,h2,_⟩:=DataW.trod_string ht h;rw[hc] at h1;refine⟨s,OC h1,?_⟩;have:=hw s.data.toList.length (DataW.weights_mem_each hts (d:=.lit (.string s.data.toList)) (by rw[aX,hy,h2];rfl) _ (by simp[bK]));rw[Array.length_toList] at this;exact this
theorem Aob{H:Type}{enc:TypeId×Value→H}{W:World}{base:Nat}{spare:Nat→Bool}{held:Bool}(fuel:Nat)(cs:List Value)(x:DataW H×List MemPlace)(hl:cs.length=71)(hw:∀m∈x.1.weights aA 41,m≤reachBytes)
  (h:aM enc aA W base spare held fuel 41 cs=some x):∃r:CJ,cs=(AO r).toList∧True:=by
 have c3:aA.cellsOf 3=1:=by kernel_rfl
 have c9:aA.cellsOf 9=1:=by kernel_rfl
 have c13:aA.cellsOf 35=13:=by kernel_rfl
 have c53:aA.cellsOf 39=53:=by kernel_rfl
 obtain⟨xs,n,_,hxe,_,hxl,hf⟩:=bS aY h;rw[hxe] at hw;simp only[bK,aY] at hw;obtain⟨n0,h0⟩:=Bn aC c3 (hf 0 _ rfl) (Bs hxl (by decide));obtain⟨n1,h1⟩:=Bn aC c3 (hf 1 _ rfl) (Bs hxl (by decide));obtain⟨n2,h2⟩:=Bn aC c3 (hf 2 _ rfl) (Bs hxl (by decide));obtain⟨n3,h3⟩:=Bn aC c3 (hf 3 _ rfl) (Bs hxl (by decide));have h4:aM enc aA W base spare held n 35 ((cs.drop 4).take (aA.cellsOf 35))=xs[4]?:=hf 4 _ rfl;obtain⟨y,hy⟩:=aK.1 (Bs hxl (show 4<7 by decide));rw[hy,c13] at h4;obtain⟨L,hL,bL⟩:=Pv (by simp;omega) h4;have h5:aM enc aA W base spare held n 39 ((cs.drop 17).take (aA.cellsOf 39))=xs[5]?:=hf 5 _ rfl;obtain⟨z,hz⟩:=aK.1 (Bs hxl (show 5<7 by decide));rw[hz,c53] at h5;obtain⟨m,hM,okm⟩:=Aik (by simp;omega) h5;obtain⟨s,h6,hs⟩:=Uo bX c9 (hf 6 _ rfl) (Bs hxl (by decide)) rfl hw;refine⟨⟨n0,n1,n2,n3,L,m,s.data.toList,bL,okm,by rw[Array.length_toList];exact bO hs (by decide)⟩,?_,trivial⟩
 have e1:cs.take 4=[.int .i64 n0,.int .i64 n1,.int .i64 n2,.int .i64 n3]:=by
  apply aW;intro k;rcases(show k=0∨k=1∨k=2∨k=3∨4≤k by omega) with rfl | rfl | rfl | rfl | hk
  ·rw[aB (by decide)];exact h0
  ·rw[aB (by decide)];exact h1
  ·rw[aB (by decide)];exact h2
  ·rw[aB (by decide)];exact h3
  ·rw[aD (by rw[bF];omega),aD (by simpa using hk)]
 have e3:cs.drop 70=[.string s]:=by
  apply aW;intro k;rw[bP]
  cases k with
  | zero=>exact h6
  | succ k=>rw[aD (by omega),aD (by simp)]
 have e2:cs=cs.take 4++((cs.drop 4).take 13++((cs.drop 17).take 53++cs.drop 70)):=by
  conv=>lhs;rw[←aL 4 cs]
  congr 1
  conv=>lhs;rw[←aL 13 (cs.drop 4)]
  rw[bJ];congr 1
  conv=>lhs;rw[←aL 53 (cs.drop 17)]
  rw[bJ]
 rw[e2,e1,hL,hM,e3];simp only[AO,Le];have:(⟨s.data.toList.toArray⟩:ByteArray)=s:=by cases s;simp
 rw[this];rfl
theorem Mo{H:Type}{enc:TypeId×Value→H}{W:World}{r:Reach}{b0 base:Nat}{spare:Nat→Bool}{held:Bool}{v:Value}{d:DataW H}{p:List MemPlace}
  (hok:Value.okWide aA W r b0 25 v) (h:DataW.Trod enc aA W base spare held 25 v d p) (hw:∀m∈d.weights aA 25,m≤reachBytes):∃A:List CJ,Ee Fj AO W v A:=by
 obtain⟨fuel,hf⟩:=h
 have hv1:v.cells.toList=[v]:=by
  simp only[Value.okWide,Cell.okWide,Cell.ok,bD] at hok
  cases v <;> simp_all [Value.cells]
 rw[hv1] at hf;have hin:Inhabited CJ:=⟨Lj⟩;obtain⟨A,hA,_⟩:=Aej (E:=Fj) Hq AO Hk (fun _=>True) (fun d=> ∀m∈d.weights aA 41,m≤reachBytes) (fun fuel cs x h1 hw h2=>Aob fuel cs x h1 hw h2) hf (fun es sp he=>Sq bD hw he);exact⟨A,hA⟩
end
section
open Go.Lib Go.RowKit
def DY(j:Nat):Nat:=[105,101,102,97,116,111,114,49,50,115,117,113,108,67,72].getD j 0
def Wt(k:Int):List UInt8:=(AQ k).map fun j=>UInt8.ofNat (DY j)
def DI(k:Int):ByteArray:=⟨(Wt k).toArray⟩
theorem MF(k:Int):(AQ k).length≤8:=Hi (P:=fun l=>l.length≤8) (by decide) (by decide) (by decide) (by decide) (by decide) (by decide) (by decide) (by decide) k
theorem LM(k:Int):(DI k).size=(AQ k).length:=by
 unfold DI Wt;simp[ByteArray.size]
theorem Amx{j:Nat}(hj:j<15):DY j<256:=by
 have h:∀j:Fin 15,DY j.1<256:=by decide
 exact h ⟨j,hj⟩
theorem Aiu{i j:Nat}(hi:i<15)(hj:j<15)(h:DY i=DY j):i=j:=by
 have h1:∀i j:Fin 15,DY i.1=DY j.1→i=j:=by decide
 exact congrArg Fin.val (h1 ⟨i,hi⟩ ⟨j,hj⟩ h)
theorem Ka{i j:Nat}(hi:i<15)(hj:j<15):(((DY i:Nat):Int)==((DY j:Nat):Int))=decide (i=j):=by
 rw[Bool.eq_iff_iff,beq_iff_eq,decide_eq_true_eq];constructor
 ·intro h;exact Aiu hi hj (by omega)
 ·rintro rfl;rfl
theorem Abc{k:Int}{i j:Nat}(h:(AQ k)[i]?=some j)(W:World):(Instr.index 9 (.string (DI k)) (.int .i64 (i:Int))).run aA W=.ok (.int .u8 ((DY j:Nat):Int)) W:=by
 have hi:i<(AQ k).length:=(List.getElem?_eq_some_iff.1 h).1;have hs:i<(DI k).size:=by rw[LM];exact hi
 have hj:=MG k j (bB h)
 have e:((DI k)[i].toNat:Nat)=DY j:=by
  have h1:=Apk (DI k) i hs
  have h2:(DI k).data.toList[i]?=some (UInt8.ofNat (DY j)):=by
   unfold DI Wt;simp only;rw[aX,h];rfl
  rw[h1] at h2;rw[Option.some.inj h2];simp[Nat.mod_eq_of_lt (Amx hj)]
 rw[←e];simp[go_sem,bX,hs]
theorem Ai8(w:World):Calls aA 66 #[.int .i64 1] w fun e w'=>e=.returned (.string (DI 1))∧w'=w:=by
 go_enter aP,aN;go_wp2_with fail;go_ret;exact⟨rfl,rfl⟩
theorem Ai7(w:World):Calls aA 66 #[.int .i64 2] w fun e w'=>e=.returned (.string (DI 2))∧w'=w:=by
 go_enter aP,aN;go_wp2_with fail;go_ret;exact⟨rfl,rfl⟩
theorem Ai6(w:World):Calls aA 66 #[.int .i64 3] w fun e w'=>e=.returned (.string (DI 3))∧w'=w:=by
 go_enter aP,aN;go_wp2_with fail;go_ret;exact⟨rfl,rfl⟩
theorem Ai5(w:World):Calls aA 66 #[.int .i64 4] w fun e w'=>e=.returned (.string (DI 4))∧w'=w:=by
 go_enter aP,aN;go_wp2_with fail;go_ret;exact⟨rfl,rfl⟩
theorem Ai4(w:World):Calls aA 66 #[.int .i64 5] w fun e w'=>e=.returned (.string (DI 5))∧w'=w:=by
 go_enter aP,aN;go_wp2_with fail;go_ret;exact⟨rfl,rfl⟩
theorem Ai3(w:World):Calls aA 66 #[.int .i64 6] w fun e w'=>e=.returned (.string (DI 6))∧w'=w:=by
 go_enter aP,aN;go_wp2_with fail;go_ret;exact⟨rfl,rfl⟩
theorem Ai2(w:World):Calls aA 66 #[.int .i64 7] w fun e w'=>e=.returned (.string (DI 7))∧w'=w:=by
 go_enter aP,aN;go_wp2_with fail;go_ret;exact⟨rfl,rfl⟩
theorem Ai9(k:Int)(hk:AQ k=[])(w:World):Calls aA 66 #[.int .i64 k] w fun e w'=>e=.returned (.string (DI k))∧w'=w:=by
 have n1:¬k=1:=fun e=>by rw[e] at hk;cases hk
 have n2:¬k=2:=fun e=>by rw[e] at hk;cases hk
 have n3:¬k=3:=fun e=>by rw[e] at hk;cases hk
 have n4:¬k=4:=fun e=>by rw[e] at hk;cases hk
 have n5:¬k=5:=fun e=>by rw[e] at hk;cases hk
 have n6:¬k=6:=fun e=>by rw[e] at hk;cases hk
 have n7:¬k=7:=fun e=>by rw[e] at hk;cases hk
 have HS:Hid (DI k=⟨#[]⟩):=by show _=_;unfold DI Wt;rw[hk];rfl
 clear hk;go_enter aP,aN;go_wp2_with fail;go_ret;rw[HS.out];exact⟨rfl,rfl⟩
theorem IOx(k:Int)(w:World):Calls aA 66 #[.int .i64 k] w fun e w'=>e=.returned (.string (DI k))∧w'=w:=by
 by_cases hk:AQ k=[]
 ·exact Ai9 k hk w
 ·have hr:=RU (k:=k) (by cases h:AQ k with | nil=>exact absurd h hk | cons a l=>rfl);have hcases:k=1∨k=2∨k=3∨k=4∨k=5∨k=6∨k=7:=by omega
  rcases hcases with rfl | rfl | rfl | rfl | rfl | rfl | rfl
  ·exact Ai8 w
  ·exact Ai7 w
  ·exact Ai6 w
  ·exact Ai5 w
  ·exact Ai4 w
  ·exact Ai3 w
  ·exact Ai2 w
theorem Aqm(m:An)(hm:BB m)(w:World):Calls aA 122 #[.agg (Ae m),.int .u8 105] w fun e w'=>e=.returned (.int .i64 (Ad m 0))∧Below w.heap.size w w':=by
 have hc:(w.alloc (.cells (Ae m) 39)).cell? ⟨w.heap.size,1,none⟩=some (.int .i64 (Ad m 0)):=by
  rw[cell_of_row _ _ _ _ _ _ (Ab _ _ _ rfl)];exact BK hm 0 (by decide)
 have HB:Hid (Below w.heap.size w (w.alloc (.cells (Ae m) 39))):=(aH _ _).alloc (aG _) _;go_enter aJ,aI;go_wp2_with fail;go_ret;exact⟨rfl,HB.out⟩
theorem Aql(m:An)(hm:BB m)(w:World):Calls aA 122 #[.agg (Ae m),.int .u8 101] w fun e w'=>e=.returned (.int .i64 (Ad m 1))∧Below w.heap.size w w':=by
 have hc:(w.alloc (.cells (Ae m) 39)).cell? ⟨w.heap.size,2,none⟩=some (.int .i64 (Ad m 1)):=by
  rw[cell_of_row _ _ _ _ _ _ (Ab _ _ _ rfl)];exact BK hm 1 (by decide)
 have HB:Hid (Below w.heap.size w (w.alloc (.cells (Ae m) 39))):=(aH _ _).alloc (aG _) _;go_enter aJ,aI;go_wp2_with fail;go_ret;exact⟨rfl,HB.out⟩
theorem Aqk(m:An)(hm:BB m)(w:World):Calls aA 122 #[.agg (Ae m),.int .u8 102] w fun e w'=>e=.returned (.int .i64 (Ad m 2))∧Below w.heap.size w w':=by
 have hc:(w.alloc (.cells (Ae m) 39)).cell? ⟨w.heap.size,3,none⟩=some (.int .i64 (Ad m 2)):=by
  rw[cell_of_row _ _ _ _ _ _ (Ab _ _ _ rfl)];exact BK hm 2 (by decide)
 have HB:Hid (Below w.heap.size w (w.alloc (.cells (Ae m) 39))):=(aH _ _).alloc (aG _) _;go_enter aJ,aI;go_wp2_with fail;go_ret;exact⟨rfl,HB.out⟩
theorem Aqj(m:An)(hm:BB m)(w:World):Calls aA 122 #[.agg (Ae m),.int .u8 97] w fun e w'=>e=.returned (.int .i64 (Ad m 3))∧Below w.heap.size w w':=by
 have hc:(w.alloc (.cells (Ae m) 39)).cell? ⟨w.heap.size,4,none⟩=some (.int .i64 (Ad m 3)):=by
  rw[cell_of_row _ _ _ _ _ _ (Ab _ _ _ rfl)];exact BK hm 3 (by decide)
 have HB:Hid (Below w.heap.size w (w.alloc (.cells (Ae m) 39))):=(aH _ _).alloc (aG _) _;go_enter aJ,aI;go_wp2_with fail;go_ret;exact⟨rfl,HB.out⟩
theorem Aqi(m:An)(hm:BB m)(w:World):Calls aA 122 #[.agg (Ae m),.int .u8 116] w fun e w'=>e=.returned (.int .i64 (Ad m 4))∧Below w.heap.size w w':=by
 have hc:(w.alloc (.cells (Ae m) 39)).cell? ⟨w.heap.size,5,none⟩=some (.int .i64 (Ad m 4)):=by
  rw[cell_of_row _ _ _ _ _ _ (Ab _ _ _ rfl)];exact BK hm 4 (by decide)
 have HB:Hid (Below w.heap.size w (w.alloc (.cells (Ae m) 39))):=(aH _ _).alloc (aG _) _;go_enter aJ,aI;go_wp2_with fail;go_ret;exact⟨rfl,HB.out⟩
theorem Aqh(m:An)(hm:BB m)(w:World):Calls aA 122 #[.agg (Ae m),.int .u8 111] w fun e w'=>e=.returned (.int .i64 (Ad m 5))∧Below w.heap.size w w':=by
 have hc:(w.alloc (.cells (Ae m) 39)).cell? ⟨w.heap.size,6,none⟩=some (.int .i64 (Ad m 5)):=by
  rw[cell_of_row _ _ _ _ _ _ (Ab _ _ _ rfl)];exact BK hm 5 (by decide)
 have HB:Hid (Below w.heap.size w (w.alloc (.cells (Ae m) 39))):=(aH _ _).alloc (aG _) _;go_enter aJ,aI;go_wp2_with fail;go_ret;exact⟨rfl,HB.out⟩
theorem Aqg(m:An)(hm:BB m)(w:World):Calls aA 122 #[.agg (Ae m),.int .u8 114] w fun e w'=>e=.returned (.int .i64 (Ad m 6))∧Below w.heap.size w w':=by
 have hc:(w.alloc (.cells (Ae m) 39)).cell? ⟨w.heap.size,7,none⟩=some (.int .i64 (Ad m 6)):=by
  rw[cell_of_row _ _ _ _ _ _ (Ab _ _ _ rfl)];exact BK hm 6 (by decide)
 have HB:Hid (Below w.heap.size w (w.alloc (.cells (Ae m) 39))):=(aH _ _).alloc (aG _) _;go_enter aJ,aI;go_wp2_with fail;go_ret;exact⟨rfl,HB.out⟩
theorem Aqf(m:An)(hm:BB m)(w:World):Calls aA 122 #[.agg (Ae m),.int .u8 49] w fun e w'=>e=.returned (.int .i64 (Ad m 7))∧Below w.heap.size w w':=by
 have hc:(w.alloc (.cells (Ae m) 39)).cell? ⟨w.heap.size,8,none⟩=some (.int .i64 (Ad m 7)):=by
  rw[cell_of_row _ _ _ _ _ _ (Ab _ _ _ rfl)];exact BK hm 7 (by decide)
 have HB:Hid (Below w.heap.size w (w.alloc (.cells (Ae m) 39))):=(aH _ _).alloc (aG _) _;go_enter aJ,aI;go_wp2_with fail;go_ret;exact⟨rfl,HB.out⟩
theorem Aqe(m:An)(hm:BB m)(w:World):Calls aA 122 #[.agg (Ae m),.int .u8 50] w fun e w'=>e=.returned (.int .i64 (Ad m 8))∧Below w.heap.size w w':=by
 have hc:(w.alloc (.cells (Ae m) 39)).cell? ⟨w.heap.size,9,none⟩=some (.int .i64 (Ad m 8)):=by
  rw[cell_of_row _ _ _ _ _ _ (Ab _ _ _ rfl)];exact BK hm 8 (by decide)
 have HB:Hid (Below w.heap.size w (w.alloc (.cells (Ae m) 39))):=(aH _ _).alloc (aG _) _;go_enter aJ,aI;go_wp2_with fail;go_ret;exact⟨rfl,HB.out⟩
theorem Aqd(m:An)(hm:BB m)(w:World):Calls aA 122 #[.agg (Ae m),.int .u8 115] w fun e w'=>e=.returned (.int .i64 (Ad m 9))∧Below w.heap.size w w':=by
 have hc:(w.alloc (.cells (Ae m) 39)).cell? ⟨w.heap.size,10,none⟩=some (.int .i64 (Ad m 9)):=by
  rw[cell_of_row _ _ _ _ _ _ (Ab _ _ _ rfl)];exact BK hm 9 (by decide)
 have HB:Hid (Below w.heap.size w (w.alloc (.cells (Ae m) 39))):=(aH _ _).alloc (aG _) _;go_enter aJ,aI;go_wp2_with fail;go_ret;exact⟨rfl,HB.out⟩
theorem Aoy(m:An)(hm:BB m)(w:World):Calls aA 122 #[.agg (Ae m),.int .u8 117] w fun e w'=>e=.returned (.int .i64 (Ad m 10))∧Below w.heap.size w w':=by
 have hc:(w.alloc (.cells (Ae m) 39)).cell? ⟨w.heap.size,11,none⟩=some (.int .i64 (Ad m 10)):=by
  rw[cell_of_row _ _ _ _ _ _ (Ab _ _ _ rfl)];exact BK hm 10 (by decide)
 have HB:Hid (Below w.heap.size w (w.alloc (.cells (Ae m) 39))):=(aH _ _).alloc (aG _) _;go_enter aJ,aI;go_wp2_with fail;go_ret;exact⟨rfl,HB.out⟩
theorem Aox(m:An)(hm:BB m)(w:World):Calls aA 122 #[.agg (Ae m),.int .u8 113] w fun e w'=>e=.returned (.int .i64 (Ad m 11))∧Below w.heap.size w w':=by
 have hc:(w.alloc (.cells (Ae m) 39)).cell? ⟨w.heap.size,12,none⟩=some (.int .i64 (Ad m 11)):=by
  rw[cell_of_row _ _ _ _ _ _ (Ab _ _ _ rfl)];exact BK hm 11 (by decide)
 have HB:Hid (Below w.heap.size w (w.alloc (.cells (Ae m) 39))):=(aH _ _).alloc (aG _) _;go_enter aJ,aI;go_wp2_with fail;go_ret;exact⟨rfl,HB.out⟩
theorem Aow(m:An)(hm:BB m)(w:World):Calls aA 122 #[.agg (Ae m),.int .u8 108] w fun e w'=>e=.returned (.int .i64 (Ad m 12))∧Below w.heap.size w w':=by
 have hc:(w.alloc (.cells (Ae m) 39)).cell? ⟨w.heap.size,13,none⟩=some (.int .i64 (Ad m 12)):=by
  rw[cell_of_row _ _ _ _ _ _ (Ab _ _ _ rfl)];exact BK hm 12 (by decide)
 have HB:Hid (Below w.heap.size w (w.alloc (.cells (Ae m) 39))):=(aH _ _).alloc (aG _) _;go_enter aJ,aI;go_wp2_with fail;go_ret;exact⟨rfl,HB.out⟩
theorem SL(m:An)(hm:BB m)(j:Nat)(hj:j<13)(w:World):Calls aA 122 #[.agg (Ae m),.int .u8 ((DY j:Nat):Int)] w fun e w'=>e=.returned (.int .i64 (Ad m j))∧Below w.heap.size w w':=by
 match j,hj with
 | 0,_=>exact Aqm m hm w
 | 1,_=>exact Aql m hm w
 | 2,_=>exact Aqk m hm w
 | 3,_=>exact Aqj m hm w
 | 4,_=>exact Aqi m hm w
 | 5,_=>exact Aqh m hm w
 | 6,_=>exact Aqg m hm w
 | 7,_=>exact Aqf m hm w
 | 8,_=>exact Aqe m hm w
 | 9,_=>exact Aqd m hm w
 | 10,_=>exact Aoy m hm w
 | 11,_=>exact Aox m hm w
 | 12,_=>exact Aow m hm w
 | j+13,hj=>omega
def ID(k:Int)(f:Nat):Bool:=(AQ k).contains f
theorem Xz(k:Int)(f:Nat):ID k f=true↔f∈AQ k:=by unfold ID;rw[List.contains_iff_mem]
theorem Aap(k:Int)(f:Nat)(hf:f<15)(w:World):Calls aA 157 #[.int .i64 k,.int .u8 ((DY f:Nat):Int)] w fun e w'=>e=.returned (.bool (ID k f))∧w'=w:=by
 have CF:Hid (∀W,Calls aA 66 #[.int .i64 k] W fun e w'=>e=.returned (.string (DI k))∧w'=W):=fun W=>IOx k W;have HIX:Hid (∀(i j:Nat),(AQ k)[i]?=some j→∀W,(Instr.index 9 (.string (DI k)) (.int .i64 (i:Int))).run aA W=.ok (.int .u8 ((DY j:Nat):Int)) W):=fun i j h W=>Abc h W;obtain⟨s,hs⟩:=eX (DI k);obtain⟨n,hn⟩:=eX ((AQ k).length);have HN:Hid _:=hn;have hsz:s.size=n:=by rw[hs,hn,LM]
 have hn8:n≤8:=by rw[hn];exact MF k
 rw[←hs] at CF HIX;obtain⟨q,hq⟩:∃q:Int,q=((DY f:Nat):Int):=⟨_,rfl⟩;have HQ:Hid (∀j,j∈AQ k→(((DY j:Nat):Int)==q)=decide (j=f)):=fun j hj=>by rw[hq];exact Ka (MG k j hj) hf
 rw[←hq];clear hs hn hq;go_enter Tryz.func157,Tryz.ntmps157;go_wp2_with (go_at_call 66;refine(CF.out _).mono ?_;rintro e w1 ⟨rfl,rfl⟩);go_loop [6] (fun i=> ∃p:Nat,p≤n∧i=.int .i64 (p:Int)∧f∉(AQ k).take p) (fun i=>n-(intOf i).toNat)
 case atStart=>exact⟨0,Nat.zero_le _,rfl,by simp⟩
 case round=>
  obtain⟨p,hp,rfl,hnot⟩:=hrel;have HNOT:Hid _:=hnot;clear hnot;by_cases hlt:p<n
  ·obtain⟨j,hj⟩:∃j,(AQ k)[p]?=some j:=⟨_,aT (by rw[←HN.out];exact hlt)⟩;have hix:=HIX.out p j hj;have hqq:=HQ.out j (bB hj);obtain⟨c,hc⟩:∃c:Int,c=((DY j:Nat):Int):=⟨_,rfl⟩;rw[←hc] at hix hqq;have HJ:Hid _:=hj;clear hc hj;by_cases he:j=f
   ·rw[decide_eq_true he] at hqq
    have HR:Hid (ID k f=true):=by
     show _=_;rw[Xz, ←he];exact bB HJ.out
    clear he;go_wp2_with fail;go_ret;rw[HR.out];exact⟨rfl,rfl⟩
   ·rw[decide_eq_false he] at hqq
    have HR:Hid (f∉(AQ k).take (p+1)):=by
     show¬_;rw[List.take_add_one,HJ.out,bH];rintro(h | h)
     ·exact HNOT.out h
     ·have h2:f=j:=by simpa using h
      exact he h2.symm
    clear he;go_wp2_with fail;go_round
    case rel=>exact⟨p+1,by omega,by go_num,HR.out⟩
    case measure=>simp[intOf];omega
  ·obtain rfl:p=n:=by omega
   have HR:Hid (ID k f=false):=by
    have:=HNOT.out;rw[HN.out,List.take_length] at this;show _=_;rw[←Bool.not_eq_true,Xz];exact this
   go_wp2_with fail;go_ret;rw[HR.out];exact⟨rfl,rfl⟩
theorem Adl(k:Int)(p:Nat):(((AQ k).take p).map Cm).sum≤8*26:=by
 have h:∀l:List Nat,(l.map Cm).sum≤l.length*26:=fun l=>by
  induction l with
  | nil=>simp
  | cons a l ih=>
   have:Cm a≤26:=by unfold Cm;split <;> (try split) <;> omega
   simp only[List.map_cons,List.sum_cons,bT];omega
 have h1:=h ((AQ k).take p);have h2:=MF k;rw[bF] at h1;have:min p (AQ k).length≤8:=by omega
 omega
end
end Go.Proofs.YtbhkoipcpcoooaaGreat
