import Derived.Test.YtbhkoipcpcoooabGreatJ22
import Derived.Test.YtbhkoipcpcoooabGreatJ6
import Derived.Test.YtbhkoipcpcoooabGreatJ8
import Derived.Test.YtbhkoipcpcoooabGreatRows
import Derived.Test.YtbhkoipcpcoooabGreatJ4
import Derived.ProofKit
import Derived.OpenShut
import Derived.Carry
import Derived.Test.YtbhkoipcpcoooabGreatJ12
import Derived.Deep.Slices
import Derived.SizedLaws
import Derived.Test.YtbhkoipcpcoooabGreatJ13
import Derived.Test.YtbhkoipcpcoooabGreatJ15
import Derived.Test.YtbhkoipcpcoooabGreatJ1
import Derived.Test.YtbhkoipcpcoooabGreatJ3
import Derived.Deep.QuietTactic
namespace Go.Proofs.YtbhkoipcpcoooabGreat
set_option maxRecDepth 20000
set_option maxHeartbeats 64000000
open Go
open Go.Proofs.Tryz renaming prog → aA, underlying3 → aC, ntmps65 → aK, func65 → aM, ntmps62 → aX, func62 → aZ, underlying29 → bH, ntmps11 → bJ, func11 → bN, underlying9 → cH
open _root_.List renaming getElem?_take_of_lt → aB, getElem?_eq_none → aH, setIfInBounds_toArray → aI, drop_succ_cons → aN, drop_zero → aO, take_append_drop → aP, take_succ_cons → aQ, set_cons_succ → aT, set_cons_zero → aV, length_map → aY, take_zero → bA, mem_of_getElem? → bB, getElem?_append_right → bC, getElem?_eq_getElem → bD, getElem?_cons_succ → bE, ext_getElem? → bF, getElem?_map → bG, getElem?_toArray → bI, getElem?_eq_some_iff → bO, getElem?_append_left → bP, length_take → bQ, getElem?_replicate → bR, take_of_length_le → bT, drop_drop → bW, map_cons → bY, getElem?_drop → cB, getD → cD, all_eq_true → cF, length_cons → cG, headD_cons → cI
open _root_.Nat renaming le_refl → aD, le_trans → cA, lt_or_ge → cC
open Go.RowKit.Below renaming refl → aG
open _root_.Array renaming getElem?_eq_some_iff → aJ, length_toList → bZ
open _root_.Option renaming isSome_iff_exists → aL
open Go.World renaming drew → aR, frozen? → bX
open Go.DataW renaming trod → aW, trod_struct → cE, trod_int → cJ, weights → cM
open _root_.Int renaming toNat_of_nonneg → bK
section
open Go.Lib Go.RowKit
def H5(s:H6):List (Int×Int×Int):=[(s.sw,2,6),(s.au,2,s.sw),(s.ca,0,2048),(s.ro,2,2048),(s.pa,2,64),(s.idl,0,1000),(s.hd,0,1000),(s.gr,1,512),(s.wi,1,64),(s.wa,1,64),(s.tr,1,8),(s.ti,2,100),(s.be,1,20),(s.le,wrap64 (3*s.be),200),(s.lo,wrap64 (3*s.be),200),(s.qu,wrap64 (wrap64 (wrap64 (2*s.wa)+s.wi)+8),512)]
def bdA(s:H6):Array Value:=#[.int .i64 s.sw,.int .i64 2,.int .i64 6,.int .i64 s.au,.int .i64 2,.int .i64 s.sw,.int .i64 s.ca,.int .i64 0,.int .i64 2048,.int .i64 s.ro,.int .i64 2,.int .i64 2048,.int .i64 s.pa,.int .i64 2,.int .i64 64,.int .i64 s.idl,.int .i64 0,.int .i64 1000,.int .i64 s.hd,.int .i64 0,.int .i64 1000,.int .i64 s.gr,.int .i64 1,.int .i64 512,.int .i64 s.wi,.int .i64 1,.int .i64 64,.int .i64 s.wa,.int .i64 1,.int .i64 64,.int .i64 s.tr,.int .i64 1,.int .i64 8,.int .i64 s.ti,.int .i64 2,.int .i64 100,.int .i64 s.be,.int .i64 1,.int .i64 20,.int .i64 s.le,.int .i64 (wrap64 (3*s.be)),.int .i64 200,.int .i64 s.lo,.int .i64 (wrap64 (3*s.be)),.int .i64 200,.int .i64 s.qu,.int .i64 (wrap64 (wrap64 (wrap64 (2*s.wa)+s.wi)+8)),.int .i64 512]
def QD(p:Int×Int×Int):Bool:=OQ p.1 p.2.1 p.2.2
def Gd(s:H6):Bool:=(H5 s).all QD
theorem Aae(s:H6)(k:Nat)(hk:k<16):∃x a b,(H5 s)[k]?=some (x,a,b)∧∀W,(Instr.index 108 (.agg (bdA s)) (.int .i64 (k:Int))).run aA W=.ok (.agg #[.int .i64 x,.int .i64 a,.int .i64 b]) W:=by
 rcases(show k=0∨k=1∨k=2∨k=3∨k=4∨k=5∨k=6∨k=7∨k=8∨k=9∨k=10∨k=11∨k=12∨k=13∨k=14∨k=15 by omega) with rfl | rfl | rfl | rfl | rfl | rfl | rfl | rfl | rfl | rfl | rfl | rfl | rfl | rfl | rfl | rfl <;> exact⟨_,_,_,rfl,fun W=>by kernel_rfl⟩
theorem VW{s:H6}(h:∀j,j<16→∀p,(H5 s)[j]?=some p→QD p=true):Gd s=true:=by
 unfold Gd;rw[cF];intro p hp;obtain⟨j,hj⟩:=List.mem_iff_getElem?.1 hp;exact h j ((bO.1 hj).1) p hj
theorem WY{s:H6}{k:Nat}{p:Int×Int×Int}(h:(H5 s)[k]?=some p)(hn:QD p=false):Gd s=false:=by
 unfold Gd;rw[List.all_eq_false];exact⟨p,bB h,by rw[hn];simp⟩
set_option maxRecDepth 100000 in
theorem Qo(s:H6)(w:World):Calls aA 27 #[.agg (DN s)] w fun e w'=>e=.returned (.bool (Gd s))∧Below w.heap.size w w':=by
 have BW:Hid (∀n a b W,Calls aA 50 #[.int .i64 n,.int .i64 a,.int .i64 b] W fun e w'=>e=.returned (.bool (OQ n a b))∧Below W.heap.size W w'):=fun n a b W=>TK n a b W;have HALL:Hid ((∀j,j<16→∀p,(H5 s)[j]?=some p→QD p=true)→Gd s=true):=VW;have HNOT:Hid (∀(k:Nat) p,(H5 s)[k]?=some p→QD p=false→Gd s=false):=fun k p h hn=>WY h hn;have HIX:Hid (∀k:Nat,k<16→∃x a b,(H5 s)[k]?=some (x,a,b)∧∀W,(Instr.index 108 (.agg (bdA s)) (.int .i64 (k:Int))).run aA W=.ok (.agg #[.int .i64 x,.int .i64 a,.int .i64 b]) W):=Aae s;obtain⟨RES,hRES⟩:∃R,R=Gd s:=⟨_,rfl⟩;rw[←hRES] at HALL HNOT ⊢;clear hRES;obtain⟨c0,c1,c2,c3,c4,c5,c6,c7,c8,c9,c10,c11,c12,c13,c14,c15,c16⟩:=Yp (Ae8 s w 50);have B0:Hid (Below w.heap.size w (w.alloc (.cells (DN s) 50))):=(aG _ _).alloc (aD _) _;go_enter Tryz.func27,Tryz.ntmps27;go_wp2_with fail;clear c0 c1 c2 c3 c4 c5 c6 c7 c8 c9 c10 c11 c12 c13 c14 c15 c16;obtain⟨A,hA⟩:∃A,A=bdA s:=⟨_,rfl⟩;rw[←hA] at HIX;unfold bdA at hA;rw[←hA];clear hA;go_loopw [69] (fun vi wr=> ∃k:Nat,k≤16∧vi=.int .i64 (k:Int)∧Hid (∀j,j<k→∀p,(H5 s)[j]?=some p→QD p=true)∧Hid (Below w.heap.size w wr)) (fun vi _=>16-(intOf vi).toNat)
 case atStart=>exact⟨0,by omega,rfl,(fun j hj=>by omega),B0⟩
 case round=>
  clear B0;obtain⟨k,hk,rfl,HK,HB⟩:=hrel;by_cases hlt:k<16
  ·have hlt':(k:Int)<16:=by omega
   obtain⟨x,a,b,hp,hix⟩:=HIX.out k hlt;have HP:Hid ((H5 s)[k]?=some (x,a,b)):=hp;clear hp;have BA:Hid (Below w.heap.size w (wr.alloc (.cells #[.int .i64 x,.int .i64 a,.int .i64 b] 107))):=HB.out.alloc HB.out.size _;go_wp2_with fail;refine(BW.out _ _ _ _).mono ?_;rintro e w2 ⟨rfl,hb2⟩;have B2:Hid (Below w.heap.size w w2):=BA.out.trans (hb2.mono BA.out.size);clear hb2 BA
   cases hin:OQ x a b with
   | true=>
    have HN:Hid (∀j,j<k+1→∀p,(H5 s)[j]?=some p→QD p=true):=fun j hj p hp=>by
     by_cases hjk:j=k
     ·subst hjk;rw[HP.out] at hp
      cases hp
      exact hin
     ·exact HK.out j (by omega) p hp
    clear hin;go_wp2_with fail;go_roundw
    case rel=>exact⟨k+1,by omega,by go_num,HN,B2⟩
    case measure=>simp[intOf];omega
   | false=>
    have HR:Hid (RES=false):=HNOT.out k _ HP.out hin;clear hin;go_wp2_with fail;go_ret;exact⟨by rw[HR.out];rfl,B2.out⟩
  ·have hlt':¬(k:Int)<16:=by omega
   obtain rfl:k=16:=by omega
   have HR:Hid (RES=true):=HALL.out HK.out;go_wp2_with fail;go_ret;exact⟨by rw[HR.out];rfl,HB.out⟩
end
section
open Go.RowKit
def Us(c a p i h:Int):Prop:=(0≤c∧c≤2048)∧(0≤a∧a≤2048)∧(0≤p∧p≤2048)∧(0≤i∧i≤1099511627776)∧(0≤h∧h≤1099511627776)
def JF(c a p i h:Int):Rm:=⟨c.toNat,a.toNat,p.toNat,i,h⟩
def PC(x1 x2 x3 i h:Int):Array Value:=#[.int .i64 0,.int .i64 x1,.int .i64 x2,.int .i64 x3,.slice none 0 0,.slice none 0 0,.slice none 0 0,.slice none 0 0,.int .i64 i,.int .i64 h]
theorem Acc{w:World}{c a p i h:Int}(hr:Us c a p i h){w':World}(g:Nat)(hg:w.heap.size≤g)(hc:w'.heap[g]?=some (.cells (PC c a p i h) 102 (0,0))):BH w.heap.size w' g (JF c a p i h) ⟨[],[],[]⟩ (.slice none 0 0) (.slice none 0 0) (.slice none 0 0):=by
 obtain⟨h1,h2,h3,_,_⟩:=hr;refine⟨?_,Am.nil _ _,Am.nil _ _,Am.nil _ _,.inl rfl,.inl rfl,.inl rfl,hg⟩;unfold LY JF;simp only[bK h1.1,bK h2.1,bK h3.1];exact hc
theorem Nt{x1 x2 x3 i h z:Int}(j:Nat)(hj:j=1∨j=2∨j=3):(PC x1 x2 x3 i h).setIfInBounds j (.int .i64 z)=PC (if j=1 then z else x1) (if j=2 then z else x2) (if j=3 then z else x3) i h:=by
 rcases hj with rfl | rfl | rfl <;> rfl
theorem L3{o:Oper}{x y:Operand}(ho:o.op=.store 3 x y)(a:Act)(W:World)(ad:Addr)(z old:Int)(hx:a.eval x=.pointer (some ad))(hy:a.eval y=.int .i64 z)(hc:W.cell? ad=some (.int .i64 old))(hf:W.frozen? ad=false):(execOp a.eval o).run aA W=.ok .skip (W.setCell ad (.int .i64 z)):=by
 have hz:∀w,(sizeOf 3).run aA w=.ok 1 w:=fun w=>by kernel_rfl
 unfold execOp;simp only[ho,hx,hy];simp[go_sem,hz,hc,hf,storeVar,storeCells,Instr.storeAt,Instr.sureAddr]
theorem Acb(c a p i h:Int)(hr:Us c a p i h)(w:World):
  Calls aA 28 #[.int .i64 c,.int .i64 a,.int .i64 p,.int .i64 i,.int .i64 h] w fun e w'=>(∃g,e=.returned (.tuple #[.pointer (some ⟨g,0,none⟩),.int .i64 0])∧BH w.heap.size w' g (JF c a p i h) ⟨[],[],[]⟩ (.slice none 0 0) (.slice none 0 0) (.slice none 0 0))∧Below w.heap.size w w':=by
 have WI:Hid (∀n top W,0≤n∧n≤top→Calls aA 47 #[.int .i64 n,.int .i64 top] W fun e w'=>e=.returned (.bool true)∧w'=W):=by
  intro n top W hn;have h9:=Ru n top W;rw[decide_eq_true hn] at h9;exact h9
 have HR:Hid (Us c a p i h):=hr;have FI:Hid (∀w',w'.heap[w.heap.size]?=some (.cells (PC c a p i h) 102 (0,0))→BH w.heap.size w' w.heap.size (JF c a p i h) ⟨[],[],[]⟩ (.slice none 0 0) (.slice none 0 0) (.slice none 0 0)):=fun w' h9=>Acc hr _ (aD _) h9;clear hr;go_enter Tryz.func28,Tryz.ntmps28;go_wp2_with (go_at_call 47;refine(WI.out _ _ _ (by first | exact HR.out.1 | exact HR.out.2.1 | exact HR.out.2.2.1 | exact HR.out.2.2.2.1 | exact HR.out.2.2.2.2)).mono ?_;rintro r w2 ⟨rfl,hw2⟩;rw[hw2];clear hw2);obtain⟨w5,hw5⟩:∃w5,w5=w.alloc (.cells #[.int .i64 0,.int .i64 0,.int .i64 0,.int .i64 0,.slice none 0 0,.slice none 0 0,.slice none 0 0,.slice none 0 0,.int .i64 i,.int .i64 h] 102):=⟨_,rfl⟩;have H0:w5.heap[w.heap.size]?=some (.cells (PC 0 0 0 i h) 102 (0,0)):=by rw[hw5];exact Ac _ _ _ rfl
 have BW:Hid (Below w.heap.size w w5):=by show Below _ _ _;rw[hw5];exact(aG _ _).alloc (aD _) _
 rw[←hw5];clear hw5;refine M6 ?_;refine BJ (fun _=>True) 18 rfl (by kernel_rfl) ?_;refine rE 0 6 12 trivial ?_;simp only[aO,aQ,bA]
 iterate 6 (go_big_quiet_step (rfl))
 refine wpQuiet_nil ?_;refine Gy (i:=6) (some 46) rfl rfl _ rfl _ rfl rfl (by kernel_rfl) (by kernel_rfl) (by kernel_rfl) trivial ?_;simp only[Act.put,aI,aT,aV];refine rE 7 2 9 trivial ?_;simp only[aN,aO,aQ,bA];go_big_quiet_step (rfl);go_big_quiet_step (rfl);refine wpQuiet_nil ?_;refine Gy (i:=10) (some 49) rfl rfl _ rfl _ rfl rfl (by kernel_rfl) (by kernel_rfl) (by kernel_rfl) trivial ?_;simp only[Act.put,aI,aT,aV];refine rE 11 1 7 trivial ?_;simp only[aN,aO,aQ,bA];go_big_quiet_step (rfl);refine wpQuiet_nil ?_;refine Gy (i:=14) (some 52) rfl rfl _ rfl _ rfl rfl (by kernel_rfl) (by kernel_rfl) (by kernel_rfl) trivial ?_;simp only[Act.put,aI,aT,aV];refine rE 15 1 5 trivial ?_;simp only[aN,aO,aQ,bA];go_big_quiet_step (rfl);refine wpQuiet_nil ?_
 have H0':w5.drew.heap[w.heap.size]?=some (.cells (PC 0 0 0 i h) 102 (0,0)):=H0;refine rO 9 ?_;refine EP rfl rfl (L3 rfl _ _ ⟨w.heap.size,1,none⟩ c 0 rfl rfl (by rw[cell_of_row _ _ _ _ _ _ H0'];rfl) (by simp[bX,H0'])) rfl ?_;refine⟨trivial,?_⟩;have H1:=heap_setCell_same _ w.heap.size 1 _ _ (.int .i64 c) H0';rw[Nt 1 (.inl rfl)] at H1;refine rE 12 1 3 trivial ?_;simp only[aN,aO,aQ,bA];go_big_quiet_step (rfl);refine wpQuiet_nil ?_;refine rO 13 ?_;refine EP rfl rfl (L3 rfl _ _ ⟨w.heap.size,2,none⟩ a 0 rfl rfl (by rw[cell_of_row _ _ _ _ _ _ H1];rfl) (by simp[bX,H1])) rfl ?_;refine⟨trivial,?_⟩;have H2:=heap_setCell_same _ w.heap.size 2 _ _ (.int .i64 a) H1;rw[Nt 2 (.inr (.inl rfl))] at H2;refine rE 16 1 1 trivial ?_;simp only[aN,aO,aQ,bA];go_big_quiet_step (rfl);refine wpQuiet_nil ?_
 refine rO 17 ?_;refine EP rfl rfl (L3 rfl _ _ ⟨w.heap.size,3,none⟩ p 0 rfl rfl (by rw[cell_of_row _ _ _ _ _ _ H2];rfl) (by simp[bX,H2])) rfl ?_;refine⟨trivial,?_⟩;have H3:=heap_setCell_same _ w.heap.size 3 _ _ (.int .i64 p) H2;rw[Nt 3 (.inr (.inr rfl))] at H3;refine wpAnyH_done (by kernel_rfl) ?_ _;refine⟨rfl,?_⟩;have HH3:Hid _:=H3;clear H0 H0' H1 H2 H3;go_wp2_with fail;go_ret2;refine⟨⟨_,rfl,FI.out _ HH3.out⟩,?_⟩;exact((BW.out.drew.setCell (aD _) _).setCell (aD _) _).setCell (aD _) _
def PW(s:H6)(num inc:Int):Prop:=Gd s=true∧1≤num∧num≤s.sw∧1≤inc∧inc≤281474976710655
theorem Qn{s:H6}(h:Gd s=true):Us s.ca s.ro s.pa s.idl s.hd∧VZ s.wa s.tr s.ti∧1≤s.be:=by
 unfold Gd at h;rw[cF] at h
 have key:∀x a b,(x,a,b)∈H5 s→a≤x∧x≤b:=fun x a b hm=>by
  have:=h _ hm;unfold QD OQ at this;rw[Bool.and_eq_true,decide_eq_true_eq,decide_eq_true_eq] at this;exact⟨this.1,this.2⟩
 have k1:=key s.ca 0 2048 (by unfold H5;simp);have k2:=key s.ro 2 2048 (by unfold H5;simp);have k3:=key s.pa 2 64 (by unfold H5;simp);have k4:=key s.idl 0 1000 (by unfold H5;simp);have k5:=key s.hd 0 1000 (by unfold H5;simp);have k6:=key s.wa 1 64 (by unfold H5;simp);have k7:=key s.tr 1 8 (by unfold H5;simp);have k8:=key s.ti 2 100 (by unfold H5;simp);have k9:=key s.be 1 20 (by unfold H5;simp);unfold Us VZ;omega
theorem Agg(s:H6)(num inc:Int)(h:¬PW s num inc)(w:World):
  Calls aA 11 #[.int .i64 num,.int .i64 inc,.agg (DN s)] w fun e w'=>e=.returned (.tuple #[.pointer none,.int .i64 1])∧Below w.heap.size w w':=by
 obtain⟨w0,hw0⟩:=eX (w.alloc (.cells (DN s) 50));have Z0:Hid (w0.heap[w.heap.size]?=some (.cells (DN s) 50 (0,0))):=by show _=_;rw[hw0];exact Ac _ _ _ rfl
 have B0:Hid (Below w.heap.size w w0):=by show Below _ _ _;rw[hw0];exact(aG _ _).alloc (aD _) _
 have CR:=Qo s w0;have HSW:Hid (∀W,Below w0.heap.size w0 W→W.cell? ⟨w.heap.size,0,none⟩=some (.int .i64 s.sw)):=fun W hW=>by rw[cell_of_row W _ 0 _ _ _ ((hW.block _ (gS Z0.out)).trans Z0.out)];rfl
 have hw0':=hw0.symm;clear hw0;unfold PW at h
 cases hr:Gd s with
 | false=>
  rw[hr] at CR;clear hr h;go_enter bN,bJ
  go_wp2_with (first
   | ((with_reducible refine Bf 50 _ rfl ?_);refine Bc LG rfl _ rfl w.heap.size 0 rfl _ _ _ (DN s) rfl Z0.out (AA _ _) ?_)
   | (go_at_call 27;refine CR.mono ?_;rintro e w1 ⟨rfl,hb1⟩;have B1:Hid _:=hb1;have s0:=HSW.out w1 hb1;clear hb1 CR hw0';refine Aw ?_))
  unfold AZ;go_wp2_with fail;go_ret2;exact⟨rfl,B0.out.trans (B1.out.mono B0.out.size)⟩
 | true=>
  rw[hr] at CR h;clear hr;obtain⟨sw,hsw⟩:∃sw,sw=s.sw:=⟨_,rfl⟩;rw[←hsw] at h HSW;clear hsw;by_cases h1:num<1
  ·clear h;go_enter bN,bJ
   go_wp2_with (first
    | ((with_reducible refine Bf 50 _ rfl ?_);refine Bc LG rfl _ rfl w.heap.size 0 rfl _ _ _ (DN s) rfl Z0.out (AA _ _) ?_)
    | (go_at_call 27;refine CR.mono ?_;rintro e w1 ⟨rfl,hb1⟩;have B1:Hid _:=hb1;have s0:=HSW.out w1 hb1;clear hb1 CR hw0';refine Aw ?_))
   unfold AZ;go_wp2_with fail;go_ret2;exact⟨rfl,B0.out.trans (B1.out.mono B0.out.size)⟩
  ·by_cases h2:num>sw
   ·clear h;go_enter bN,bJ
    go_wp2_with (first
     | ((with_reducible refine Bf 50 _ rfl ?_);refine Bc LG rfl _ rfl w.heap.size 0 rfl _ _ _ (DN s) rfl Z0.out (AA _ _) ?_)
     | (go_at_call 27;refine CR.mono ?_;rintro e w1 ⟨rfl,hb1⟩;have B1:Hid _:=hb1;have s0:=HSW.out w1 hb1;clear hb1 CR hw0';refine Aw ?_))
    unfold AZ;go_wp2_with fail;go_ret2;exact⟨rfl,B0.out.trans (B1.out.mono B0.out.size)⟩
   ·by_cases h3:inc<1
    focus
     clear h
    rotate_left
    focus
     have h4:inc>281474976710655:=Int.not_le.1 fun h5=>h ⟨by trivial,by omega,by omega,by omega,h5⟩;clear h
    all_goals
     go_enter bN,bJ
     go_wp2_with (first
      | ((with_reducible refine Bf 50 _ rfl ?_);refine Bc LG rfl _ rfl w.heap.size 0 rfl _ _ _ (DN s) rfl Z0.out (AA _ _) ?_)
      | (go_at_call 27;refine CR.mono ?_;rintro e w1 ⟨rfl,hb1⟩;have B1:Hid _:=hb1;have s0:=HSW.out w1 hb1;clear hb1 CR hw0';refine Aw ?_))
     unfold AZ;go_wp2_with fail;go_ret2;exact⟨rfl,B0.out.trans (B1.out.mono B0.out.size)⟩
theorem Ux{ops:Array Oper}{Q:Exit→Act→World→Prop}{i:Nat}{o:Oper}{K:Act→World→Prop}{a:Act}{w:World}(hi:ops[i]?=some o)(hgd:o.guard=none)(t:TypeId)(x:Operand)(ho:o.op=.box t x)
  (cs:Array Value) (hx:a.eval x=.agg cs) (d:Option Tmp) (hd:o.dst=d) (hK:K (a.put d (.pointer (some ⟨w.heap.size,0,none⟩))) (w.alloc (.cells cs t))):wpOp aA ops Q i K a w:=by
 subst hd;refine Dt hi (wpList_plain hgd fun _ hK'=> ?_);unfold Oper.wp execOp;simp only[ho,hx];simp[go_sem,Value.cells];exact hK' _ _ hK
theorem Afg{w w':World}{gh:Nat}{inc:Int}(h:Et w gh ⟨inc,0,0,0,0,0,0,0,0⟩)(hb:Below w.heap.size w w'):Er w' gh (Li inc):=by
 have h0:Er w gh (Li inc):=⟨_,h,Acg inc⟩;exact h0.below hb
structure Rk(p:Nat)(s:H6) where
 world:World
 x:world.heap[p]?=some (.cells (DN s) 50 (0,0))
abbrev Rn(p:Nat)(s:H6)(w:World):Prop:=∃z:Rk p s,w=z.world
theorem Aa4(a b c:Int)(gt gh gw:Nat)(W:World):(Instr.build 63 #[(0,.int .i64 a),(1,.int .i64 b),(2,.int .i64 c),(4,.pointer (some ⟨gt,0,none⟩)),(5,.pointer (some ⟨gh,0,none⟩)),(6,.pointer (some ⟨gw,0,none⟩))]).run aA W=.ok (.agg #[.int .i64 a,.int .i64 b,.int .i64 c,.int .i64 0,.pointer (some ⟨gt,0,none⟩),.pointer (some ⟨gh,0,none⟩),.pointer (some ⟨gw,0,none⟩),.slice none 0 0,.slice none 0 0]) W:=by
 kernel_rfl
theorem W7(s:H6)(num inc:Int)(h:PW s num inc)(w:World):
  Calls aA 11 #[.int .i64 num,.int .i64 inc,.agg (DN s)] w fun e w'=>(∃g gt gh gw r,e=.returned (.tuple #[.pointer (some ⟨g,0,none⟩),.int .i64 0])∧BT w.heap.size w' g gt gh gw (JF s.ca s.ro s.pa s.idl s.hd) (U3 num inc s.le s.be s.ca (⟨[],[],[]⟩:Ay) ⟨s.wa,s.tr,s.ti,[],0⟩) r)∧Below w.heap.size w w':=by
 obtain⟨w0,hw0⟩:∃w0,w0=w.alloc (.cells (DN s) 50):=⟨_,rfl⟩;have Z0:Hid (w0.heap[w.heap.size]?=some (.cells (DN s) 50 (0,0))):=by show _=_;rw[hw0];exact Ac _ _ _ rfl
 have B0:Hid (Below w.heap.size w w0):=by show Below _ _ _;rw[hw0];exact(aG _ _).alloc (aD _) _
 have CR:=Qo s w0;have HSW:Hid (∀W,Below w0.heap.size w0 W→W.cell? ⟨w.heap.size,0,none⟩=some (.int .i64 s.sw)):=fun W hW=>by rw[cell_of_row W _ 0 _ _ _ ((hW.block _ (aJ.1 Z0.out).1).trans Z0.out)];rfl
 have hw0':=hw0.symm;clear hw0;obtain⟨hr,h1,h2,h3,h4⟩:=h;obtain⟨r1,r2,r3⟩:=Qn hr;rw[hr] at CR;have CT:∀W,Calls aA 28 #[.int .i64 s.ca,.int .i64 s.ro,.int .i64 s.pa,.int .i64 s.idl,.int .i64 s.hd] W _:=fun W=>Acb s.ca s.ro s.pa s.idl s.hd r1 W;have HCT:Hid (∀W,Calls aA 28 #[.int .i64 s.ca,.int .i64 s.ro,.int .i64 s.pa,.int .i64 s.idl,.int .i64 s.hd] W fun e w'=>(∃g,e=.returned (.tuple #[.pointer (some ⟨g,0,none⟩),.int .i64 0])∧BH W.heap.size w' g (JF s.ca s.ro s.pa s.idl s.hd) ⟨[],[],[]⟩ (.slice none 0 0) (.slice none 0 0) (.slice none 0 0))∧Below W.heap.size W w'):=CT;have HCW:Hid (∀W,Calls aA 29 #[.int .i64 s.wa,.int .i64 s.tr,.int .i64 s.ti] W fun e w'=>e=.returned (.tuple #[.pointer (some ⟨W.heap.size,0,none⟩),.int .i64 0])∧Dq W.heap.size w' W.heap.size ⟨s.wa,s.tr,s.ti,[],0⟩ (.slice none 0 0)∧Below W.heap.size W w'):=fun W=>W0 s.wa s.tr s.ti r2 W;have HCELL:Hid (∀W:World,W.heap[w.heap.size]?=some (.cells (DN s) 50 (0,0))→∀(j:Nat) (v:Value),(DN s)[j]?=some v→W.cell? ⟨w.heap.size,j,none⟩=some v):=fun W hW j v hj=>by rw[cell_of_row W _ j _ _ _ hW];exact hj
 clear CT hr r1 r2 r3;have g1:¬num<1:=by omega
 obtain⟨sw,hsw⟩:∃sw,sw=s.sw:=⟨_,rfl⟩;rw[←hsw] at h2 HSW;clear hsw;have g2:¬num>sw:=by omega
 have g3:¬inc<1:=by omega
 have g4:¬inc>281474976710655:=by omega
 clear h1 h2 h3 h4;go_enter bN,bJ
 go_wp2_with (first
  | ((with_reducible refine Bf 50 _ rfl ?_);refine Bc LG rfl _ rfl w.heap.size 0 rfl _ _ _ (DN s) rfl Z0.out (AA _ _) ?_)
  | (go_at_call 27;refine CR.mono ?_;rintro e w1 ⟨rfl,hb1⟩;have B1:Hid (Below w0.heap.size w0 w1):=hb1;have s0:=HSW.out w1 hb1;clear hb1 CR hw0';refine Aw ?_))
 unfold AZ;obtain⟨sca,q1⟩:∃x,x=s.ca:=⟨_,rfl⟩;obtain⟨sro,q2⟩:∃x,x=s.ro:=⟨_,rfl⟩;obtain⟨spa,q3⟩:∃x,x=s.pa:=⟨_,rfl⟩;obtain⟨sid,q4⟩:∃x,x=s.idl:=⟨_,rfl⟩;obtain⟨shd,q5⟩:∃x,x=s.hd:=⟨_,rfl⟩;obtain⟨swa,q6⟩:∃x,x=s.wa:=⟨_,rfl⟩;obtain⟨str,q7⟩:∃x,x=s.tr:=⟨_,rfl⟩;obtain⟨sti,q8⟩:∃x,x=s.ti:=⟨_,rfl⟩;obtain⟨sle,q9⟩:∃x,x=s.le:=⟨_,rfl⟩;obtain⟨sbe,q10⟩:∃x,x=s.be:=⟨_,rfl⟩;have HQ:Hid (sca=s.ca∧sro=s.ro∧spa=s.pa∧sid=s.idl∧shd=s.hd∧swa=s.wa∧str=s.tr∧sti=s.ti∧sle=s.le∧sbe=s.be):=⟨q1,q2,q3,q4,q5,q6,q7,q8,q9,q10⟩;rw[←q1, ←q2, ←q3, ←q4, ←q5] at HCT;rw[←q6, ←q7, ←q8] at HCW;have HL:Hid ((DN s)[2]?=some (.int .i64 sca)∧(DN s)[3]?=some (.int .i64 sro)∧(DN s)[4]?=some (.int .i64 spa)∧(DN s)[5]?=some (.int .i64 sid)∧(DN s)[6]?=some (.int .i64 shd)∧(DN s)[11]?=some (.int .i64 swa)∧(DN s)[12]?=some (.int .i64 str)∧(DN s)[13]?=some (.int .i64 sti)∧(DN s)[15]?=some (.int .i64 sle)∧(DN s)[14]?=some (.int .i64 sbe)):=by rw[q1,q2,q3,q4,q5,q6,q7,q8,q9,q10];exact⟨rfl,rfl,rfl,rfl,rfl,rfl,rfl,rfl,rfl,rfl⟩
 clear q1 q2 q3 q4 q5 q6 q7 q8 q9 q10;have Z1:Hid (w1.heap[w.heap.size]?=some (.cells (DN s) 50 (0,0))):=(B1.out.block _ (aJ.1 Z0.out).1).trans Z0.out;have k2:=HCELL.out w1 Z1.out 2 (.int .i64 sca) HL.out.1;have k3:=HCELL.out w1 Z1.out 3 (.int .i64 sro) HL.out.2.1;have k4:=HCELL.out w1 Z1.out 4 (.int .i64 spa) HL.out.2.2.1;have k5:=HCELL.out w1 Z1.out 5 (.int .i64 sid) HL.out.2.2.2.1;have k6:=HCELL.out w1 Z1.out 6 (.int .i64 shd) HL.out.2.2.2.2.1;have CT1:=HCT.out w1;go_wp2_with (go_at_call 28;refine CT1.mono ?_;rintro e w2 ⟨⟨gt,rfl,ht2⟩,hb2⟩;have T2:Hid _:=ht2;have B2:Hid (Below w1.heap.size w1 w2):=hb2;clear ht2 hb2 CT1 k2 k3 k4 k5 k6;refine Aw ?_);unfold AZ;have Z2:Hid (w2.heap[w.heap.size]?=some (.cells (DN s) 50 (0,0))):=(B2.out.block _ (aJ.1 Z1.out).1).trans Z1.out;have k11:=HCELL.out w2 Z2.out 11 (.int .i64 swa) HL.out.2.2.2.2.2.1;have k12:=HCELL.out w2 Z2.out 12 (.int .i64 str) HL.out.2.2.2.2.2.2.1;have k13:=HCELL.out w2 Z2.out 13 (.int .i64 sti) HL.out.2.2.2.2.2.2.2.1;have CW1:=HCW.out w2;obtain⟨gw,hgw⟩:∃gw,gw=w2.heap.size:=⟨_,rfl⟩;rw[←hgw] at CW1;have HGW:Hid (gw=w2.heap.size):=hgw;clear hgw s0;go_wp2_with (go_at_call 29;refine CW1.mono ?_;rintro e w3 ⟨rfl,hv3,hb3⟩;have V3:Hid _:=hv3;have B3:Hid (Below gw w2 w3):=hb3;clear hv3 hb3 CW1 k11 k12 k13;refine Aw ?_);unfold AZ
 have Z3:Hid ((aR w3).heap[w.heap.size]?=some (.cells (DN s) 50 (0,0))):=(B3.out.block _ (by rw[HGW.out];exact(aJ.1 Z2.out).1)).trans Z2.out;have e15:∀z:Rk w.heap.size s,z.world.cell? ⟨w.heap.size,15,none⟩=some (.int .i64 sle):=fun z=>HCELL.out z.world z.x 15 _ HL.out.2.2.2.2.2.2.2.2.1;have e14:∀z:Rk w.heap.size s,z.world.cell? ⟨w.heap.size,14,none⟩=some (.int .i64 sbe):=fun z=>HCELL.out z.world z.x 14 _ HL.out.2.2.2.2.2.2.2.2.2;have HS0:Hid (Rn w.heap.size s (aR w3)):=⟨⟨_,Z3.out⟩,rfl⟩;have ne9:Nonempty (Rk w.heap.size s):=⟨⟨_,Z3.out⟩⟩;go_wp2_with fail;refine Em ?_;refine BJ (Rn w.heap.size s) 13 rfl (by kernel_rfl) ?_;refine AV [0,1,3,5,6,8,2,4] 8 5 rfl (by kernel_rfl) (by decide) (by kernel_rfl) (by kernel_rfl) (by intro d v c a w h;exact absurd h.1 (by simp)) HS0.out ?_;simp only[Df,bY,List.map_nil,aN,aO,cI]
 iterate 8 (go_big_quiet_step (fail))
 refine wpQuiet_nil ?_;refine Bb 7 (by kernel_rfl) ?_;refine Bp rfl rfl 30 #[.tmp 63] (by intro b w;have hf:=Tryz.func30;simp[go_sem]) #[.int .i64 inc] rfl (fun v w'=>v=.pointer (some ⟨(aR w3).heap.size,0,none⟩)∧Et w' (aR w3).heap.size ⟨inc,0,0,0,0,0,0,0,0⟩∧Below (aR w3).heap.size (aR w3) w') ((W6 (aR w3) inc).mono fun e w' h=>⟨_,h.1,rfl,h.2⟩) (some 64) rfl ?_;rintro v w4 ⟨rfl,hv4,hb4⟩;have HV4:Hid _:=hv4;have B4:Hid (Below (aR w3).heap.size (aR w3) w4):=hb4;clear hv4 hb4;obtain⟨gh,hgh⟩:∃gh,gh=(aR w3).heap.size:=⟨_,rfl⟩;have HGH:Hid (gh=(aR w3).heap.size):=hgh;rw[←hgh];clear hgh;have I4:Hid (Rn w.heap.size s w4):=⟨⟨w4,(B4.out.block _ (aJ.1 Z3.out).1).trans Z3.out⟩,rfl⟩;refine⟨I4.out,?_⟩;simp only[Act.put,aI,aT,aV];refine Bb 9 (by kernel_rfl) ?_;refine Jf rfl rfl _ _ rfl #[(0,.int .i64 num),(1,.int .i64 sle),(2,.int .i64 sbe),(4,.pointer (some ⟨gt,0,none⟩)),(5,.pointer (some ⟨gh,0,none⟩)),(6,.pointer (some ⟨gw,0,none⟩))] rfl _ (Aa4 num sle sbe gt gh gw _) (some 66) rfl ?_;refine⟨I4.out,?_⟩;simp only[Act.put,aI,aT,aV];refine Bb 10 (by kernel_rfl) ?_;obtain⟨g,hg⟩:∃g,g=w4.heap.size:=⟨_,rfl⟩
 refine Ux rfl rfl 63 _ rfl #[.int .i64 num,.int .i64 sle,.int .i64 sbe,.int .i64 0,.pointer (some ⟨gt,0,none⟩),.pointer (some ⟨gh,0,none⟩),.pointer (some ⟨gw,0,none⟩),.slice none 0 0,.slice none 0 0] rfl (some 67) rfl ?_;rw[←hg];obtain⟨w5,hw5⟩:∃w5,w5=w4.alloc (.cells #[.int .i64 num,.int .i64 sle,.int .i64 sbe,.int .i64 0,.pointer (some ⟨gt,0,none⟩),.pointer (some ⟨gh,0,none⟩),.pointer (some ⟨gw,0,none⟩),.slice none 0 0,.slice none 0 0] 63):=⟨_,rfl⟩;rw[←hw5];have HG:Hid (g=w4.heap.size):=hg;have HW5:Hid (w5=w4.alloc (.cells #[.int .i64 num,.int .i64 sle,.int .i64 sbe,.int .i64 0,.pointer (some ⟨gt,0,none⟩),.pointer (some ⟨gh,0,none⟩),.pointer (some ⟨gw,0,none⟩),.slice none 0 0,.slice none 0 0] 63)):=hw5;clear hg hw5;have I5:Hid (Rn w.heap.size s w5):=⟨⟨w5,by rw[HW5.out];exact Af _ _ _ _ ((B4.out.block _ (aJ.1 Z3.out).1).trans Z3.out)⟩,rfl⟩;refine⟨I5.out,?_⟩;simp only[Act.put,aI,aT,aV];refine AV [11,12] 2 0 rfl (by kernel_rfl) (by decide) (by kernel_rfl) (by kernel_rfl) (by intro d v c a w h;exact absurd h.1 (by simp)) I5.out ?_;simp only[Df,bY,List.map_nil,aN,aO,cI];go_big_quiet_step (fail);go_big_quiet_step (fail);refine wpQuiet_nil ?_;refine wpAnyH_done (by kernel_rfl) ?_ _;refine⟨rfl,?_⟩
 go_wp2_with fail;go_ret2;obtain⟨a1,a2,a3,a4,a5,a6,a7,a8,a9,a10⟩:=HQ.out;rw[←a1, ←a2, ←a3, ←a4, ←a5, ←a6, ←a7, ←a8, ←a9, ←a10];have z1:=B0.out.trans (B1.out.mono B0.out.size);have z2:=z1.trans (B2.out.mono z1.size);have hg2:=HGW.out;have z3:=z2.trans (B3.out.mono (by rw[hg2];exact z2.size));have z4:Below w.heap.size w w4:=z3.drew.trans (B4.out.mono z3.drew.size);have z5:Below w.heap.size w w5:=by rw[HW5.out];exact z4.alloc z4.size _
 have y3:Below w2.heap.size w2 w3:=by rw[←hg2];exact B3.out
 have x5:Below w4.heap.size w4 w5:=by rw[HW5.out];exact(aG _ _).alloc (aD _) _
 have x4:Below w3.heap.size w3 w5:=((aG _ _).drew.trans B4.out).trans (x5.mono B4.out.size);have x3:=y3.trans (x4.mono y3.size);have t5:=T2.out.below x3;have v5:=V3.out.below x4;exact⟨⟨g,gt,gh,gw,⟨.slice none 0 0,.slice none 0 0,.slice none 0 0,.slice none 0 0,.slice none 0 0,.slice none 0 0⟩,rfl,⟨by rw[HW5.out];exact Ac _ _ _ HG.out,⟨t5.blk,t5.o1.base z1.size,t5.o2.base z1.size,t5.o3.base z1.size,t5.a12,t5.a13,t5.a23,cA z1.size t5.hB⟩,Afg (w:=w4) (by rw[HGH.out];exact HV4.out) x5,⟨v5.blk,v5.own.base (by rw[hg2];exact z2.size),cA (by rw[hg2];exact z2.size) v5.hB⟩,DT.nil _ _ _,BZ.nil _ _,by rw[HG.out];exact z4.size,by rw[HGH.out];exact z3.size⟩⟩,z5⟩
theorem QC{R:Rm}{N:Nat}{n:Ap Ay}(h:AQ N R n)(index:Int){hd:List Int}(hH:Ax hd)(now:Int):AQ (N+4) R (GT (Ar R) n index hd now):=by
 have h1:=Uf h now n.hold.use hd;unfold GT;split
 ·split
  ·rename_i t s e;rw[e] at h1;split
   ·obtain⟨q1,q2,q3⟩:=Xz h1 index hH now;split;rename_i w sq er he;have he':EY (Bm n t).wait index hd now=(w,sq,er):=he;rw[he'] at q1 q2 q3;have h2:AQ (N+2) R (IY (Bm n t) w):=PG h1 q1 q2 q3;split
    ·unfold Eb;split
     ·exact h2.le (by omega)
     ·exact EI (KS h2 _ _) _
    ·exact(EI h1 _).le (by omega)
   ·exact(EI h1 _).le (by omega)
  ·rename_i t s e;rw[e] at h1;exact(EI h1 _).le (by omega)
 ·exact(EI h _).le (by omega)
end
section
open Go.ChangeAt Go.ChangeShapes Go.RowKit Go.WideElems Go.WideMaps Go.WideShapes
theorem own:ownKnob aA.godebug=none:=by kernel_rfl
theorem LB{H:Type}{enc:TypeId×Value→H}{W:World}{base:Nat}{spare:Nat→Bool}{held:Bool}{fuel:Nat}{cs:List Value}{x:DataW H×List MemPlace}(hl:cs.length=13)
  (h:aW enc aA W base spare held fuel 23 cs=some x):∃L:List Int,cs=L.map (Value.int .u8)∧Ax L:=by
 have c5:aA.cellsOf 5=1:=by kernel_rfl
 obtain⟨xs,m,rfl,hx,hlen,hn,hel⟩:=DataW.trod_array Tryz.underlying23 h
 have each:∀i,i<13→∃z:Int,cs[i]?=some (.int .u8 z)∧0≤z∧z<256:=fun i hi=>by
  have h1:=hel i hi;rw[bD (show i<xs.length by omega),c5,Nat.mul_one] at h1;obtain⟨z,ez,_,wz⟩:=cJ Tryz.underlying5 h1;refine⟨z,?_,?_⟩
  ·have:=congrArg (·[0]?) ez;simpa[List.getElem?_take,cB] using this
  ·have:=bounds_u8 wz;omega
 refine⟨cs.map intOf,?_,by simp[hl],fun k=> ?_⟩
 ·apply bF;intro k;rcases cC k 13 with hk | hk
  ·obtain⟨z,hz,_⟩:=each k hk;simp only[bG,hz];rfl
  ·rw[aH (by omega),aH (by simpa[hl] using hk)]
 ·rcases cC k 13 with hk | hk
  ·obtain⟨z,hz,hb⟩:=each k hk;rw[cD,bG,hz];exact hb
  ·rw[cD,aH (by simpa[hl] using hk)];decide
theorem Oa{cs:List Value}{i:Nat}{v:Value}(h:(cs.drop i).take 1=[v]):cs[i]?=some v:=by
 have:=congrArg List.head? h;rw[List.head?_take,if_neg (by decide),List.head?_drop] at this;simpa using this
theorem Cb{P:Program}{H:Type}{enc:TypeId×Value→H}{W:World}{base:Nat}{spare:Nat→Bool}{held:Bool}{n:Nat}{t:TypeId}{cs:List Value}{y:Option (DataW H×List MemPlace)}{i:Nat}{k:IntKind}(ht:P.underlying t=some (.int k))(hc:P.cellsOf t=1)
  (h:aW enc P W base spare held n t ((cs.drop i).take (P.cellsOf t))=y) (hy:y.isSome=true):∃z:Int,cs[i]?=some (.int k z):=by
 obtain⟨y',rfl⟩:=aL.1 hy;obtain⟨z,h1,_,_⟩:=cJ ht h;rw[hc] at h1;exact⟨z,Oa h1⟩
theorem BU{α:Type}{xs:List α}{n i:Nat}(h:xs.length=n)(hi:i<n):(xs[i]?).isSome=true:=by
 rw[bD (by omega)];rfl
theorem XR{H:Type}{enc:TypeId×Value→H}{W:World}{base:Nat}{spare:Nat→Bool}{held:Bool}{fuel:Nat}{cs:List Value}{x:DataW H×List MemPlace}(hl:cs.length=26)
  (h:aW enc aA W base spare held fuel 25 cs=some x):∃V M:List Int,cs=(V++M).map (Value.int .u8)∧Ax V∧Ax M:=by
 have c13:aA.cellsOf 23=13:=by kernel_rfl
 obtain⟨y0,y1,k,hy,_,t0,t1⟩:=trod_struct2 Tryz.underlying25 h;rw[c13] at t0 t1;obtain⟨V,hV,bV⟩:=LB (by simp;omega) t0;obtain⟨M,hM,bM⟩:=LB (by simp;omega) t1;refine⟨V,M,?_,bV,bM⟩;rw[List.map_append, ←hV, ←hM];simp only[aO];rw[bT (l:=List.drop 13 cs) (by simp;omega),aP]
theorem Zb{H:Type}{enc:TypeId×Value→H}{W:World}{base:Nat}{spare:Nat→Bool}{held:Bool}{fuel:Nat}{cs:List Value}{x:DataW H×List MemPlace}(hl:cs.length=53)
  (h:aW enc aA W base spare held fuel 27 cs=some x):∃m:Aj,cs=KL m∧Bj m:=by
 have c3:aA.cellsOf 3=1:=by kernel_rfl
 have c26:aA.cellsOf 25=26:=by kernel_rfl
 have c13:aA.cellsOf 23=13:=by kernel_rfl
 obtain⟨xs,n,_,_,_,hxl,hf⟩:=cE Tryz.underlying27 h;obtain⟨n0,h0⟩:=Cb aC c3 (hf 0 _ rfl) (BU hxl (by decide));obtain⟨n1,h1⟩:=Cb aC c3 (hf 1 _ rfl) (BU hxl (by decide));obtain⟨n2,h2⟩:=Cb aC c3 (hf 2 _ rfl) (BU hxl (by decide));obtain⟨n3,h3⟩:=Cb aC c3 (hf 3 _ rfl) (BU hxl (by decide));obtain⟨n4,h4⟩:=Cb aC c3 (hf 4 _ rfl) (BU hxl (by decide));obtain⟨n5,h5⟩:=Cb aC c3 (hf 5 _ rfl) (BU hxl (by decide));obtain⟨n6,h6⟩:=Cb aC c3 (hf 6 _ rfl) (BU hxl (by decide));obtain⟨n7,h7⟩:=Cb aC c3 (hf 7 _ rfl) (BU hxl (by decide));obtain⟨n8,h8⟩:=Cb aC c3 (hf 8 _ rfl) (BU hxl (by decide));obtain⟨n9,h9⟩:=Cb aC c3 (hf 9 _ rfl) (BU hxl (by decide));obtain⟨n10,h10⟩:=Cb aC c3 (hf 10 _ rfl) (BU hxl (by decide));obtain⟨n11,h11⟩:=Cb aC c3 (hf 11 _ rfl) (BU hxl (by decide));obtain⟨n12,h12⟩:=Cb aC c3 (hf 12 _ rfl) (BU hxl (by decide));obtain⟨n13,h13⟩:=Cb aC c3 (hf 13 _ rfl) (BU hxl (by decide))
 have h14:aW enc aA W base spare held n 25 ((cs.drop 14).take (aA.cellsOf 25))=xs[14]?:=hf 14 _ rfl;obtain⟨y,hy⟩:=aL.1 (BU hxl (show 14<16 by decide));rw[hy,c26] at h14;obtain⟨V,M,hVM,bV,bM⟩:=XR (by simp;omega) h14;have h15:aW enc aA W base spare held n 23 ((cs.drop 40).take (aA.cellsOf 23))=xs[15]?:=hf 15 _ rfl;obtain⟨z,hz⟩:=aL.1 (BU hxl (show 15<16 by decide));rw[hz,c13] at h15;obtain⟨L,hL,bL⟩:=LB (by simp;omega) h15;refine⟨⟨n0,[n1,n2,n3,n4,n5,n6,n7,n8,n9,n10,n11,n12,n13],(V,M),L⟩,?_,rfl,bV,bM,bL⟩
 have e1:cs.take 14=[.int .i64 n0,.int .i64 n1,.int .i64 n2,.int .i64 n3,.int .i64 n4,.int .i64 n5,.int .i64 n6,.int .i64 n7,.int .i64 n8,.int .i64 n9,.int .i64 n10,.int .i64 n11,.int .i64 n12,.int .i64 n13]:=by
  apply bF;intro k;rcases(show k=0∨k=1∨k=2∨k=3∨k=4∨k=5∨k=6∨k=7∨k=8∨k=9∨k=10∨k=11∨k=12∨k=13∨14≤k by omega) with rfl | rfl | rfl | rfl | rfl | rfl | rfl | rfl | rfl | rfl | rfl | rfl | rfl | rfl | hk
  ·rw[aB (by decide)];exact h0
  ·rw[aB (by decide)];exact h1
  ·rw[aB (by decide)];exact h2
  ·rw[aB (by decide)];exact h3
  ·rw[aB (by decide)];exact h4
  ·rw[aB (by decide)];exact h5
  ·rw[aB (by decide)];exact h6
  ·rw[aB (by decide)];exact h7
  ·rw[aB (by decide)];exact h8
  ·rw[aB (by decide)];exact h9
  ·rw[aB (by decide)];exact h10
  ·rw[aB (by decide)];exact h11
  ·rw[aB (by decide)];exact h12
  ·rw[aB (by decide)];exact h13
  ·rw[aH (by rw[bQ];omega),aH (by simpa using hk)]
 have e2:cs=cs.take 14++((cs.drop 14).take 26++(cs.drop 40).take 13):=by
  rw[bT (l:=cs.drop 40) (by simp;omega)]
  conv=>lhs;rw[←aP 14 cs]
  congr 1
  conv=>lhs;rw[←aP 26 (cs.drop 14)]
  rw[bW]
 rw[e2,e1,hVM,hL];rfl
structure Gr where
 kind:Int
 index:Int
 src:Int
 now:Int
 head:List Int
 msg:Aj
 raw:List UInt8
 hh:Ax head
 hm:Bj msg
 hr:raw.length≤140737488351232
def J2(x:Gr):List Value:=.int .i64 x.kind:: .int .i64 x.index:: .int .i64 x.src:: .int .i64 x.now::(x.head.map (Value.int .u8)++(KL x.msg++[.string ⟨x.raw.toArray⟩]))
def Dd(x:Gr):Array Value:=(J2 x).toArray
theorem Aal(x:Gr):(J2 x).length=71:=by
 have:=MO x.hm;have:=x.hh.1;simp only[J2,cG,List.length_append,aY,List.length_nil];omega
theorem Q6(x:Gr):(Dd x).size=71:=by
 unfold Dd;rw[List.size_toArray,Aal]
theorem Ag7:Ax (List.replicate 13 (0:Int)):=⟨by decide,fun k=>by
 rcases cC k 13 with h | h
 ·rw[cD,bR,if_pos h];decide
 ·rw[cD,bR,if_neg (by omega)];decide⟩
def Yf:Gr:=⟨0,0,0,0,_,_,[],Ag7,Ee 0,by decide⟩
def Aga:Ag:=⟨29,71⟩
theorem Ut:Aga.Ok:=⟨⟨_,bH,rfl⟩,by kernel_rfl⟩
theorem X6(x:Gr):(Dd x)[0]?=some (.int .i64 x.kind):=by simp[Dd,J2]
theorem Afe(x:Gr):(Dd x)[1]?=some (.int .i64 x.index):=by simp[Dd,J2]
theorem Afd(x:Gr):(Dd x)[2]?=some (.int .i64 x.src):=by simp[Dd,J2]
theorem SY(x:Gr):(Dd x)[3]?=some (.int .i64 x.now):=by simp[Dd,J2]
theorem Afc(x:Gr):∀j,j<13→(Dd x)[4+j]?=(hv x.head)[j]?:=fun j hj=>by
 have:=x.hh.1
 simp only[Dd,J2,hv,bI,show 4+j=j+1+1+1+1 by omega,bE]
 rw[bP (by rw[aY];omega)]
theorem Afb(x:Gr):∀j,j<53→(Dd x)[17+j]?=(Ah x.msg)[j]?:=fun j hj=>by
 have h1:=x.hh.1
 have h2:=MO x.hm
 simp only[Dd,J2,Ah,bI,show 17+j=(j+13)+1+1+1+1 by omega,bE]
 rw[bC (by rw[aY];omega),aY,h1,show j+13-13=j by omega,bP (by omega)]
theorem Afa(x:Gr):(Dd x)[70]?=some (.string ⟨x.raw.toArray⟩):=by
 have h1:=x.hh.1;have h2:=MO x.hm;simp only[Dd,J2,bI];rw[show(70:Nat)=66+1+1+1+1 by rfl];simp only[bE];rw[bC (by rw[aY];omega),aY,h1,bC (by omega),h2];rfl
theorem PK{P:Program}{H:Type}{enc:TypeId×Value→H}{W:World}{base:Nat}{spare:Nat→Bool}{held:Bool}{n:Nat}{t:TypeId}{cs:List Value}{xs:List (DataW H×List MemPlace)}{ts:List TypeId}{i k b:Nat}(ht:P.underlying t=some .string)(hc:P.cellsOf t=1)
  (h:aW enc P W base spare held n t ((cs.drop i).take (P.cellsOf t))=xs[k]?) (hy:(xs[k]?).isSome=true) (hts:ts[k]?=some t) (hw:∀m∈DataW.weightsEach P ts (xs.map (·.1)),m≤b):∃s:ByteArray,cs[i]?=some (.string s)∧s.size≤b:=by
 obtain⟨y,hy⟩:=aL.1 hy;rw[hy] at h;obtain⟨s,h1,h2,_⟩:=DataW.trod_string ht h;rw[hc] at h1;refine⟨s,Oa h1,?_⟩;have:=hw s.data.toList.length (DataW.weights_mem_each hts (d:=.lit (.string s.data.toList)) (by rw[bG,hy,h2];rfl) _ (by simp[cM]));rw[bZ] at this;exact this
theorem Ady{H:Type}{enc:TypeId×Value→H}{W:World}{base:Nat}{spare:Nat→Bool}{held:Bool}(fuel:Nat)(cs:List Value)(x:DataW H×List MemPlace)(hl:cs.length=71)(hw:∀m∈x.1.weights aA 29,m≤reachBytes)
  (h:aW enc aA W base spare held fuel 29 cs=some x):∃r:Gr,cs=(Dd r).toList∧True:=by
 have c3:aA.cellsOf 3=1:=by kernel_rfl
 have c9:aA.cellsOf 9=1:=by kernel_rfl
 have c13:aA.cellsOf 23=13:=by kernel_rfl
 have c53:aA.cellsOf 27=53:=by kernel_rfl
 obtain⟨xs,n,_,hxe,_,hxl,hf⟩:=cE bH h;rw[hxe] at hw;simp only[cM,bH] at hw;obtain⟨n0,h0⟩:=Cb aC c3 (hf 0 _ rfl) (BU hxl (by decide));obtain⟨n1,h1⟩:=Cb aC c3 (hf 1 _ rfl) (BU hxl (by decide));obtain⟨n2,h2⟩:=Cb aC c3 (hf 2 _ rfl) (BU hxl (by decide));obtain⟨n3,h3⟩:=Cb aC c3 (hf 3 _ rfl) (BU hxl (by decide));have h4:aW enc aA W base spare held n 23 ((cs.drop 4).take (aA.cellsOf 23))=xs[4]?:=hf 4 _ rfl;obtain⟨y,hy⟩:=aL.1 (BU hxl (show 4<7 by decide));rw[hy,c13] at h4;obtain⟨L,hL,bL⟩:=LB (by simp;omega) h4;have h5:aW enc aA W base spare held n 27 ((cs.drop 17).take (aA.cellsOf 27))=xs[5]?:=hf 5 _ rfl;obtain⟨z,hz⟩:=aL.1 (BU hxl (show 5<7 by decide));rw[hz,c53] at h5;obtain⟨m,hM,okm⟩:=Zb (by simp;omega) h5;obtain⟨s,h6,hs⟩:=PK cH c9 (hf 6 _ rfl) (BU hxl (by decide)) rfl hw;refine⟨⟨n0,n1,n2,n3,L,m,s.data.toList,bL,okm,by rw[bZ];exact cA hs (by decide)⟩,?_,trivial⟩
 have e1:cs.take 4=[.int .i64 n0,.int .i64 n1,.int .i64 n2,.int .i64 n3]:=by
  apply bF;intro k;rcases(show k=0∨k=1∨k=2∨k=3∨4≤k by omega) with rfl | rfl | rfl | rfl | hk
  ·rw[aB (by decide)];exact h0
  ·rw[aB (by decide)];exact h1
  ·rw[aB (by decide)];exact h2
  ·rw[aB (by decide)];exact h3
  ·rw[aH (by rw[bQ];omega),aH (by simpa using hk)]
 have e3:cs.drop 70=[.string s]:=by
  apply bF;intro k;rw[cB]
  cases k with
  | zero=>exact h6
  | succ k=>rw[aH (by omega),aH (by simp)]
 have e2:cs=cs.take 4++((cs.drop 4).take 13++((cs.drop 17).take 53++cs.drop 70)):=by
  conv=>lhs;rw[←aP 4 cs]
  congr 1
  conv=>lhs;rw[←aP 13 (cs.drop 4)]
  rw[bW];congr 1
  conv=>lhs;rw[←aP 53 (cs.drop 17)]
  rw[bW]
 rw[e2,e1,hL,hM,e3];simp only[Dd,J2];have:(⟨s.data.toList.toArray⟩:ByteArray)=s:=by cases s;simp
 rw[this];rfl
theorem WR{H:Type}{enc:TypeId×Value→H}{W:World}{r:Reach}{b0 base:Nat}{spare:Nat→Bool}{held:Bool}{v:Value}{d:DataW H}{p:List MemPlace}
  (hok:Value.okWide aA W r b0 29 v) (h:DataW.Trod enc aA W base spare held 29 v d p) (hw:∀m∈d.weights aA 29,m≤reachBytes):∃x:Gr,v=.agg (Dd x):=by
 have c5:aA.cellsOf 29=71:=by kernel_rfl
 simp only[Value.okWide,bH] at hok;obtain⟨cs,rfl,hsz,_⟩:=hok;rw[c5] at hsz;obtain⟨fuel,hf⟩:=h;simp only[Value.cells] at hf;obtain⟨x,h1,_⟩:=Ady fuel cs.toList _ (by simpa using hsz) hw hf;exact⟨x,by congr 1;exact Array.ext' h1⟩
end
section
open Go.Lib Go.RowKit
def DY(j:Nat):Nat:=[105,101,102,97,116,111,114,49,50,115,117,113,108,67,72].getD j 0
def RE(k:Int):List UInt8:=(AS k).map fun j=>UInt8.ofNat (DY j)
def DB(k:Int):ByteArray:=⟨(RE k).toArray⟩
theorem PI(k:Int):(AS k).length≤8:=FO (P:=fun l=>l.length≤8) (by decide) (by decide) (by decide) (by decide) (by decide) (by decide) (by decide) (by decide) k
theorem LZ(k:Int):(DB k).size=(AS k).length:=by
 unfold DB RE;simp[ByteArray.size]
theorem Aco{j:Nat}(hj:j<15):DY j<256:=by
 have h:∀j:Fin 15,DY j.1<256:=by decide
 exact h ⟨j,hj⟩
theorem Zj{i j:Nat}(hi:i<15)(hj:j<15)(h:DY i=DY j):i=j:=by
 have h1:∀i j:Fin 15,DY i.1=DY j.1→i=j:=by decide
 exact congrArg Fin.val (h1 ⟨i,hi⟩ ⟨j,hj⟩ h)
theorem Nx{i j:Nat}(hi:i<15)(hj:j<15):(((DY i:Nat):Int)==((DY j:Nat):Int))=decide (i=j):=by
 rw[Bool.eq_iff_iff,beq_iff_eq,decide_eq_true_eq];constructor
 ·intro h;exact Zj hi hj (by omega)
 ·rintro rfl;rfl
theorem Aer{k:Int}{i j:Nat}(h:(AS k)[i]?=some j)(W:World):(Instr.index 9 (.string (DB k)) (.int .i64 (i:Int))).run aA W=.ok (.int .u8 ((DY j:Nat):Int)) W:=by
 have hi:i<(AS k).length:=(bO.1 h).1;have hs:i<(DB k).size:=by rw[LZ];exact hi
 have hj:=MU k j (bB h)
 have e:((DB k)[i].toNat:Nat)=DY j:=by
  have h1:=Af1 (DB k) i hs
  have h2:(DB k).data.toList[i]?=some (UInt8.ofNat (DY j)):=by
   unfold DB RE;simp only;rw[bG,h];rfl
  rw[h1] at h2;rw[Option.some.inj h2];simp[Nat.mod_eq_of_lt (Aco hj)]
 rw[←e];simp[go_sem,cH,hs]
theorem YO(w:World):Calls aA 62 #[.int .i64 1] w fun e w'=>e=.returned (.string (DB 1))∧w'=w:=by
 go_enter aZ,aX;go_wp2_with fail;go_ret;exact⟨rfl,rfl⟩
theorem YN(w:World):Calls aA 62 #[.int .i64 2] w fun e w'=>e=.returned (.string (DB 2))∧w'=w:=by
 go_enter aZ,aX;go_wp2_with fail;go_ret;exact⟨rfl,rfl⟩
theorem YM(w:World):Calls aA 62 #[.int .i64 3] w fun e w'=>e=.returned (.string (DB 3))∧w'=w:=by
 go_enter aZ,aX;go_wp2_with fail;go_ret;exact⟨rfl,rfl⟩
theorem YL(w:World):Calls aA 62 #[.int .i64 4] w fun e w'=>e=.returned (.string (DB 4))∧w'=w:=by
 go_enter aZ,aX;go_wp2_with fail;go_ret;exact⟨rfl,rfl⟩
theorem YK(w:World):Calls aA 62 #[.int .i64 5] w fun e w'=>e=.returned (.string (DB 5))∧w'=w:=by
 go_enter aZ,aX;go_wp2_with fail;go_ret;exact⟨rfl,rfl⟩
theorem YJ(w:World):Calls aA 62 #[.int .i64 6] w fun e w'=>e=.returned (.string (DB 6))∧w'=w:=by
 go_enter aZ,aX;go_wp2_with fail;go_ret;exact⟨rfl,rfl⟩
theorem YI(w:World):Calls aA 62 #[.int .i64 7] w fun e w'=>e=.returned (.string (DB 7))∧w'=w:=by
 go_enter aZ,aX;go_wp2_with fail;go_ret;exact⟨rfl,rfl⟩
theorem YP(k:Int)(hk:AS k=[])(w:World):Calls aA 62 #[.int .i64 k] w fun e w'=>e=.returned (.string (DB k))∧w'=w:=by
 have n1:¬k=1:=fun e=>by rw[e] at hk;cases hk
 have n2:¬k=2:=fun e=>by rw[e] at hk;cases hk
 have n3:¬k=3:=fun e=>by rw[e] at hk;cases hk
 have n4:¬k=4:=fun e=>by rw[e] at hk;cases hk
 have n5:¬k=5:=fun e=>by rw[e] at hk;cases hk
 have n6:¬k=6:=fun e=>by rw[e] at hk;cases hk
 have n7:¬k=7:=fun e=>by rw[e] at hk;cases hk
 have HS:Hid (DB k=⟨#[]⟩):=by show _=_;unfold DB RE;rw[hk];rfl
 clear hk;go_enter aZ,aX;go_wp2_with fail;go_ret;rw[HS.out];exact⟨rfl,rfl⟩
theorem I7(k:Int)(w:World):Calls aA 62 #[.int .i64 k] w fun e w'=>e=.returned (.string (DB k))∧w'=w:=by
 by_cases hk:AS k=[]
 ·exact YP k hk w
 ·have hr:=NH (k:=k) (by cases h:AS k with | nil=>exact absurd h hk | cons a l=>rfl);have hcases:k=1∨k=2∨k=3∨k=4∨k=5∨k=6∨k=7:=by omega
  rcases hcases with rfl | rfl | rfl | rfl | rfl | rfl | rfl
  ·exact YO w
  ·exact YN w
  ·exact YM w
  ·exact YL w
  ·exact YK w
  ·exact YJ w
  ·exact YI w
theorem Afx(m:Aj)(hm:Bj m)(w:World):Calls aA 65 #[.agg (Ah m),.int .u8 105] w fun e w'=>e=.returned (.int .i64 (Ad m 0))∧Below w.heap.size w w':=by
 have hc:(w.alloc (.cells (Ah m) 27)).cell? ⟨w.heap.size,1,none⟩=some (.int .i64 (Ad m 0)):=by
  rw[cell_of_row _ _ _ _ _ _ (Ac _ _ _ rfl)];exact BC hm 0 (by decide)
 have HB:Hid (Below w.heap.size w (w.alloc (.cells (Ah m) 27))):=(aG _ _).alloc (aD _) _;go_enter aM,aK;go_wp2_with fail;go_ret;exact⟨rfl,HB.out⟩
theorem Afw(m:Aj)(hm:Bj m)(w:World):Calls aA 65 #[.agg (Ah m),.int .u8 101] w fun e w'=>e=.returned (.int .i64 (Ad m 1))∧Below w.heap.size w w':=by
 have hc:(w.alloc (.cells (Ah m) 27)).cell? ⟨w.heap.size,2,none⟩=some (.int .i64 (Ad m 1)):=by
  rw[cell_of_row _ _ _ _ _ _ (Ac _ _ _ rfl)];exact BC hm 1 (by decide)
 have HB:Hid (Below w.heap.size w (w.alloc (.cells (Ah m) 27))):=(aG _ _).alloc (aD _) _;go_enter aM,aK;go_wp2_with fail;go_ret;exact⟨rfl,HB.out⟩
theorem Afv(m:Aj)(hm:Bj m)(w:World):Calls aA 65 #[.agg (Ah m),.int .u8 102] w fun e w'=>e=.returned (.int .i64 (Ad m 2))∧Below w.heap.size w w':=by
 have hc:(w.alloc (.cells (Ah m) 27)).cell? ⟨w.heap.size,3,none⟩=some (.int .i64 (Ad m 2)):=by
  rw[cell_of_row _ _ _ _ _ _ (Ac _ _ _ rfl)];exact BC hm 2 (by decide)
 have HB:Hid (Below w.heap.size w (w.alloc (.cells (Ah m) 27))):=(aG _ _).alloc (aD _) _;go_enter aM,aK;go_wp2_with fail;go_ret;exact⟨rfl,HB.out⟩
theorem Afu(m:Aj)(hm:Bj m)(w:World):Calls aA 65 #[.agg (Ah m),.int .u8 97] w fun e w'=>e=.returned (.int .i64 (Ad m 3))∧Below w.heap.size w w':=by
 have hc:(w.alloc (.cells (Ah m) 27)).cell? ⟨w.heap.size,4,none⟩=some (.int .i64 (Ad m 3)):=by
  rw[cell_of_row _ _ _ _ _ _ (Ac _ _ _ rfl)];exact BC hm 3 (by decide)
 have HB:Hid (Below w.heap.size w (w.alloc (.cells (Ah m) 27))):=(aG _ _).alloc (aD _) _;go_enter aM,aK;go_wp2_with fail;go_ret;exact⟨rfl,HB.out⟩
theorem Aft(m:Aj)(hm:Bj m)(w:World):Calls aA 65 #[.agg (Ah m),.int .u8 116] w fun e w'=>e=.returned (.int .i64 (Ad m 4))∧Below w.heap.size w w':=by
 have hc:(w.alloc (.cells (Ah m) 27)).cell? ⟨w.heap.size,5,none⟩=some (.int .i64 (Ad m 4)):=by
  rw[cell_of_row _ _ _ _ _ _ (Ac _ _ _ rfl)];exact BC hm 4 (by decide)
 have HB:Hid (Below w.heap.size w (w.alloc (.cells (Ah m) 27))):=(aG _ _).alloc (aD _) _;go_enter aM,aK;go_wp2_with fail;go_ret;exact⟨rfl,HB.out⟩
theorem Afs(m:Aj)(hm:Bj m)(w:World):Calls aA 65 #[.agg (Ah m),.int .u8 111] w fun e w'=>e=.returned (.int .i64 (Ad m 5))∧Below w.heap.size w w':=by
 have hc:(w.alloc (.cells (Ah m) 27)).cell? ⟨w.heap.size,6,none⟩=some (.int .i64 (Ad m 5)):=by
  rw[cell_of_row _ _ _ _ _ _ (Ac _ _ _ rfl)];exact BC hm 5 (by decide)
 have HB:Hid (Below w.heap.size w (w.alloc (.cells (Ah m) 27))):=(aG _ _).alloc (aD _) _;go_enter aM,aK;go_wp2_with fail;go_ret;exact⟨rfl,HB.out⟩
theorem Afr(m:Aj)(hm:Bj m)(w:World):Calls aA 65 #[.agg (Ah m),.int .u8 114] w fun e w'=>e=.returned (.int .i64 (Ad m 6))∧Below w.heap.size w w':=by
 have hc:(w.alloc (.cells (Ah m) 27)).cell? ⟨w.heap.size,7,none⟩=some (.int .i64 (Ad m 6)):=by
  rw[cell_of_row _ _ _ _ _ _ (Ac _ _ _ rfl)];exact BC hm 6 (by decide)
 have HB:Hid (Below w.heap.size w (w.alloc (.cells (Ah m) 27))):=(aG _ _).alloc (aD _) _;go_enter aM,aK;go_wp2_with fail;go_ret;exact⟨rfl,HB.out⟩
theorem Afq(m:Aj)(hm:Bj m)(w:World):Calls aA 65 #[.agg (Ah m),.int .u8 49] w fun e w'=>e=.returned (.int .i64 (Ad m 7))∧Below w.heap.size w w':=by
 have hc:(w.alloc (.cells (Ah m) 27)).cell? ⟨w.heap.size,8,none⟩=some (.int .i64 (Ad m 7)):=by
  rw[cell_of_row _ _ _ _ _ _ (Ac _ _ _ rfl)];exact BC hm 7 (by decide)
 have HB:Hid (Below w.heap.size w (w.alloc (.cells (Ah m) 27))):=(aG _ _).alloc (aD _) _;go_enter aM,aK;go_wp2_with fail;go_ret;exact⟨rfl,HB.out⟩
theorem Afp(m:Aj)(hm:Bj m)(w:World):Calls aA 65 #[.agg (Ah m),.int .u8 50] w fun e w'=>e=.returned (.int .i64 (Ad m 8))∧Below w.heap.size w w':=by
 have hc:(w.alloc (.cells (Ah m) 27)).cell? ⟨w.heap.size,9,none⟩=some (.int .i64 (Ad m 8)):=by
  rw[cell_of_row _ _ _ _ _ _ (Ac _ _ _ rfl)];exact BC hm 8 (by decide)
 have HB:Hid (Below w.heap.size w (w.alloc (.cells (Ah m) 27))):=(aG _ _).alloc (aD _) _;go_enter aM,aK;go_wp2_with fail;go_ret;exact⟨rfl,HB.out⟩
theorem Afo(m:Aj)(hm:Bj m)(w:World):Calls aA 65 #[.agg (Ah m),.int .u8 115] w fun e w'=>e=.returned (.int .i64 (Ad m 9))∧Below w.heap.size w w':=by
 have hc:(w.alloc (.cells (Ah m) 27)).cell? ⟨w.heap.size,10,none⟩=some (.int .i64 (Ad m 9)):=by
  rw[cell_of_row _ _ _ _ _ _ (Ac _ _ _ rfl)];exact BC hm 9 (by decide)
 have HB:Hid (Below w.heap.size w (w.alloc (.cells (Ah m) 27))):=(aG _ _).alloc (aD _) _;go_enter aM,aK;go_wp2_with fail;go_ret;exact⟨rfl,HB.out⟩
theorem Aeg(m:Aj)(hm:Bj m)(w:World):Calls aA 65 #[.agg (Ah m),.int .u8 117] w fun e w'=>e=.returned (.int .i64 (Ad m 10))∧Below w.heap.size w w':=by
 have hc:(w.alloc (.cells (Ah m) 27)).cell? ⟨w.heap.size,11,none⟩=some (.int .i64 (Ad m 10)):=by
  rw[cell_of_row _ _ _ _ _ _ (Ac _ _ _ rfl)];exact BC hm 10 (by decide)
 have HB:Hid (Below w.heap.size w (w.alloc (.cells (Ah m) 27))):=(aG _ _).alloc (aD _) _;go_enter aM,aK;go_wp2_with fail;go_ret;exact⟨rfl,HB.out⟩
theorem Aef(m:Aj)(hm:Bj m)(w:World):Calls aA 65 #[.agg (Ah m),.int .u8 113] w fun e w'=>e=.returned (.int .i64 (Ad m 11))∧Below w.heap.size w w':=by
 have hc:(w.alloc (.cells (Ah m) 27)).cell? ⟨w.heap.size,12,none⟩=some (.int .i64 (Ad m 11)):=by
  rw[cell_of_row _ _ _ _ _ _ (Ac _ _ _ rfl)];exact BC hm 11 (by decide)
 have HB:Hid (Below w.heap.size w (w.alloc (.cells (Ah m) 27))):=(aG _ _).alloc (aD _) _;go_enter aM,aK;go_wp2_with fail;go_ret;exact⟨rfl,HB.out⟩
theorem Aee(m:Aj)(hm:Bj m)(w:World):Calls aA 65 #[.agg (Ah m),.int .u8 108] w fun e w'=>e=.returned (.int .i64 (Ad m 12))∧Below w.heap.size w w':=by
 have hc:(w.alloc (.cells (Ah m) 27)).cell? ⟨w.heap.size,13,none⟩=some (.int .i64 (Ad m 12)):=by
  rw[cell_of_row _ _ _ _ _ _ (Ac _ _ _ rfl)];exact BC hm 12 (by decide)
 have HB:Hid (Below w.heap.size w (w.alloc (.cells (Ah m) 27))):=(aG _ _).alloc (aD _) _;go_enter aM,aK;go_wp2_with fail;go_ret;exact⟨rfl,HB.out⟩
theorem Ou(m:Aj)(hm:Bj m)(j:Nat)(hj:j<13)(w:World):Calls aA 65 #[.agg (Ah m),.int .u8 ((DY j:Nat):Int)] w fun e w'=>e=.returned (.int .i64 (Ad m j))∧Below w.heap.size w w':=by
 match j,hj with
 | 0,_=>exact Afx m hm w
 | 1,_=>exact Afw m hm w
 | 2,_=>exact Afv m hm w
 | 3,_=>exact Afu m hm w
 | 4,_=>exact Aft m hm w
 | 5,_=>exact Afs m hm w
 | 6,_=>exact Afr m hm w
 | 7,_=>exact Afq m hm w
 | 8,_=>exact Afp m hm w
 | 9,_=>exact Afo m hm w
 | 10,_=>exact Aeg m hm w
 | 11,_=>exact Aef m hm w
 | 12,_=>exact Aee m hm w
 | j+13,hj=>omega
def F7(k:Int)(f:Nat):Bool:=(AS k).contains f
theorem Sq(k:Int)(f:Nat):F7 k f=true↔f∈AS k:=by unfold F7;rw[List.contains_iff_mem]
theorem UQ(k:Int)(f:Nat)(hf:f<15)(w:World):Calls aA 91 #[.int .i64 k,.int .u8 ((DY f:Nat):Int)] w fun e w'=>e=.returned (.bool (F7 k f))∧w'=w:=by
 have CF:Hid (∀W,Calls aA 62 #[.int .i64 k] W fun e w'=>e=.returned (.string (DB k))∧w'=W):=fun W=>I7 k W;have HIX:Hid (∀(i j:Nat),(AS k)[i]?=some j→∀W,(Instr.index 9 (.string (DB k)) (.int .i64 (i:Int))).run aA W=.ok (.int .u8 ((DY j:Nat):Int)) W):=fun i j h W=>Aer h W;obtain⟨s,hs⟩:=eX (DB k);obtain⟨n,hn⟩:=eX ((AS k).length);have HN:Hid _:=hn;have hsz:s.size=n:=by rw[hs,hn,LZ]
 have hn8:n≤8:=by rw[hn];exact PI k
 rw[←hs] at CF HIX;obtain⟨q,hq⟩:∃q:Int,q=((DY f:Nat):Int):=⟨_,rfl⟩;have HQ:Hid (∀j,j∈AS k→(((DY j:Nat):Int)==q)=decide (j=f)):=fun j hj=>by rw[hq];exact Nx (MU k j hj) hf
 rw[←hq];clear hs hn hq;go_enter Tryz.func91,Tryz.ntmps91
 go_wp2_with (first
  | (go_at_call 62;refine(CF.out _).mono ?_;rintro e w1 ⟨rfl,rfl⟩))
 go_loop [6] (fun i=> ∃p:Nat,p≤n∧i=.int .i64 (p:Int)∧f∉(AS k).take p) (fun i=>n-(intOf i).toNat)
 case atStart=>exact⟨0,Nat.zero_le _,rfl,by simp⟩
 case round=>
  obtain⟨p,hp,rfl,hnot⟩:=hrel;have HNOT:Hid _:=hnot;clear hnot;by_cases hlt:p<n
  ·obtain⟨j,hj⟩:∃j,(AS k)[p]?=some j:=⟨_,bD (by rw[←HN.out];exact hlt)⟩;have hix:=HIX.out p j hj;have hqq:=HQ.out j (bB hj);obtain⟨c,hc⟩:∃c:Int,c=((DY j:Nat):Int):=⟨_,rfl⟩;rw[←hc] at hix hqq;have HJ:Hid _:=hj;clear hc hj;by_cases he:j=f
   ·rw[decide_eq_true he] at hqq
    have HR:Hid (F7 k f=true):=by
     show _=_;rw[Sq, ←he];exact bB HJ.out
    clear he;go_wp2_with fail;go_ret;rw[HR.out];exact⟨rfl,rfl⟩
   ·rw[decide_eq_false he] at hqq
    have HR:Hid (f∉(AS k).take (p+1)):=by
     show¬_;rw[List.take_add_one,HJ.out,List.mem_append];rintro(h | h)
     ·exact HNOT.out h
     ·have h2:f=j:=by simpa using h
      exact he h2.symm
    clear he;go_wp2_with fail;go_round
    case rel=>exact⟨p+1,by omega,by go_num,HR.out⟩
    case measure=>simp[intOf];omega
  ·obtain rfl:p=n:=by omega
   have HR:Hid (F7 k f=false):=by
    have:=HNOT.out;rw[HN.out,List.take_length] at this;show _=_;rw[←Bool.not_eq_true,Sq];exact this
   go_wp2_with fail;go_ret;rw[HR.out];exact⟨rfl,rfl⟩
theorem Ae7(k:Int)(p:Nat):(((AS k).take p).map DC).sum≤8*26:=by
 have h:∀l:List Nat,(l.map DC).sum≤l.length*26:=fun l=>by
  induction l with
  | nil=>simp
  | cons a l ih=>
   have:DC a≤26:=by unfold DC;split <;> (try split) <;> omega
   simp only[bY,List.sum_cons,cG];omega
 have h1:=h ((AS k).take p);have h2:=PI k;rw[bQ] at h1;have:min p (AS k).length≤8:=by omega
 omega
end
end Go.Proofs.YtbhkoipcpcoooabGreat
