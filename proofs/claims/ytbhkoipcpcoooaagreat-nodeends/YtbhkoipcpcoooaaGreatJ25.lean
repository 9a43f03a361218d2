import Derived.Test.YtbhkoipcpcoooaaGreatJ24
import Derived.Test.YtbhkoipcpcoooaaGreatJ14
import Derived.Test.YtbhkoipcpcoooaaGreatJ2
import Derived.Test.YtbhkoipcpcoooaaGreatJ3
import Derived.Test.YtbhkoipcpcoooaaGreatJ15
import Derived.Test.YtbhkoipcpcoooaaGreatJ23
import Derived.Test.YtbhkoipcpcoooaaGreatJ18
import Derived.Test.YtbhkoipcpcoooaaGreatJ19
namespace Go.Proofs.YtbhkoipcpcoooaaGreat
set_option maxRecDepth 20000
set_option maxHeartbeats 64000000
open Go
open Go.Proofs.Tryz renaming prog → aA, ntmps123 → aP, func123 → aQ
open _root_.List renaming setIfInBounds_toArray → aB, set_cons_succ → aG, set_cons_zero → aH, length_append → aJ, getElem?_eq_getElem → aK, take_of_length_le → aM, length_cons → aN, length_take → aR, not_mem_nil → aT, length_nil → aV, range → aW, take_succ_cons → aY, take_add_one → aZ, all_eq_true → bA, mem_range → bC, drop_zero → bD, take_zero → bE
open _root_.Array renaming getElem?_eq_some_iff → aC
open _root_.Nat renaming le_refl → aD
open Go.RowKit.Below renaming refl → aI
open _root_.UInt8 renaming ofNat → aL
open Go.Act renaming put → aO
section
open Go.Lib Go.RowKit
abbrev O0:ByteArray:={data:=#[105,101,102,97,116,111,114,49,50,115,117,113,108]}
theorem ixL(p:Nat)(hp:p<13)(W:World):(Instr.index 9 (.string O0) (.int .i64 (p:Int))).run aA W=.ok (.int .u8 ((DY p:Nat):Int)) W:=by
 have hs:p<O0.size:=hp
 have e:(O0[p].toNat:Nat)=DY p:=by
  have h1:∀q:Fin 13,(O0[q.1]'(q.2)).toNat=DY q.1:=by decide
  exact h1 ⟨p,hp⟩
 rw[←e];have hp':(p:Int)<13:=by omega
 simp[go_sem,Tryz.underlying9,hp']
def Oi(m:An)(j:Nat):Bool:=decide (0≤Ad m j)&&decide (Ad m j≤281474976710655)&&(Ad m j==0 || ID m.kind j)
theorem Aai(m:An):Ca m=(!(AQ m.kind).isEmpty&&(aW 13).all (Oi m)&&F7 m&&((m.cube.1==Z&&m.cube.2==Z) || ID m.kind 13)&&(m.head==Z || ID m.kind 14)):=rfl
theorem Np(k:Int):(DI k).data.toList=[]↔AQ k=[]:=by
 unfold DI Wt;simp
theorem Calls.later_same16{P:Program}{f:FuncId}{args:Array Value}{W:World}{u:Am W}{v:Value}
  (h:Calls P f args u.world fun e w'=>e=.returned v∧w'=u.world):Calls P f args u.world fun e w''=>e=.returned v∧∃u':Am W,w''=u'.world:=
 h.mono fun _ _ ⟨he,hb⟩=>⟨he,u,hb⟩
theorem WK(m:An)(hm:BB m)(w:World):Calls aA 119 #[.agg (Ae m)] w fun e w'=>e=.returned (.bool (Ca m))∧Below w.heap.size w w':=by
 have CF:Hid (∀W,Calls aA 66 #[.int .i64 m.kind] W fun e w'=>e=.returned (.string (DI m.kind))∧w'=W):=fun W=>IOx m.kind W;obtain⟨w1,hw1⟩:=eX (w.alloc (.cells (Ae m) 39));have g1:w1.heap[w.heap.size]?=some (.cells (Ae m) 39 (0,0)):=by rw[hw1];exact Ab _ _ _ rfl
 have B1:Below w.heap.size w w1:=by rw[hw1];exact(aI _ _).alloc (aD _) _
 have c0:w1.cell? ⟨w.heap.size,0,none⟩=some (.int .i64 m.kind):=by rw[cell_of_row _ _ _ _ _ _ g1,DB]
 have hms:=BG hm;rw[hw1] at c0;by_cases hk:AQ m.kind=[]
 ·have HR:Hid (Ca m=false):=OM hk;have hse:(DI m.kind).toList.isEmpty=true:=by rw[ByteArray.toList_eq,(Np _).2 hk];rfl
  obtain⟨s,hs⟩:=eX (DI m.kind);rw[←hs] at CF hse;clear hs;go_enter Tryz.func119,Tryz.ntmps119;go_wp2_with fail;rw[←hw1];refine(CF.out _).mono ?_;rintro e w2 ⟨rfl,hw2⟩;obtain rfl:=hw2.symm;go_wp2_with fail;go_ret;rw[HR.out];exact⟨rfl,by first | exact B1|(rw[←hw1];exact B1)⟩
 ·have hse:(DI m.kind).toList.isEmpty=false:=by
   rw[ByteArray.toList_eq]
   cases e:(DI m.kind).data.toList with
   | nil=>exact absurd ((Np _).1 e) hk
   | cons a l=>rfl
  have hne:(AQ m.kind).isEmpty=false:=by
   cases e:AQ m.kind with
   | nil=>exact absurd e hk
   | cons a l=>rfl
  have HRF:Hid (Ca m=((aW 13).all (Oi m)&&F7 m&&((m.cube.1==Z&&m.cube.2==Z) || ID m.kind 13)&&(m.head==Z || ID m.kind 14))):=by
   show _=_;rw[Aai,hne];rfl
  have HNO:Hid (∀j,j<13→Oi m j=false→Ca m=false):=fun j hj h=>by
   rw[HRF.out]
   have:(aW 13).all (Oi m)=false:=by
    rw[←Bool.not_eq_true,bA];intro h2;have:=h2 j (bC.2 hj);rw[h] at this
    cases this
   rw[this];rfl
  have HH:Hid (∀(f:Nat),f<15→∀W,Calls aA 157 #[.int .i64 m.kind,.int .u8 ((DY f:Nat):Int)] W fun e w'=>e=.returned (.bool (ID m.kind f))∧w'=W):=fun f hf W=>Aap m.kind f hf W;have HG:Hid (∀(j:Nat),j<13→∀W,Calls aA 122 #[.agg (Ae m),.int .u8 ((DY j:Nat):Int)] W fun e w'=>e=.returned (.int .i64 (Ad m j))∧Below W.heap.size W w'):=fun j hj W=>SL m hm j hj W;obtain⟨s,hs⟩:=eX (DI m.kind);rw[←hs] at CF hse;clear hs hk hne;go_enter Tryz.func119,Tryz.ntmps119;go_wp2_with fail;rw[←hw1] at c0 ⊢;clear hw1;refine(CF.out _).mono ?_;rintro e w2 ⟨rfl,hw2⟩;obtain rfl:=hw2.symm;go_wp2_with fail;clear hse c0;go_loopw [3] (fun i W=> ∃p:Nat,p≤13∧i=.int .i64 (p:Int)∧(∀j,j<p→Oi m j=true)∧W.heap[w.heap.size]?=some (.cells (Ae m) 39 (0,0))∧Below w.heap.size w W) (fun i _=>13-(intOf i).toNat)
  case atStart=>exact⟨0,Nat.zero_le _,rfl,fun j hj=>absurd hj (by omega),g1,B1⟩
  case round=>
   clear g1 B1;obtain⟨p,hp,rfl,hall,gk,hB⟩:=hrel;have HALL:Hid _:=hall;have hsz:=(gS gk);clear hall;by_cases hlt:p<13
   ·have hix:=ixL p hlt;have CG:Hid (∀W,Calls aA 122 #[.agg (Ae m),.int .u8 ((DY p:Nat):Int)] W fun e w'=>e=.returned (.int .i64 (Ad m p))∧Below W.heap.size W w'):=HG.out p hlt;have CH:Hid (∀W,Calls aA 157 #[.int .i64 m.kind,.int .u8 ((DY p:Nat):Int)] W fun e w'=>e=.returned (.bool (ID m.kind p))∧w'=W):=HH.out p (by omega);obtain⟨q,hq⟩:∃q:Int,q=((DY p:Nat):Int):=⟨_,rfl⟩;obtain⟨x,hx⟩:=eX (Ad m p);have HX:Hid _:=hx;obtain⟨b,hb⟩:=eX (ID m.kind p);have HBB:Hid _:=hb;rw[←hq] at hix CG CH;rw[←hx] at CG;rw[←hb] at CH;clear hq hx hb;have hpi:(p:Int)<13:=by omega
    go_wp2_with fail;have ne1:=Am.ne wr;refine rL ?_;refine JJ BD rfl _ rfl w.heap.size 0 rfl _ _ _ (Ae m) hms (Ap gk) (Ar _ _) ?_;simp only[pU];go_big_quiet_step (fail);go_big_quiet_step (fail);go_big_quiet_want;go_big_quiet_op;refine⟨_,fun u=>Calls.later_of (CG.out u.world),?_⟩;go_big_quiet_on;go_big_quiet_step (fail);refine wpQuiet_nil ?_;rintro w4 ⟨u,hu⟩;have g4:w4.heap[w.heap.size]?=some (.cells (Ae m) 39 (0,0)):=by rw[hu,u.below.block _ hsz];exact gk
    have B4:Below w.heap.size w w4:=by rw[hu];exact hB.trans (u.below.mono hB.size)
    have hs4:=(gS g4);clear hu u gk hB ne1
    have c4:∀u:Am w4,u.world.cell? ⟨w.heap.size,0,none⟩=some (.int .i64 m.kind):=fun u=>by
     rw[cell_of_row _ _ _ _ _ _ ((u.below.block _ hs4).trans g4),DB]
    have ne4:=Am.ne w4;by_cases h0:x<0
    ·have d0:decide (x<0)=true:=by simpa using h0
     have HF:Hid (Ca m=false):=HNO.out p hlt (by unfold Oi;rw[←HX.out,decide_eq_false (show¬0≤x by omega)];rfl);clear h0;go_wp2_with fail;refine rL ?_
     iterate 18 (go_big_quiet_step (fail))
     refine wpQuiet_nil ?_;rintro w5 ⟨u,hu⟩;have HB5:Hid (Below w.heap.size w w5):=by rw[hu];exact B4.trans (u.below.mono B4.size)
     have HG5:Hid (w5.heap[w.heap.size]?=some (.cells (Ae m) 39 (0,0))):=by rw[hu,u.below.block _ hs4];exact g4
     clear hu u;go_wp2_with fail;go_ret;rw[HF.out];exact⟨rfl,HB5.out⟩
    ·have d0:decide (x<0)=false:=by simpa using h0
     by_cases h1:281474976710655<x
     ·have d1:decide (281474976710655<x)=true:=by simpa using h1
      have HF:Hid (Ca m=false):=HNO.out p hlt (by unfold Oi;rw[←HX.out,decide_eq_false (show¬x≤281474976710655 by omega),Bool.and_false];rfl);clear h0 h1;go_wp2_with fail;refine rL ?_
      iterate 18 (go_big_quiet_step (fail))
      refine wpQuiet_nil ?_;rintro w5 ⟨u,hu⟩;have HB5:Hid (Below w.heap.size w w5):=by rw[hu];exact B4.trans (u.below.mono B4.size)
      have HG5:Hid (w5.heap[w.heap.size]?=some (.cells (Ae m) 39 (0,0))):=by rw[hu,u.below.block _ hs4];exact g4
      clear hu u;go_wp2_with fail;go_ret;rw[HF.out];exact⟨rfl,HB5.out⟩
     ·have d1:decide (281474976710655<x)=false:=by simpa using h1
      by_cases h2:x=0
      ·have d2:(x !=0)=false:=by simp[h2]
       have HY:Hid (Oi m p=true):=by show _=_;unfold Oi;rw[←HX.out,h2];rfl
       clear h0 h1 h2;go_wp2_with fail;refine rL ?_
       iterate 18 (go_big_quiet_step (fail))
       refine wpQuiet_nil ?_;rintro w5 ⟨u,hu⟩;have HB5:Hid (Below w.heap.size w w5):=by rw[hu];exact B4.trans (u.below.mono B4.size)
       have HG5:Hid (w5.heap[w.heap.size]?=some (.cells (Ae m) 39 (0,0))):=by rw[hu,u.below.block _ hs4];exact g4
       clear hu u;go_wp2_with fail;go_roundw
       case rel=>exact⟨p+1,by omega,by go_num,fun j hj=>by
         by_cases e:j<p
         ·exact HALL.out j e
         ·obtain rfl:j=p:=by omega
          exact HY.out,HG5.out,HB5.out⟩
       case measure=>simp[intOf];omega
      ·have d2:(x !=0)=true:=by simp[h2]
       have d3:(x==0)=false:=by simp[h2]
       cases b with
       | true=>
        have HY:Hid (Oi m p=true):=by
         show _=_;unfold Oi;rw[←HX.out, ←HBB.out,decide_eq_true (show 0≤x by omega),decide_eq_true (show x≤281474976710655 by omega),Bool.or_true];rfl
        clear h0 h1 h2;go_wp2_with fail;refine rL ?_
        iterate 14 (go_big_quiet_step (fail))
        go_big_quiet_want;go_big_quiet_op;refine⟨_,fun u=>Calls.later_same16 (CH.out u.world),?_⟩;go_big_quiet_on
        iterate 3 (go_big_quiet_step (fail))
        refine wpQuiet_nil ?_;rintro w5 ⟨u,hu⟩;have HB5:Hid (Below w.heap.size w w5):=by rw[hu];exact B4.trans (u.below.mono B4.size)
        have HG5:Hid (w5.heap[w.heap.size]?=some (.cells (Ae m) 39 (0,0))):=by rw[hu,u.below.block _ hs4];exact g4
        clear hu u;go_wp2_with fail;go_roundw
        case rel=>exact⟨p+1,by omega,by go_num,fun j hj=>by
          by_cases e:j<p
          ·exact HALL.out j e
          ·obtain rfl:j=p:=by omega
           exact HY.out,HG5.out,HB5.out⟩
        case measure=>simp[intOf];omega
       | false=>
        have HF:Hid (Ca m=false):=HNO.out p hlt (by unfold Oi;rw[←HX.out, ←HBB.out,d3];simp);clear h0 h1 h2;go_wp2_with fail;refine rL ?_
        iterate 14 (go_big_quiet_step (fail))
        go_big_quiet_want;go_big_quiet_op;refine⟨_,fun u=>Calls.later_same16 (CH.out u.world),?_⟩;go_big_quiet_on
        iterate 3 (go_big_quiet_step (fail))
        refine wpQuiet_nil ?_;rintro w5 ⟨u,hu⟩;have HB5:Hid (Below w.heap.size w w5):=by rw[hu];exact B4.trans (u.below.mono B4.size)
        have HG5:Hid (w5.heap[w.heap.size]?=some (.cells (Ae m) 39 (0,0))):=by rw[hu,u.below.block _ hs4];exact g4
        clear hu u;go_wp2_with fail;go_ret;rw[HF.out];exact⟨rfl,HB5.out⟩
   ·obtain rfl:p=13:=by omega
    have HR2:Hid (Ca m=(F7 m&&((m.cube.1==Z&&m.cube.2==Z) || ID m.kind 13)&&(m.head==Z || ID m.kind 14))):=by
     show _=_
     have:(aW 13).all (Oi m)=true:=by
      rw[bA];intro j hj;exact HALL.out j (bC.1 hj)
     rw[HRF.out,this,Bool.true_and]
    obtain⟨V,hV⟩:=eX m.cube.1;obtain⟨M,hM⟩:=eX m.cube.2;obtain⟨hd,hhd⟩:=eX m.head;have hVb:AK V:=by rw[hV];exact hm.2.1
    have hMb:AK M:=by rw[hM];exact hm.2.2.1
    have hVl:=hVb.1;have hMl:=hMb.1;have hHl:hd.length=13:=by rw[hhd];exact hm.2.2.2.1
    have CC:Hid (∀W,Calls aA 106 #[.agg (cv V M)] W fun e w'=>e=.returned (.agg (cv (AZ V M) M))∧Below W.heap.size W w'):=OQ V M hVb hMb;have CH3:Hid (∀W,Calls aA 157 #[.int .i64 m.kind,.int .u8 67] W fun e w'=>e=.returned (.bool (ID m.kind 13))∧w'=W):=fun W=>HH.out 13 (by decide) W;have CH4:Hid (∀W,Calls aA 157 #[.int .i64 m.kind,.int .u8 72] W fun e w'=>e=.returned (.bool (ID m.kind 14))∧w'=W):=fun W=>HH.out 14 (by decide) W;have hcub:∀j,j<26→(Ae m)[14+j]?=(cv V M)[j]?:=by rw[hV,hM];exact Kq hm
    have hhea:∀j,j<13→(Ae m)[40+j]?=(hv hd)[j]?:=by rw[hhd];exact Lr hm
    obtain⟨r,hr⟩:=eX ((V==AZ V M));obtain⟨z,hz⟩:=eX ((V==Z&&M==Z));obtain⟨y,hy⟩:=eX ((hd==Z));obtain⟨b3,hb3⟩:=eX (ID m.kind 13);obtain⟨b4,hb4⟩:=eX (ID m.kind 14)
    have HR3:Hid (Ca m=(r&&(z || b3)&&(y || b4))):=by
     show _=_;rw[HR2.out,hr,hz,hy,hb3,hb4,hV,hM,hhd];rfl
    have hCl:=(D7 V M).1
    have eC:∀w,(Op.equalIn 10000 37 (.agg (cv V M)) (.agg (cv (AZ V M) M))).run aA w=.ok r w:=fun w=>by
     rw[eqC V M (AZ V M) M hVl hMl hCl hMl,hr,beq_self_eq_true,Bool.and_true]
    have eZ:∀w,(Op.equalIn 10000 37 (.agg (cv V M)) (.agg AE)).run aA w=.ok z w:=fun w=>by
     rw[J7,eqC V M Z Z hVl hMl BO.1 BO.1,hz]
    have eg:∀op x y (xs ys:Array Value) w,(eqGuard op 37 x y (.agg xs) (.agg ys)).run aA w=.ok () w:=egC
    have eH:∀w,(Op.equalIn 10000 35 (.agg (hv hd)) (.agg (hv Z))).run aA w=.ok y w:=fun w=>by
     rw[Arc hd Z hHl BO.1,hy]
    have egh:∀op x y (xs ys:Array Value) w,(eqGuard op 35 x y (.agg xs) (.agg ys)).run aA w=.ok () w:=egH;rw[←hb3] at CH3;rw[←hb4] at CH4;have hcs:=Bq V M hVl hMl;clear hV hM hhd hr hz hy hb3 hb4 hVb hMb HR2 HRF HNO HALL;have ne1:=Am.ne wr
    have c5:∀u:Am wr,u.world.cell? ⟨w.heap.size,0,none⟩=some (.int .i64 m.kind):=fun u=>by
     rw[cell_of_row _ _ _ _ _ _ ((u.below.block _ hsz).trans gk),DB]
    go_wp2_with fail
    cases r with
    | false=>
     refine rL ?_;go_big_quiet_step (fail);refine JJ Es rfl _ rfl w.heap.size 14 rfl _ _ _ (cv V M) hcs (Ap gk) hcub ?_;simp only[pU];go_big_quiet_step (fail);refine JJ Es rfl _ rfl w.heap.size 14 rfl _ _ _ (cv V M) hcs (Ap gk) hcub ?_;simp only[pU];go_big_quiet_want;go_big_quiet_op;refine⟨_,fun u=>Calls.later_of (CC.out u.world),?_⟩;go_big_quiet_on
     iterate 13 (go_big_quiet_step (fail))
     refine wpQuiet_nil ?_;rintro w5 ⟨u,hu⟩;have HB5:Hid (Below w.heap.size w w5):=by rw[hu];exact hB.trans (u.below.mono hB.size)
     have g5:w5.heap[w.heap.size]?=some (.cells (Ae m) 39 (0,0)):=by rw[hu,u.below.block _ hsz];exact gk
     have k5:w5.cell? ⟨w.heap.size,0,none⟩=some (.int .i64 m.kind):=by rw[cell_of_row _ _ _ _ _ _ g5,DB]
     clear hu u ne1 c5 gk hB;go_wp2_with fail;go_ret;rw[HR3.out];exact⟨rfl,HB5.out⟩
    | true=>
     cases z with
     | true=>
      refine rL ?_;go_big_quiet_step (fail);refine JJ Es rfl _ rfl w.heap.size 14 rfl _ _ _ (cv V M) hcs (Ap gk) hcub ?_;simp only[pU];go_big_quiet_step (fail);refine JJ Es rfl _ rfl w.heap.size 14 rfl _ _ _ (cv V M) hcs (Ap gk) hcub ?_;simp only[pU];go_big_quiet_want;go_big_quiet_op;refine⟨_,fun u=>Calls.later_of (CC.out u.world),?_⟩;go_big_quiet_on
      iterate 3 (go_big_quiet_step (fail))
      refine JJ Es rfl _ rfl w.heap.size 14 rfl _ _ _ (cv V M) hcs (Ap gk) hcub ?_;simp only[pU]
      iterate 9 (go_big_quiet_step (fail))
      refine wpQuiet_nil ?_;rintro w5 ⟨u,hu⟩;have HB5:Hid (Below w.heap.size w w5):=by rw[hu];exact hB.trans (u.below.mono hB.size)
      have g5:w5.heap[w.heap.size]?=some (.cells (Ae m) 39 (0,0)):=by rw[hu,u.below.block _ hsz];exact gk
      have k5:w5.cell? ⟨w.heap.size,0,none⟩=some (.int .i64 m.kind):=by rw[cell_of_row _ _ _ _ _ _ g5,DB]
      clear hu u ne1 c5 gk hB
      cases y with
      | true=>
       go_wp2_with (first
        | go_skip
        | ((with_reducible refine Aw 35 _ rfl ?_);refine AH JT rfl _ rfl w.heap.size 40 rfl _ _ _ (hv hd) (by rw[EW,hHl];rfl) g5 hhea ?_)
        | ((with_reducible refine Cy 35 _ rfl ?_);refine Jv rfl rfl ?_))
       go_ret;rw[HR3.out];exact⟨by simp,HB5.out⟩
      | false=>
       go_wp2_with (first
        | go_skip
        | ((with_reducible refine Aw 35 _ rfl ?_);refine AH JT rfl _ rfl w.heap.size 40 rfl _ _ _ (hv hd) (by rw[EW,hHl];rfl) g5 hhea ?_)
        | ((with_reducible refine Cy 35 _ rfl ?_);refine Jv rfl rfl ?_)
        | (go_at_call 157;refine(CH4.out _).mono ?_;rintro e w6 ⟨rfl,hw6⟩;obtain rfl:=hw6.symm))
       go_ret;rw[HR3.out];exact⟨by simp,HB5.out⟩
     | false=>
      cases b3 with
      | true=>
       refine rL ?_;go_big_quiet_step (fail);refine JJ Es rfl _ rfl w.heap.size 14 rfl _ _ _ (cv V M) hcs (Ap gk) hcub ?_;simp only[pU];go_big_quiet_step (fail);refine JJ Es rfl _ rfl w.heap.size 14 rfl _ _ _ (cv V M) hcs (Ap gk) hcub ?_;simp only[pU];go_big_quiet_want;go_big_quiet_op;refine⟨_,fun u=>Calls.later_of (CC.out u.world),?_⟩;go_big_quiet_on
       iterate 3 (go_big_quiet_step (fail))
       refine JJ Es rfl _ rfl w.heap.size 14 rfl _ _ _ (cv V M) hcs (Ap gk) hcub ?_;simp only[pU]
       iterate 5 (go_big_quiet_step (fail))
       go_big_quiet_want;go_big_quiet_op;refine⟨_,fun u=>Calls.later_same16 (CH3.out u.world),?_⟩;go_big_quiet_on
       iterate 3 (go_big_quiet_step (fail))
       refine wpQuiet_nil ?_;rintro w5 ⟨u,hu⟩;have HB5:Hid (Below w.heap.size w w5):=by rw[hu];exact hB.trans (u.below.mono hB.size)
       have g5:w5.heap[w.heap.size]?=some (.cells (Ae m) 39 (0,0)):=by rw[hu,u.below.block _ hsz];exact gk
       have k5:w5.cell? ⟨w.heap.size,0,none⟩=some (.int .i64 m.kind):=by rw[cell_of_row _ _ _ _ _ _ g5,DB]
       clear hu u ne1 c5 gk hB
       cases y with
       | true=>
        go_wp2_with (first
         | go_skip
         | ((with_reducible refine Aw 35 _ rfl ?_);refine AH JT rfl _ rfl w.heap.size 40 rfl _ _ _ (hv hd) (by rw[EW,hHl];rfl) g5 hhea ?_)
         | ((with_reducible refine Cy 35 _ rfl ?_);refine Jv rfl rfl ?_))
        go_ret;rw[HR3.out];exact⟨by simp,HB5.out⟩
       | false=>
        go_wp2_with (first
         | go_skip
         | ((with_reducible refine Aw 35 _ rfl ?_);refine AH JT rfl _ rfl w.heap.size 40 rfl _ _ _ (hv hd) (by rw[EW,hHl];rfl) g5 hhea ?_)
         | ((with_reducible refine Cy 35 _ rfl ?_);refine Jv rfl rfl ?_)
         | (go_at_call 157;refine(CH4.out _).mono ?_;rintro e w6 ⟨rfl,hw6⟩;obtain rfl:=hw6.symm))
        go_ret;rw[HR3.out];exact⟨by simp,HB5.out⟩
      | false=>
       refine rL ?_;go_big_quiet_step (fail);refine JJ Es rfl _ rfl w.heap.size 14 rfl _ _ _ (cv V M) hcs (Ap gk) hcub ?_;simp only[pU];go_big_quiet_step (fail);refine JJ Es rfl _ rfl w.heap.size 14 rfl _ _ _ (cv V M) hcs (Ap gk) hcub ?_;simp only[pU];go_big_quiet_want;go_big_quiet_op;refine⟨_,fun u=>Calls.later_of (CC.out u.world),?_⟩;go_big_quiet_on
       iterate 3 (go_big_quiet_step (fail))
       refine JJ Es rfl _ rfl w.heap.size 14 rfl _ _ _ (cv V M) hcs (Ap gk) hcub ?_;simp only[pU]
       iterate 5 (go_big_quiet_step (fail))
       go_big_quiet_want;go_big_quiet_op;refine⟨_,fun u=>Calls.later_same16 (CH3.out u.world),?_⟩;go_big_quiet_on
       iterate 3 (go_big_quiet_step (fail))
       refine wpQuiet_nil ?_;rintro w5 ⟨u,hu⟩;have HB5:Hid (Below w.heap.size w w5):=by rw[hu];exact hB.trans (u.below.mono hB.size)
       have g5:w5.heap[w.heap.size]?=some (.cells (Ae m) 39 (0,0)):=by rw[hu,u.below.block _ hsz];exact gk
       have k5:w5.cell? ⟨w.heap.size,0,none⟩=some (.int .i64 m.kind):=by rw[cell_of_row _ _ _ _ _ _ g5,DB]
       clear hu u ne1 c5 gk hB;go_wp2_with fail;go_ret;rw[HR3.out];exact⟨rfl,HB5.out⟩
end
section
open Go.RowKit
theorem Ae4(k:Int)(v:Value)(L:List UInt8)(w:World)(hL:Br w v L):
  Calls aA 123 #[.int .i64 k,v] w fun e w'=> ∃u,e=.returned (.tuple #[u,.int .i64 (Fh k L).2])∧AB w.heap.size w' u (Fh k L).1∧Below w.heap.size w w':=by
 have HL:Hid (Br w v L):=hL;obtain⟨ov,cv,hv,hc1,hc2⟩:=hL.slice;subst hv;clear hL;obtain⟨n,hn⟩:=eX L.length;have HN:Hid (n=L.length):=hn;rw[←hn] at HL hc1 ⊢;clear hn;unfold maxLen at hc2;by_cases h0:0≤k
 ·by_cases h1:k≤255
  ·obtain⟨q,rfl⟩:∃q:Nat,k=q:=⟨k.toNat,by omega⟩;by_cases h2:n≤65535
   ·have HP:Hid (Fh q L=(H4 q L,0)):=by show _=_;unfold Fh;rw[if_pos ⟨h0,h1⟩,if_pos (by rw[←HN.out];exact h2)];simp
    have CP:Hid (∀W,Calls aA 121 #[.slice none 0 0,.int .u64 (n:Int),.int .i64 2] W fun e w'=> ∃u,e=.returned (.tuple #[u,.int .i64 0])∧AB W.heap.size w' u (Dd 2 n)∧Below W.heap.size W w'):=fun W=>by
     have:=WB (.slice none 0 0) [] n 2 W (Ao0 W) (by simp) (by omega);have e:Ie [] n 2=(Dd 2 n,0):=by unfold Ie;rw[if_pos (by rfl),if_pos (by simp;omega)];simp
     rw[e] at this;exact this
    have HF:Hid (Dd 2 n++[aL q]++L=H4 q L):=by show _=_;unfold H4;rw[HN.out];simp
    have hq:q%256=q:=Nat.mod_eq_of_lt (by omega);have HC:Hid ((q:Int)=((aL q).toNat:Int)):=by show _=_;rw[UInt8.toNat_ofNat'];omega
    have hn:¬(65535:Int)<(n:Int):=by omega
    clear hq;go_enter aQ,aP;go_wp2_with fail;refine(CP.out _).mono ?_;rintro e w1 ⟨u,rfl,ho1,hb1⟩;obtain⟨ou,nu,cu,rfl⟩:=Fw ho1.sl;have HO1:Hid (AB w.heap.size w1 (.slice ou nu cu) (Dd 2 n)):=ho1;have HB1:Hid (Below w.heap.size w w1):=hb1;have hz1:=hb1.size;clear ho1 hb1;go_wp2_with (at_builtin;refine Dk ?_);unfold E6
    have HS:Hid (Br (w1.alloc (.cells #[.int .u8 (q:Int)] 5)) (.slice (some ⟨w1.heap.size,0,none⟩) 1 1) [aL q]):=by
     have:=(Mz w1 (aL q)).sl;rw[←HC.out] at this;exact this
    have HO2:Hid (AB w.heap.size (w1.alloc (.cells #[.int .u8 (q:Int)] 5)) (.slice ou nu cu) (Dd 2 n)):=HO1.out.below ((aI _ _).alloc (aD _) _);have HB2:Hid (Below w.heap.size w (w1.alloc (.cells #[.int .u8 (q:Int)] 5))):=HB1.out.alloc hz1 _;refine H9 rfl _ _ rfl w.heap.size (.slice ou nu cu) _ (Dd 2 n) [aL q] rfl HO2.out rfl HS.out (by rw[GQ];simp) HB2.out.size ?_;intro v' w3 ho hgr _;obtain⟨o3,n3,c3,rfl⟩:=Fw ho.sl;have HO3:Hid (AB w.heap.size w3 (.slice o3 n3 c3) (Dd 2 n++[aL q])):=ho;have HB3:Hid (Below w.heap.size w w3):=HB2.out.grown hgr HB2.out.size fun q hq=>(HO2.out.ge q hq).1;have HL3:Hid (Br w3 (.slice ov n cv) L):=HL.out.below HB3.out;simp only[pU];clear ho hgr HO2 HB2 HS;go_wp2_with (at_builtin;refine Dk ?_);unfold E6;refine H9 rfl _ _ rfl w.heap.size (.slice o3 n3 c3) (.slice ov n cv) _ L rfl HO3.out rfl HL3.out (by rw[aJ,GQ, ←HN.out];simp;omega) HB3.out.size ?_;intro v4 w4 ho hgr _;have HO4:Hid (AB w.heap.size w4 v4 (H4 q L)):=by rw[←HF.out];exact ho
    have HB4:Hid (Below w.heap.size w w4):=HB3.out.grown hgr HB3.out.size fun q hq=>(HO3.out.ge q hq).1;simp only[pU];clear ho hgr;go_wp2_with fail;go_ret2;rw[HP.out];exact⟨_,rfl,HO4.out,HB4.out⟩
   ·have HP:Hid (Fh q L=([],5)):=by show _=_;unfold Fh;rw[if_pos ⟨h0,h1⟩,if_neg (by rw[←HN.out];exact h2)]
    have hn:(65535:Int)<(n:Int):=by omega
    go_enter aQ,aP;go_wp2_with fail;go_ret2;rw[HP.out];exact⟨_,rfl,AB.nil _ _,aI _ _⟩
  ·have HP:Hid (Fh k L=([],1)):=by show _=_;unfold Fh;rw[if_neg (fun h=>h1 h.2)]
   have hn:(255:Int)<k:=by omega
   go_enter aQ,aP;go_wp2_with fail;go_ret2;rw[HP.out];exact⟨_,rfl,AB.nil _ _,aI _ _⟩
 ·have HP:Hid (Fh k L=([],1)):=by show _=_;unfold Fh;rw[if_neg (fun h=>h0 h.1)]
  have hn:k<0:=by omega
  go_enter aQ,aP;go_wp2_with fail;go_ret2;rw[HP.out];exact⟨_,rfl,AB.nil _ _,aI _ _⟩
theorem KA{P:Program}{md:Region.Mode}{ops:Array Oper}{Q:Exit→Act→World→Prop}{S:World→Prop}{i:Nat}{oi:Oper}{v:Value}{fuel:Nat}{listed:Array Bool}{a:Act}{w:World}(d:Option Tmp)(hi:ops[i]?=some oi)(hd:oi.dst=d)
  (hs:Region.noSelect ops=true) (hf:Region.free md ops listed i=true) (hr:(Region.ready md ops listed).contains i=true)
  (hQ:∀c a w,Q (.panic c) (a.put oi.dst v) w→Q (.panic c) a w) (hy:YieldsIf P ops S oi v a) (hS:S w)
  (h:wpAnyH P md ops Q S fuel (listed.setIfInBounds i true) (a.put d v) w):wpAnyH P md ops Q S (fuel+1) listed a w:=by
 subst hd;exact wpAnyH_take hi hs hf hr hQ hy hS h
theorem Wo{V:List Int}(hV:AK V)(k:Nat)(hk:k<13):(Dr V)[k]?=some ((Dr V).getD k 0):=by
 rw[aK (by rw[D5,hV.1];exact hk),List.getD_eq_getElem?_getD,aK (by rw[D5,hV.1];exact hk)];rfl
theorem PR(L D:List UInt8)(k:Nat)(c:UInt8)(h:D[k]?=some c):L++D.take (k+1)=(L++D.take k)++[c]:=by
 rw[aZ,h];simp
theorem WC(v:Value)(L:List UInt8)(V M:List Int)(hV:AK V)(hM:AK M)(w:World)(hL:Br w v L)(hl:L.length≤140737488351232):
  Calls aA 120 #[v,.agg (cv V M)] w fun e w'=> ∃u,e=.returned u∧AB w.heap.size w' u (L++FW (AZ V M) M)∧Below w.heap.size w w':=by
 have HL:Hid (Br w v L):=hL;obtain⟨ov,nv,cx,rfl⟩:∃o n c,v=.slice o n c:=by obtain⟨o,c,h,_⟩:=hL.slice;exact⟨o,_,c,h⟩
 have hVl:=hV.1;have hMl:=hM.1;have CC:Hid (∀W,Calls aA 106 #[.agg (cv V M)] W fun e w'=>e=.returned (.agg (cv (AZ V M) M))∧Below W.heap.size W w'):=OQ V M hV hM;obtain⟨C,hCd⟩:∃C,C=AZ V M:=⟨_,rfl⟩;have hC:AK C:=by rw[hCd];exact D7 V M
 have hCl:=hC.1;rw[←hCd] at CC ⊢;clear hCd;have HC:Hid (AK C∧AK M):=⟨hC,hM⟩;have CB:Hid (∀W,Below w.heap.size w W→Calls aA 105 #[.slice ov nv cx] W fun e w'=> ∃u,e=.returned u∧AB W.heap.size w' u L∧Below W.heap.size W w'):=fun W hW=>Mm _ L W (HL.out.below hW) (by omega);have g0:=Ab w (.cells (cv V M) 37) _ rfl;have B0:Below w.heap.size w (w.alloc (.cells (cv V M) 37)):=(aI _ _).alloc (aD _) _;clear hL hV hM hC;go_enter Tryz.func120,Tryz.ntmps120;go_wp2_with (refine De rfl _ rfl w.heap.size rfl V M g0 hVl hMl ?_);refine(CC.out _).mono ?_;rintro e w1 ⟨rfl,hb1⟩;have g1:w1.heap[w.heap.size]?=some (.cells (cv V M) 37 (0,0)):=(hb1.block _ (by simp)).trans g0;have B1:Below w.heap.size w w1:=B0.trans (hb1.mono (by simp));clear g0 B0 hb1;have g2:=setRow_heap w1 w.heap.size _ (cv C M) _ _ g1;have B2:=Aj B1 (aD w.heap.size) (cv C M);go_wp2_with (refine BQ rfl _ _ rfl w.heap.size C M rfl rfl _ g1 (Bq V M hVl hMl) hCl hMl _ rfl ?_);refine(CB.out _ B2).mono ?_;rintro e w3 ⟨u,rfl,ho3,hb3⟩;have hs2:w.heap.size<(w1.setRow w.heap.size (cv C M)).heap.size:=(aC.1 g2).1;have g3:w3.heap[w.heap.size]?=some (.cells (cv C M) 37 (0,0)):=(hb3.block _ hs2).trans g2;have B3:Below w.heap.size w w3:=B2.trans (hb3.mono B2.size);have HO3:Hid (AB (w.heap.size+1) w3 u L):=ho3.base hs2
 clear ho3 hb3 g1 g2 B1 B2 hs2;obtain⟨o3,n3,c3,rfl⟩:=Fw HO3.out.sl;go_wp2_with fail;go_loopw [0,5] (fun b i W=> ∃k:Nat,k≤13∧i=.int .i64 k∧AB (w.heap.size+1) W b (L++(Dr C).take k)∧W.heap[w.heap.size]?=some (.cells (cv C M) 37 (0,0))∧Below w.heap.size w W) (fun _ i _=>13-(intOf i).toNat)
 case atStart=>exact⟨0,by omega,rfl,by simpa using HO3.out,g3,B3⟩
 case round=>
  clear g3 B3 HO3;obtain⟨k,hk,rfl,ho,gk,hb⟩:=hrel;obtain⟨ob,nb,cb,rfl⟩:=Fw ho.sl;have HO:Hid (AB (w.heap.size+1) wr (.slice ob nb cb) (L++(Dr C).take k)):=ho;have HB:Hid (Below w.heap.size w wr):=hb;have hsz:=(aC.1 gk).1;clear ho hb;by_cases hlt:k<13
  ·have cc:wr.cell? ⟨w.heap.size,k,none⟩=some (.int .u8 (C.getD k 0)):=by rw[cell_of_row wr _ _ _ _ _ gk];exact Lb C M hCl k hlt
   have e:=(Na HC.out.1 k hlt).2;obtain⟨x,hx⟩:∃x,x=(Dr C).getD k 0:=⟨_,rfl⟩;have HX:Hid ((Dr C)[k]?=some x):=by rw[hx];exact Wo HC.out.1 k hlt
   rw[←hx] at e;rw[←e] at cc;clear e hx;have HLN:Hid ((L++(Dr C).take k).length≤140737488351245):=by show _≤_;rw[aJ,aR];omega
   go_wp2_with (at_builtin;refine Dk ?_);unfold E6;have HS:Hid (Br (wr.alloc (.cells #[.int .u8 (x.toNat:Int)] 5)) (.slice (some ⟨wr.heap.size,0,none⟩) 1 1) [x]):=(Mz wr x).sl;have HO2:Hid (AB (w.heap.size+1) (wr.alloc (.cells #[.int .u8 (x.toNat:Int)] 5)) (.slice ob nb cb) (L++(Dr C).take k)):=HO.out.below ((aI _ _).alloc (aD _) _);have HB2:Hid (Below w.heap.size w (wr.alloc (.cells #[.int .u8 (x.toNat:Int)] 5))):=HB.out.alloc HB.out.size _;refine H9 rfl _ _ rfl (w.heap.size+1) (.slice ob nb cb) _ _ [x] rfl HO2.out rfl HS.out (by have:=HLN.out;simp only[aN,aV];omega) (by simp;omega) ?_;intro v' w' ho hgr _;have HO3:Hid (AB (w.heap.size+1) w' v' (L++(Dr C).take (k+1))):=by rw[PR L (Dr C) k x HX.out];exact ho
   have HB3:Hid (Below w.heap.size w w'):=HB2.out.grown hgr HB2.out.size fun q hq=>by have:=(HO2.out.ge q hq).1;omega
   have g4:w'.heap[w.heap.size]?=some (.cells (cv C M) 37 (0,0)):=by
    rw[hgr.block _ (by simp;omega) (fun e=>by have:=(HO2.out.ge _ e.symm).1;omega)];exact Ah _ _ _ _ gk
   simp only[aO,aB,aG,aH];clear ho hgr HO2 HB2 HS cc gk;go_wp2_with fail;go_roundw
   case rel=>exact⟨k+1,by omega,by go_num,HO3.out,g4,HB3.out⟩
   case measure=>simp[intOf];omega
  ·obtain rfl:k=13:=by omega
   have HO4:Hid (AB (w.heap.size+1) wr (.slice ob nb cb) (L++Dr C)):=by
    have:=HO.out;rw[aM (by rw[D5,hCl];exact aD _)] at this;exact this
   clear HO;go_wp2_with fail;go_loopw [0,6] (fun b i W=> ∃k:Nat,k≤13∧i=.int .i64 k∧AB (w.heap.size+1) W b ((L++Dr C)++(Dr M).take k)∧W.heap[w.heap.size]?=some (.cells (cv C M) 37 (0,0))∧Below w.heap.size w W) (fun _ i _=>13-(intOf i).toNat)
   case atStart=>exact⟨0,by omega,rfl,by simpa using HO4.out,gk,HB.out⟩
   case round=>
    clear gk HO4 HB hsz;obtain⟨k,hk,rfl,ho,gk,hb⟩:=hrel;obtain⟨od,nd,cd,rfl⟩:=Fw ho.sl;have HO:Hid (AB (w.heap.size+1) wr (.slice od nd cd) ((L++Dr C)++(Dr M).take k)):=ho;have HB:Hid (Below w.heap.size w wr):=hb;have hsz:=(aC.1 gk).1;clear ho hb;by_cases hlt:k<13
    ·have cc:wr.cell? ⟨w.heap.size,13+k,none⟩=some (.int .u8 (M.getD k 0)):=by rw[cell_of_row wr _ _ _ _ _ gk];exact G8 C M hCl hMl k hlt
     have e:=(Na HC.out.2 k hlt).2;obtain⟨x,hx⟩:∃x,x=(Dr M).getD k 0:=⟨_,rfl⟩;have HX:Hid ((Dr M)[k]?=some x):=by rw[hx];exact Wo HC.out.2 k hlt
     rw[←hx] at e;rw[←e] at cc;clear e hx;have HLN:Hid (((L++Dr C)++(Dr M).take k).length≤140737488351258):=by show _≤_;rw[aJ,aJ,aR,D5,hCl];omega
     go_wp2_with (at_builtin;refine Dk ?_);unfold E6;have HS:Hid (Br (wr.alloc (.cells #[.int .u8 (x.toNat:Int)] 5)) (.slice (some ⟨wr.heap.size,0,none⟩) 1 1) [x]):=(Mz wr x).sl;have HO2:Hid (AB (w.heap.size+1) (wr.alloc (.cells #[.int .u8 (x.toNat:Int)] 5)) (.slice od nd cd) ((L++Dr C)++(Dr M).take k)):=HO.out.below ((aI _ _).alloc (aD _) _);have HB2:Hid (Below w.heap.size w (wr.alloc (.cells #[.int .u8 (x.toNat:Int)] 5))):=HB.out.alloc HB.out.size _;refine H9 rfl _ _ rfl (w.heap.size+1) (.slice od nd cd) _ _ [x] rfl HO2.out rfl HS.out (by have:=HLN.out;simp only[aN,aV];omega) (by simp;omega) ?_;intro v' w' ho hgr _;have HO3:Hid (AB (w.heap.size+1) w' v' ((L++Dr C)++(Dr M).take (k+1))):=by rw[PR (L++Dr C) (Dr M) k x HX.out];exact ho
     have HB3:Hid (Below w.heap.size w w'):=HB2.out.grown hgr HB2.out.size fun q hq=>by have:=(HO2.out.ge q hq).1;omega
     have g4:w'.heap[w.heap.size]?=some (.cells (cv C M) 37 (0,0)):=by
      rw[hgr.block _ (by simp;omega) (fun e=>by have:=(HO2.out.ge _ e.symm).1;omega)];exact Ah _ _ _ _ gk
     simp only[aO,aB,aG,aH];clear ho hgr HO2 HB2 HS cc gk;go_wp2_with fail;go_roundw
     case rel=>exact⟨k+1,by omega,by go_num,HO3.out,g4,HB3.out⟩
     case measure=>simp[intOf];omega
    ·obtain rfl:k=13:=by omega
     have HO4:Hid (AB w.heap.size wr (.slice od nd cd) (L++FW C M)):=by
      have:=HO.out.base (Nat.le_succ w.heap.size);rw[aM (by rw[D5,hMl];exact aD _),List.append_assoc] at this;exact this
     go_wp2_with fail;go_ret;exact⟨_,rfl,HO4.out,HB.out⟩
end
section
open Go.Lib Go.RowKit
theorem Ag3{m:An}{l:List Nat}{p j:Nat}(hj:l[p]?=some j):(l.take (p+1)).flatMap (Bt m)=(l.take p).flatMap (Bt m)++Bt m j:=by
 rw[aZ,hj,List.flatMap_append];simp
theorem Abt{m:An}(hm:BB m)(p:Nat):(((AQ m.kind).take p).flatMap (Bt m)).length≤208:=by
 rw[Pw hm];exact Adl m.kind p
theorem Apj(x:Nat)(hx:x<9223372036854775808)(w:World):(convert 3 127 (.int .i64 (x:Int))).run aA w=.ok (.int .u64 (x:Int)) w:=by
 simp[convert,run_underlying Tryz.underlying3,run_underlying Tryz.underlying127,go_sem];rw[IntKind.wrap_u64];omega
theorem Aaq(m:An)(hm:BB m)(w:World):Calls aA 78 #[.agg (Ae m)] w fun e w'=> ∃u,e=.returned (.tuple #[u,.int .i64 (FM m).2])∧AB w.heap.size w' u (FM m).1∧Below w.heap.size w w':=by
 obtain⟨w1,hw1⟩:∃w1,w1=w.alloc (.cells (Ae m) 39):=⟨_,rfl⟩;have g1:w1.heap[w.heap.size]?=some (.cells (Ae m) 39 (0,0)):=by rw[hw1];exact Ab _ _ _ rfl
 have B1:Below w.heap.size w w1:=by rw[hw1];exact(aI _ _).alloc (aD _) _
 have hs1:=(aC.1 g1).1;have g10:(w.alloc (.cells (Ae m) 39)).heap[w.heap.size]?=some (.cells (Ae m) 39 (0,0)):=Ab _ _ _ rfl;have hms:=BG hm;have CR:Hid (∀W,Calls aA 119 #[.agg (Ae m)] W fun e w'=>e=.returned (.bool (Ca m))∧Below W.heap.size W w'):=WK m hm;by_cases hr:Ca m=true
 ·have HE:Hid (FM m=(Fb m,0)):=by show _=_;unfold FM;rw[if_pos hr]
  have HSL:Hid (Fh m.kind (G5 m)=(Fb m,0)):=Adv hm hr;have HRI:Hid (Xw m):=Ai1 hm hr
  have HCU:Hid (AZ m.cube.1 m.cube.2=m.cube.1):=by
   have:=((GI m).1 hr).2.2.1;unfold F7 at this;exact(beq_iff_eq.1 this).symm
  have CF:Hid (∀W,Calls aA 66 #[.int .i64 m.kind] W fun e w'=>e=.returned (.string (DI m.kind))∧w'=W):=fun W=>IOx m.kind W;have HIX:Hid (∀(i j:Nat),(AQ m.kind)[i]?=some j→∀W,(Instr.index 9 (.string (DI m.kind)) (.int .i64 (i:Int))).run aA W=.ok (.int .u8 ((DY j:Nat):Int)) W):=fun i j h W=>Abc h W;obtain⟨s,hs⟩:∃s,s=DI m.kind:=⟨_,rfl⟩;obtain⟨n,hn⟩:∃n,n=(AQ m.kind).length:=⟨_,rfl⟩;have HN:Hid (n=(AQ m.kind).length):=hn;have hsz:s.size=n:=by rw[hs,hn,LM]
  have hn8:n≤8:=by rw[hn];exact MF m.kind
  rw[←hs] at CF HIX;rw[hr] at CR;clear hs hn hr;go_enter Tryz.func78,Tryz.ntmps78;go_wp2_with ((with_reducible refine Aw 39 _ rfl ?_);refine AH BD rfl _ rfl w.heap.size 0 rfl _ _ _ (Ae m) hms g10 (Ar _ _) ?_);rw[←hw1];clear hw1 g10;refine(CR.out _).mono ?_;rintro e w2 ⟨rfl,hb2⟩;have g2:w2.heap[w.heap.size]?=some (.cells (Ae m) 39 (0,0)):=(hb2.block _ hs1).trans g1;have B2:Below w.heap.size w w2:=B1.trans (hb2.mono B1.size);have hs2:=(aC.1 g2).1;have c2:w2.cell? ⟨w.heap.size,0,none⟩=some (.int .i64 m.kind):=by rw[cell_of_row _ _ _ _ _ _ g2,DB]
  clear hb2 g1 B1 hs1;go_wp2_with (go_at_call 66;refine(CF.out _).mono ?_;rintro e w3 ⟨rfl,hw3⟩;obtain rfl:=hw3.symm);have HO0:Hid (AB (w.heap.size+1) (w2.alloc (.cells #[] 5)) (.slice (some ⟨w2.heap.size,0,none⟩) 0 0) []):=(OS w2).base hs2;have HG0:Hid ((w2.alloc (.cells #[] 5)).heap[w.heap.size]?=some (.cells (Ae m) 39 (0,0))):=Ah _ _ _ _ g2;have HB0:Hid (Below w.heap.size w (w2.alloc (.cells #[] 5))):=B2.alloc B2.size _;clear c2;go_loopw [5,6] (fun b i W=> ∃p:Nat,p≤n∧i=.int .i64 (p:Int)∧AB (w.heap.size+1) W b (((AQ m.kind).take p).flatMap (Bt m))∧W.heap[w.heap.size]?=some (.cells (Ae m) 39 (0,0))∧Below w.heap.size w W) (fun _ i _=>n-(intOf i).toNat)
  case atStart=>exact⟨0,Nat.zero_le _,rfl,HO0.out,HG0.out,HB0.out⟩
  case round=>
   clear HO0 HG0 HB0 g2 B2 hs2;obtain⟨p,hp,rfl,hO,gk,hB⟩:=hrel;obtain⟨ob,nb,cb,rfl⟩:=Fw hO.sl;have HO:Hid (AB (w.heap.size+1) wr (.slice ob nb cb) (((AQ m.kind).take p).flatMap (Bt m))):=hO;have HB:Hid (Below w.heap.size w wr):=hB;have hs3:=(aC.1 gk).1;have HLN:Hid ((((AQ m.kind).take p).flatMap (Bt m)).length≤208):=Abt hm p;clear hO hB;by_cases hlt:p<n
   ·obtain⟨j,hj⟩:∃j,(AQ m.kind)[p]?=some j:=⟨_,aK (by rw[←HN.out];exact hlt)⟩;have hix:=HIX.out p j hj;have hj15:=MG m.kind j (List.mem_of_getElem? hj);have h13:(((DY j:Nat):Int)==67)=decide (j=13):=Ka (j:=13) hj15 (by decide);have h14:(((DY j:Nat):Int)==72)=decide (j=14):=Ka (j:=14) hj15 (by decide);have HS:Hid (((AQ m.kind).take (p+1)).flatMap (Bt m)=((AQ m.kind).take p).flatMap (Bt m)++Bt m j):=Ag3 hj;obtain⟨L,hL⟩:∃L,L=((AQ m.kind).take p).flatMap (Bt m):=⟨_,rfl⟩;rw[←hL] at HO HLN HS;clear hL hj;by_cases e13:j=13
    ·rw[decide_eq_true e13] at h13;have HS2:Hid (((AQ m.kind).take (p+1)).flatMap (Bt m)=L++FW m.cube.1 m.cube.2):=by show _=_;rw[HS.out,e13];rfl
     have CC:Hid (∀W,Br W (.slice ob nb cb) L→Calls aA 120 #[.slice ob nb cb,.agg (cv m.cube.1 m.cube.2)] W fun e w'=> ∃u,e=.returned u∧AB W.heap.size w' u (L++FW m.cube.1 m.cube.2)∧Below W.heap.size W w'):=fun W hW=>by
      have:=WC (.slice ob nb cb) L m.cube.1 m.cube.2 hm.2.1 hm.2.2.1 W hW (by have:=HLN.out;omega);rw[HCU.out] at this;exact this
     clear e13 h14;go_wp2_with ((with_reducible refine Aw 37 _ rfl ?_);refine AH Es rfl _ rfl w.heap.size 14 rfl _ _ _ (cv m.cube.1 m.cube.2) (Bq _ _ hm.2.1.1 hm.2.2.1.1) gk (Kq hm) ?_);refine(CC.out _ HO.out.sl).mono ?_;rintro e w5 ⟨u,rfl,hO5,hb5⟩;have HO5:Hid (AB (w.heap.size+1) w5 u (((AQ m.kind).take (p+1)).flatMap (Bt m))):=by show AB _ _ _ _;rw[HS2.out];exact hO5.base hs3
     have HG5:Hid (w5.heap[w.heap.size]?=some (.cells (Ae m) 39 (0,0))):=(hb5.block _ hs3).trans gk;have HB5:Hid (Below w.heap.size w w5):=HB.out.trans (hb5.mono HB.out.size);clear hO5 hb5;go_wp2_with fail;go_roundw
     case rel=>exact⟨p+1,by omega,by go_num,HO5.out,HG5.out,HB5.out⟩
     case measure=>simp[intOf];omega
    ·rw[decide_eq_false e13] at h13;by_cases e14:j=14
     ·rw[decide_eq_true e14] at h14;have HS2:Hid (((AQ m.kind).take (p+1)).flatMap (Bt m)=L++Dr m.head):=by show _=_;rw[HS.out,e14];rfl
      have HD:Hid (AK m.head):=hm.2.2.2;obtain⟨wo,hwo⟩:∃wo:World,wo=wr:=⟨_,rfl⟩;rw[←hwo] at HO HB gk hs3 ⊢;clear hwo e13 e14;go_wp2_with fail;go_loopw [5,7] (fun b i W=> ∃q:Nat,q≤13∧i=.int .i64 (q:Int)∧AB (w.heap.size+1) W b (L++(Dr m.head).take q)∧W.heap[w.heap.size]?=some (.cells (Ae m) 39 (0,0))∧Below w.heap.size w W) (fun _ i _=>13-(intOf i).toNat)
      case atStart=>exact⟨0,by omega,rfl,by simpa using HO.out,gk,HB.out⟩
      case round=>
       clear HO HB gk hs3;obtain⟨q,hq,rfl,hO,gk,hB⟩:=hrel;obtain⟨od,nd,cd,rfl⟩:=Fw hO.sl;have HO:Hid (AB (w.heap.size+1) wr (.slice od nd cd) (L++(Dr m.head).take q)):=hO;have HB:Hid (Below w.heap.size w wr):=hB;have hs3:=(aC.1 gk).1;clear hO hB;by_cases hlq:q<13
       ·have cc:wr.cell? ⟨w.heap.size,40+q,none⟩=some (.int .u8 (m.head.getD q 0)):=by
         rw[cell_of_row wr _ _ _ _ _ gk,Lr hm q hlq,K5 _ HD.out.1 q hlq]
        have e:=(Na HD.out q hlq).2;obtain⟨x,hx⟩:∃x,x=(Dr m.head).getD q 0:=⟨_,rfl⟩;have HX:Hid ((Dr m.head)[q]?=some x):=by rw[hx];exact Wo HD.out q hlq
        rw[←hx] at e;rw[←e] at cc;clear e hx;have HL2:Hid ((L++(Dr m.head).take q).length≤300):=by show _≤_;have:=HLN.out;rw[aJ,aR];omega
        go_wp2_with (at_builtin;refine Dk ?_);unfold E6;have HS1:Hid (Br (wr.alloc (.cells #[.int .u8 (x.toNat:Int)] 5)) (.slice (some ⟨wr.heap.size,0,none⟩) 1 1) [x]):=(Mz wr x).sl;have HO2:Hid (AB (w.heap.size+1) (wr.alloc (.cells #[.int .u8 (x.toNat:Int)] 5)) (.slice od nd cd) (L++(Dr m.head).take q)):=HO.out.below ((aI _ _).alloc (aD _) _);have HB2:Hid (Below w.heap.size w (wr.alloc (.cells #[.int .u8 (x.toNat:Int)] 5))):=HB.out.alloc HB.out.size _;refine H9 rfl _ _ rfl (w.heap.size+1) (.slice od nd cd) _ _ [x] rfl HO2.out rfl HS1.out (by have:=HL2.out;simp only[aN,aV];omega) (by simp;omega) ?_;intro v' w' ho hgr _;have HO3:Hid (AB (w.heap.size+1) w' v' (L++(Dr m.head).take (q+1))):=by show AB _ _ _ _;rw[PR L (Dr m.head) q x HX.out];exact ho
        have HB3:Hid (Below w.heap.size w w'):=HB2.out.grown hgr HB2.out.size fun y hy=>by have:=(HO2.out.ge y hy).1;omega
        have g4:w'.heap[w.heap.size]?=some (.cells (Ae m) 39 (0,0)):=by
         rw[hgr.block _ (by simp;omega) (fun e=>by have:=(HO2.out.ge _ e.symm).1;omega)];exact Ah _ _ _ _ gk
        simp only[aO,aB,aG,aH];clear ho hgr HO2 HB2 HS1 cc gk;go_wp2_with fail;go_roundw
        case rel=>exact⟨q+1,by omega,by go_num,HO3.out,g4,HB3.out⟩
        case measure=>simp[intOf];omega
       ·obtain rfl:q=13:=by omega
        have HO5:Hid (AB (w.heap.size+1) wr (.slice od nd cd) (((AQ m.kind).take (p+1)).flatMap (Bt m))):=by
         have:=HO.out;rw[aM (by rw[D5,HD.out.1];exact aD _)] at this;show AB _ _ _ _;rw[HS2.out];exact this
        go_wp2_with fail;go_roundw
        case rel=>exact⟨p+1,by omega,by go_num,HO5.out,gk,HB.out⟩
        case measure=>simp[intOf];omega
     ·rw[decide_eq_false e14] at h14;have hj13:j<13:=by omega
      have hx:=HRI.out.2 j hj13;obtain⟨x,hxx⟩:∃x:Nat,Ad m j=x:=⟨(Ad m j).toNat,by omega⟩;have hx2:x<281474976710656:=by omega
      have HS2:Hid (((AQ m.kind).take (p+1)).flatMap (Bt m)=L++Dd 6 x):=by
       show _=_;rw[HS.out];unfold Bt;rw[if_neg e13,if_neg e14,hxx];rfl
      obtain⟨q,hq⟩:∃q:Int,q=((DY j:Nat):Int):=⟨_,rfl⟩;have CG:Hid (∀W,Calls aA 122 #[.agg (Ae m),.int .u8 q] W fun e w'=>e=.returned (.int .i64 (x:Int))∧Below W.heap.size W w'):=fun W=>by rw[hq, ←hxx];exact SL m hm j hj13 W
      have CP:Hid (∀W,Br W (.slice ob nb cb) L→Calls aA 121 #[.slice ob nb cb,.int .u64 (x:Int),.int .i64 6] W fun e w'=> ∃u,e=.returned (.tuple #[u,.int .i64 0])∧AB W.heap.size w' u (L++Dd 6 x)∧Below W.heap.size W w'):=fun W hW=>by
       have hq:Ie L x 6=(L++Dd 6 x,0):=by
        unfold Ie;rw[if_pos (by decide),if_pos (by show x<256 ^ 6;omega)];rfl
       have:=WB (.slice ob nb cb) L x 6 W hW (by have:=HLN.out;omega) (by omega);rw[hq] at this;exact this
      rw[←hq] at hix h13 h14;clear hq hxx hx e13 e14 HS;go_wp2_with fail;have ne1:=Am.ne wr;refine EZ (fun a a' w'=> ∃u y44 y45 y46 y47 y48 y49 y50 y51 y52 y53 y54,a'=((((((((((((a.put (some 45) y45).put (some 46) y46).put (some 47) y47).put (some 48) y48).put (some 49) y49).put (some 50) y50).put (some 51) y51).put (some 52) y52).put (some 44) y44).put (some 53) y53).put (some 54) y54).put (some 5) u)∧AB (w.heap.size+1) w' u (L++Dd 6 x)∧Below wr.heap.size wr w') ?_ ?_
      ·refine Jj 12 rfl (by kernel_rfl) ?_;refine rE 0 4 8 ⟨⟨wr.drew,(aI _ _).drew⟩,rfl⟩ ?_;simp only[bD,aY,bE];go_big_quiet_step (fail);refine JJ BD rfl _ rfl w.heap.size 0 rfl _ _ _ (Ae m) hms (Ap gk) (Ar _ _) ?_;simp only[aO,aB,aG,aH];go_big_quiet_step (fail);go_big_quiet_step (fail);refine wpQuiet_nil ?_;refine KA (i:=4) (v:=.int .u8 q) (some 49) rfl rfl (by kernel_rfl) (by kernel_rfl) (by kernel_rfl) (fun c a w h=>absurd h.1 (by simp)) (.inl ⟨rfl,fun w _=>by simp[execOp,Act.eval,hix]⟩) ⟨⟨wr.drew,(aI _ _).drew⟩,rfl⟩ ?_;simp only[aO,aB,aG,aH];refine rO 5 ?_;refine Bm rfl rfl 122 #[.tmp 46,.tmp 49] (by intro b w;have hf:=Tryz.func122;simp[go_sem]) #[.agg (Ae m),.int .u8 q] rfl (fun v w'=>v=.int .i64 (x:Int)∧Below wr.heap.size wr w') ((CG.out _).mono fun e w' ⟨h1,h3⟩=>⟨_,h1,rfl,((aI _ _).drew).trans h3⟩) (some 50) rfl ?_;rintro z w4 ⟨rfl,hb4⟩;refine⟨⟨⟨w4,hb4⟩,rfl⟩,?_⟩;simp only[aO,aB,aG,aH]
       refine KA (i:=6) (v:=.int .u64 (x:Int)) (some 51) rfl rfl (by kernel_rfl) (by kernel_rfl) (by kernel_rfl) (fun c a w h=>absurd h.1 (by simp)) (.inl ⟨rfl,fun w _=>by simp[execOp,Act.eval,Apj x (by omega)]⟩) ⟨⟨w4,hb4⟩,rfl⟩ ?_;simp only[aO,aB,aG,aH];refine rO 7 ?_;refine Bm rfl rfl 121 #[.tmp 45,.tmp 51,.const (.int .i64 6)] (by intro b w;have hf:=Tryz.func121;simp[go_sem]) #[.slice ob nb cb,.int .u64 (x:Int),.int .i64 6] rfl (fun v w'=> ∃u,v=.tuple #[u,.int .i64 0]∧AB (w.heap.size+1) w' u (L++Dd 6 x)∧Below wr.heap.size wr w') ((CP.out w4 (HO.out.sl.below hb4)).mono fun e w' ⟨v,h1,h2,h3⟩=>⟨_,h1,v,rfl,h2.base (Nat.le_trans hs3 hb4.size),hb4.trans (h3.mono hb4.size)⟩) (some 52) rfl ?_;rintro z5 w5 ⟨u5,rfl,ho5,hb5⟩;refine⟨⟨⟨w5,hb5⟩,rfl⟩,?_⟩;simp only[aO,aB,aG,aH];refine rE 8 4 0 ⟨⟨w5,hb5⟩,rfl⟩ ?_;simp only[List.drop_succ_cons,bD,aY,bE]
       iterate 4 (go_big_quiet_step (fail))
       refine wpQuiet_nil ?_;refine wpAnyH_done (by kernel_rfl) ?_ _;exact⟨rfl,_,_,_,_,_,_,_,_,_,_,_,_,rfl,ho5,hb5⟩
      rintro a' w5 ⟨u5,y44,y45,y46,y47,y48,y49,y50,y51,y52,y53,y54,rfl,ho5,hb5⟩;have HO5:Hid (AB (w.heap.size+1) w5 u5 (((AQ m.kind).take (p+1)).flatMap (Bt m))):=by show AB _ _ _ _;rw[HS2.out];exact ho5
      have HG5:Hid (w5.heap[w.heap.size]?=some (.cells (Ae m) 39 (0,0))):=(hb5.block _ hs3).trans gk;have HB5:Hid (Below w.heap.size w w5):=HB.out.trans (hb5.mono HB.out.size);clear ho5 hb5;simp only[aO,aB,aG,aH];go_wp2_with fail;go_roundw
      case rel=>exact⟨p+1,by omega,by go_num,HO5.out,HG5.out,HB5.out⟩
      case measure=>simp[intOf];omega
   ·obtain rfl:p=n:=by omega
    have HOb:Hid (AB (w.heap.size+1) wr (.slice ob nb cb) (G5 m)):=by
     have:=HO.out;rw[HN.out,List.take_length] at this;exact this
    have c3:wr.cell? ⟨w.heap.size,0,none⟩=some (.int .i64 m.kind):=by rw[cell_of_row _ _ _ _ _ _ gk,DB]
    have CS:Hid (∀W,Br W (.slice ob nb cb) (G5 m)→Calls aA 123 #[.int .i64 m.kind,.slice ob nb cb] W fun e w'=> ∃u,e=.returned (.tuple #[u,.int .i64 0])∧AB W.heap.size w' u (Fb m)∧Below W.heap.size W w'):=fun W hW=>by
     have:=Ae4 m.kind (.slice ob nb cb) (G5 m) W hW;rw[HSL.out] at this;exact this
    clear HO HLN;go_wp2_with fail;refine(CS.out _ HOb.out.sl).mono ?_;rintro e w5 ⟨u,rfl,hO5,hb5⟩;have HO5:Hid (AB w.heap.size w5 u (Fb m)):=hO5.base HB.out.size;have HB5:Hid (Below w.heap.size w w5):=HB.out.trans (hb5.mono HB.out.size);clear hO5 hb5;go_wp2_with fail;go_ret2;rw[HE.out];exact⟨_,rfl,HO5.out,HB5.out⟩
 ·have hr':Ca m=false:=by simpa using hr
  have HE:Hid (FM m=([],12)):=by show _=_;unfold FM;rw[if_neg hr]
  rw[hr'] at CR;go_enter Tryz.func78,Tryz.ntmps78;go_wp2_with ((with_reducible refine Aw 39 _ rfl ?_);refine AH BD rfl _ rfl w.heap.size 0 rfl _ _ _ (Ae m) hms g10 (Ar _ _) ?_);rw[←hw1];clear hw1 g10;refine(CR.out _).mono ?_;rintro e w2 ⟨rfl,hb2⟩;have HB2:Hid (Below w.heap.size w w2):=B1.trans (hb2.mono B1.size);clear hb2;go_wp2_with fail;go_ret2;rw[HE.out];exact⟨_,rfl,AB.nil _ _,HB2.out⟩
end
section
open Go.RowKit
theorem Mt(m:An)(hm:BB m)(w:World):Calls aA 33 #[.agg (Ae m)] w fun e w'=>e=.returned (.string ⟨(FM m).1.toArray⟩)∧Below w.heap.size w w':=by
 have g10:(w.alloc (.cells (Ae m) 39)).heap[w.heap.size]?=some (.cells (Ae m) 39 (0,0)):=Ab _ _ _ rfl;have B1:Hid (Below w.heap.size w (w.alloc (.cells (Ae m) 39))):=(aI _ _).alloc (aD _) _;have hms:=BG hm;have CE:=Aaq m hm (w.alloc (.cells (Ae m) 39));obtain⟨bs,hbs⟩:=eX ((FM m).1);obtain⟨er,her⟩:=eX ((FM m).2);rw[←hbs, ←her] at CE;rw[←hbs];clear hbs her;go_enter Tryz.func33,Tryz.ntmps33
 go_wp2_with (first
  | ((with_reducible refine Aw 39 _ rfl ?_);refine AH BD rfl _ rfl w.heap.size 0 rfl _ _ _ (Ae m) hms g10 (Ar _ _) ?_)
  | (go_at_call 78;refine CE.mono ?_;rintro e w1 ⟨u,rfl,hu,hb1⟩;refine SW ?_))
 unfold Uz;have HB:Hid _:=B1.out.trans (hb1.mono B1.out.size);have hc:=Wz w1 u bs hu.sl;clear hu hb1 g10 CE hm hms;go_wp2_with fail;go_ret;exact⟨rfl,HB.out⟩
def Dw(x:CJ):List UInt8:=if x.raw=[] then (FM x.msg).1 else x.raw
theorem Mr{m:An}(h:BB m):(FM m).1.length≤1000:=by
 unfold FM;split
 ·show(H4 m.kind.toNat (G5 m)).length≤_;rw[Aho];have h1:(G5 m).length=Hc m.kind:=Pw h _;have:=TY m.kind;omega
 ·decide
theorem Lc(x:CJ):(Dw x).length≤140737488355328:=by
 unfold Dw;split
 ·have:=Mr x.hm;omega
 ·have:=x.hr;omega
theorem NY(x:CJ)(w:World):Calls aA 15 #[.agg (AO x)] w fun e w'=>e=.returned (.string ⟨(Dw x).toArray⟩)∧Below w.heap.size w w':=by
 have g10:(w.alloc (.cells (AO x) 41)).heap[w.heap.size]?=some (.cells (AO x) 41 (0,0)):=Ab _ _ _ rfl;have B1:Hid (Below w.heap.size w (w.alloc (.cells (AO x) 41))):=(aI _ _).alloc (aD _) _;have c70:(w.alloc (.cells (AO x) 41)).cell? ⟨w.heap.size,70,none⟩=some (.string ⟨x.raw.toArray⟩):=by rw[cell_of_row _ _ _ _ _ _ g10,Apt]
 have hms:=BG x.hm;have CD:=Mt x.msg x.hm (w.alloc (.cells (AO x) 41));have f5:=Apu x;by_cases hr:x.raw=[]
 ·rw[hr] at c70;have HE:Hid (Dw x=(FM x.msg).1):=by show _=_;unfold Dw;rw[if_pos hr]
  clear hr;obtain⟨bs,hbs⟩:=eX ((FM x.msg).1);rw[←hbs] at CD HE;clear hbs;go_enter Tryz.func15,Tryz.ntmps15
  go_wp2_with (first
   | ((with_reducible refine Aw 39 _ rfl ?_);refine AH BD rfl _ rfl w.heap.size 17 rfl _ _ _ (Ae x.msg) hms g10 f5 ?_)
   | (go_at_call 33;refine CD.mono ?_;rintro e w1 ⟨rfl,hb1⟩))
  go_ret;exact⟨by rw[HE.out];rfl,B1.out.trans (hb1.mono B1.out.size)⟩
 ·have HE:Hid (Dw x=x.raw):=by show _=_;unfold Dw;rw[if_neg hr]
  obtain⟨rw_,hrw⟩:∃r,r=x.raw:=⟨_,rfl⟩;rw[←hrw] at c70 hr HE
  have hne:rw_.isEmpty=false:=by cases rw_ with
   | nil=>exact absurd rfl hr
   | cons _ _=>rfl
  clear hr hrw;go_enter Tryz.func15,Tryz.ntmps15;go_wp2_with fail;go_ret;exact⟨by rw[HE.out];rfl,B1.out⟩
theorem Xv{R:Rm}:∀(L:List AN) {N:Nat} {n:Af Aq},Az N R n→Az (N+L.length) R (L.foldl (fun n x=>Eb n x.index 5) n)
 | [],_,_,h=>h
 | x::L,N,n,h=>by
  have:=Xv L (EJ h {FB with kind:=6,index:=x.index,why:=5})
  rw[show N+1+L.length=N+(x::L).length by rw[aN];omega] at this
  exact this
theorem Aji{R:Rm}{N:Nat}{n:Af Aq}(h:Az N R n):Az (N+65) R (Fr n):=by
 have h1:=Xv n.wait.l h;have h2:=h.wait.len;have h3:=h.last;have h4:=h1.le (show N+n.wait.l.length≤N+64 by omega);exact(Kt (w:=Ij n.wait) h4 (Agg h.wait) (fun x hx=>absurd hx (aT)) (by show n.wait.last≤_;omega))
def Fq(R:Rm)(n:Af Aq)(x:CJ):Af Aq:=
 if x.kind=1 then Cl (Al R) n x.index x.head x.now else if x.kind=2 then DC (Al R) n x.src (Dw x) x.now else if x.kind=3 then Ct (Al R) n x.now else if x.kind=4 then Fr n else n
theorem Aqr{R:Rm}{N:Nat}{n:Af Aq}(h:Az N R n)(x:CJ):Az (N+300) R (Fq R n x):=by
 unfold Fq;split
 ·exact(Qj h x.index x.hh x.now).le (by omega)
 ·split
  ·exact(Nz h _ _ _).le (by omega)
  ·split
   ·exact An8 h x.now
   ·split
    ·exact(Aji h).le (by omega)
    ·exact h.le (by omega)
structure II(n n':Af Aq):Prop where
 num:n'.num=n.num
 life:n'.hold.life=n.hold.life
 lease:n'.lease=n.lease
 beat:n'.beat=n.beat
 cache:n'.cache=n.cache
theorem II.refl(n:Af Aq):II n n:=⟨rfl,rfl,rfl,rfl,rfl⟩
theorem II.trans{a b c:Af Aq}(h:II a b)(k:II b c):II a c:=⟨k.num.trans h.num,k.life.trans h.life,k.lease.trans h.lease,k.beat.trans h.beat,k.cache.trans h.cache⟩
theorem Fi.par{n n':Af Aq}(h:Fi n n'):II n n':=⟨h.num,by rw[h.hold],h.lease,h.beat,h.cache⟩
theorem Abh(R:Rm)(n:Af Aq)(index:Int)(hd:List Int)(now:Int):II n (Cl (Al R) n index hd now):=by
 unfold Cl;split
 ·split
  ·rename_i t s _;split
   ·split;rename_i w seq e _;split
    ·have:=EY (Db (AX n t) w) seq index hd 1 s;exact⟨this.num,by rw[this.hold];rfl,this.lease,this.beat,this.cache⟩
    ·exact⟨rfl,rfl,rfl,rfl,rfl⟩
   ·exact⟨rfl,rfl,rfl,rfl,rfl⟩
  ·exact⟨rfl,rfl,rfl,rfl,rfl⟩
 ·exact⟨rfl,rfl,rfl,rfl,rfl⟩
theorem Ahf{R:Rm}{N:Nat}{n:Af Aq}(h:Az N R n)(src:Int)(data:List UInt8)(now:Int):II n (DC (Al R) n src data now):=by
 rcases PQ (O:=Al R) n src data now with ⟨h1,_⟩ | ⟨m,h1,h2,h3,h4,h5,h6,h7,h8,h9,h10⟩
 ·exact h1.par
 ·obtain⟨_,hn,_⟩:=Lv h1;refine⟨h4,?_,h5,h6,h7⟩;rcases h10 with ⟨_,e⟩ | ⟨_,e⟩
  ·rw[e,(Pg h.hold (Ad m 2) (Ad m 1) (Ad m 3) (Ad m 4) (hn 2).2 (hn 1).2 (hn 4).2).2]
  ·rw[e,(Pf h.hold (Ad m 9) (Ad m 10) (Ad m 2) (hn 9).2 (hn 2).2).2]
theorem Apf{R:Rm}{N:Nat}{n:Af Aq}(h:Az N R n)(x:CJ):II n (Fq R n x):=by
 unfold Fq;split
 ·exact Abh R n _ _ _
 ·split
  ·exact Ahf h _ _ _
  ·split
   ·exact(LK n x.now).2.par
   ·split
    ·exact(Pt n).2.par
    ·exact II.refl n
theorem Ot{s:IP}{num inc:Int}(h:Lz s num inc):Az 0 (KK s.ca s.ro s.pa s.idl s.hd) (NW num inc s.le s.be s.ca (⟨[],[],[]⟩:Aq) ⟨s.wa,s.tr,s.ti,[],0⟩):=by
 obtain⟨hr,h1,h2,h3,h4⟩:=h;obtain⟨r1,r2,r3⟩:=Io hr;refine⟨Aj8 _,?_,fun x hx=>absurd hx (aT),Afv ⟨by omega,h4⟩,Amp (show WV s.wa s.tr s.ti=some _ from if_pos r2),fun x hx=>absurd hx (aT),⟨by show(0:Int)≤0;decide,by show(0:Int)≤_;decide⟩,aD 0,aD 0,aD 0,?_⟩
 all_goals unfold OkR at r1
 ·unfold KK;dsimp only;omega
 ·show s.ca=_;unfold KK;dsimp only;omega
end
end Go.Proofs.YtbhkoipcpcoooaaGreat
