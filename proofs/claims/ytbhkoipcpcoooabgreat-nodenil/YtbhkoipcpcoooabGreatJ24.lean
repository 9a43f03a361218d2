import Derived.Test.YtbhkoipcpcoooabGreatJ23
import Derived.Test.YtbhkoipcpcoooabGreatJ14
import Derived.Test.YtbhkoipcpcoooabGreatJ2
import Derived.Test.YtbhkoipcpcoooabGreatJ3
import Derived.Test.YtbhkoipcpcoooabGreatJ22
import Derived.Test.YtbhkoipcpcoooabGreatJ18
import Derived.Test.YtbhkoipcpcoooabGreatJ16
import Derived.Test.YtbhkoipcpcoooabGreatJ9
namespace Go.Proofs.YtbhkoipcpcoooabGreat
set_option maxRecDepth 20000
set_option maxHeartbeats 64000000
open Go
open Go.Proofs.Tryz renaming prog → aA, ntmps66 → aQ, func66 → aW
open _root_.List renaming setIfInBounds_toArray → aB, set_cons_succ → aG, set_cons_zero → aH, length_append → aJ, getElem?_eq_getElem → aK, take_of_length_le → aM, all_eq_true → aN, range → aP, length_take → aR, length_cons → aT, length_nil → aV, mem_range → aX, take_succ_cons → aZ, take_add_one → bA, not_mem_nil → bB, drop_zero → bD, take_zero → bE
open _root_.Array renaming getElem?_eq_some_iff → aC
open _root_.Nat renaming le_refl → aD
open Go.RowKit.Below renaming refl → aI
open _root_.UInt8 renaming ofNat → aL
open Go.Act renaming put → aO
section
open Go.Lib Go.RowKit
abbrev Lk:ByteArray:={data:=#[105,101,102,97,116,111,114,49,50,115,117,113,108]}
theorem ixL(p:Nat)(hp:p<13)(W:World):(Instr.index 9 (.string Lk) (.int .i64 (p:Int))).run aA W=.ok (.int .u8 ((DY p:Nat):Int)) W:=by
 have hs:p<Lk.size:=hp
 have e:(Lk[p].toNat:Nat)=DY p:=by
  have h1:∀q:Fin 13,(Lk[q.1]'(q.2)).toNat=DY q.1:=by decide
  exact h1 ⟨p,hp⟩
 rw[←e];have hp':(p:Int)<13:=by omega
 simp[go_sem,Tryz.underlying9,hp']
def KH(m:Aj)(j:Nat):Bool:=decide (0≤Ad m j)&&decide (Ad m j≤281474976710655)&&(Ad m j==0 || F7 m.kind j)
theorem UK(m:Aj):Bo m=(!(AS m.kind).isEmpty&&(aP 13).all (KH m)&&EJ m&&((m.cube.1==Z&&m.cube.2==Z) || F7 m.kind 13)&&(m.head==Z || F7 m.kind 14)):=rfl
theorem Qh(k:Int):(DB k).data.toList=[]↔AS k=[]:=by
 unfold DB RE;simp
theorem Calls.later_same16{P:Program}{f:FuncId}{args:Array Value}{W:World}{u:Al W}{v:Value}
  (h:Calls P f args u.world fun e w'=>e=.returned v∧w'=u.world):Calls P f args u.world fun e w''=>e=.returned v∧∃u':Al W,w''=u'.world:=
 h.mono fun _ _ ⟨he,hb⟩=>⟨he,u,hb⟩
theorem RQ(m:Aj)(hm:Bj m)(w:World):Calls aA 61 #[.agg (Ah m)] w fun e w'=>e=.returned (.bool (Bo m))∧Below w.heap.size w w':=by
 have CF:Hid (∀W,Calls aA 62 #[.int .i64 m.kind] W fun e w'=>e=.returned (.string (DB m.kind))∧w'=W):=fun W=>I7 m.kind W;obtain⟨w1,hw1⟩:=eX (w.alloc (.cells (Ah m) 27));have g1:w1.heap[w.heap.size]?=some (.cells (Ah m) 27 (0,0)):=by rw[hw1];exact Ac _ _ _ rfl
 have B1:Below w.heap.size w w1:=by rw[hw1];exact(aI _ _).alloc (aD _) _
 have c0:w1.cell? ⟨w.heap.size,0,none⟩=some (.int .i64 m.kind):=by rw[cell_of_row _ _ _ _ _ _ g1,Cx]
 have hms:=Ch hm;rw[hw1] at c0;by_cases hk:AS m.kind=[]
 ·have HR:Hid (Bo m=false):=Lc hk;have hse:(DB m.kind).toList.isEmpty=true:=by rw[ByteArray.toList_eq,(Qh _).2 hk];rfl
  obtain⟨s,hs⟩:=eX (DB m.kind);rw[←hs] at CF hse;clear hs;go_enter Tryz.func61,Tryz.ntmps61;go_wp2_with fail;rw[←hw1];refine(CF.out _).mono ?_;rintro e w2 ⟨rfl,hw2⟩;obtain rfl:=hw2.symm;go_wp2_with fail;go_ret;rw[HR.out];exact⟨rfl,by first | exact B1|(rw[←hw1];exact B1)⟩
 ·have hse:(DB m.kind).toList.isEmpty=false:=by
   rw[ByteArray.toList_eq]
   cases e:(DB m.kind).data.toList with
   | nil=>exact absurd ((Qh _).1 e) hk
   | cons a l=>rfl
  have hne:(AS m.kind).isEmpty=false:=by
   cases e:AS m.kind with
   | nil=>exact absurd e hk
   | cons a l=>rfl
  have HRF:Hid (Bo m=((aP 13).all (KH m)&&EJ m&&((m.cube.1==Z&&m.cube.2==Z) || F7 m.kind 13)&&(m.head==Z || F7 m.kind 14))):=by
   show _=_;rw[UK,hne];rfl
  have HNO:Hid (∀j,j<13→KH m j=false→Bo m=false):=fun j hj h=>by
   rw[HRF.out]
   have:(aP 13).all (KH m)=false:=by
    rw[←Bool.not_eq_true,aN];intro h2;have:=h2 j (aX.2 hj);rw[h] at this
    cases this
   rw[this];rfl
  have HH:Hid (∀(f:Nat),f<15→∀W,Calls aA 91 #[.int .i64 m.kind,.int .u8 ((DY f:Nat):Int)] W fun e w'=>e=.returned (.bool (F7 m.kind f))∧w'=W):=fun f hf W=>UQ m.kind f hf W;have HG:Hid (∀(j:Nat),j<13→∀W,Calls aA 65 #[.agg (Ah m),.int .u8 ((DY j:Nat):Int)] W fun e w'=>e=.returned (.int .i64 (Ad m j))∧Below W.heap.size W w'):=fun j hj W=>Ou m hm j hj W;obtain⟨s,hs⟩:=eX (DB m.kind);rw[←hs] at CF hse;clear hs hk hne;go_enter Tryz.func61,Tryz.ntmps61;go_wp2_with fail;rw[←hw1] at c0 ⊢;clear hw1;refine(CF.out _).mono ?_;rintro e w2 ⟨rfl,hw2⟩;obtain rfl:=hw2.symm;go_wp2_with fail;clear hse c0;go_loopw [3] (fun i W=> ∃p:Nat,p≤13∧i=.int .i64 (p:Int)∧(∀j,j<p→KH m j=true)∧W.heap[w.heap.size]?=some (.cells (Ah m) 27 (0,0))∧Below w.heap.size w W) (fun i _=>13-(intOf i).toNat)
  case atStart=>exact⟨0,Nat.zero_le _,rfl,fun j hj=>absurd hj (by omega),g1,B1⟩
  case round=>
   clear g1 B1;obtain⟨p,hp,rfl,hall,gk,hB⟩:=hrel;have HALL:Hid _:=hall;have hsz:=(gS gk);clear hall;by_cases hlt:p<13
   ·have hix:=ixL p hlt;have CG:Hid (∀W,Calls aA 65 #[.agg (Ah m),.int .u8 ((DY p:Nat):Int)] W fun e w'=>e=.returned (.int .i64 (Ad m p))∧Below W.heap.size W w'):=HG.out p hlt;have CH:Hid (∀W,Calls aA 91 #[.int .i64 m.kind,.int .u8 ((DY p:Nat):Int)] W fun e w'=>e=.returned (.bool (F7 m.kind p))∧w'=W):=HH.out p (by omega);obtain⟨q,hq⟩:∃q:Int,q=((DY p:Nat):Int):=⟨_,rfl⟩;obtain⟨x,hx⟩:=eX (Ad m p);have HX:Hid _:=hx;obtain⟨b,hb⟩:=eX (F7 m.kind p);have HBB:Hid _:=hb;rw[←hq] at hix CG CH;rw[←hx] at CG;rw[←hb] at CH;clear hq hx hb;have hpi:(p:Int)<13:=by omega
    go_wp2_with fail;have ne1:=Al.ne wr;refine rL ?_;refine G5 DJ rfl _ rfl w.heap.size 0 rfl _ _ _ (Ah m) hms (Ai gk) (AA _ _) ?_;simp only[pU];go_big_quiet_step (fail);go_big_quiet_step (fail);go_big_quiet_want;go_big_quiet_op;refine⟨_,fun u=>Calls.later_of (CG.out u.world),?_⟩;go_big_quiet_on;go_big_quiet_step (fail);refine wpQuiet_nil ?_;rintro w4 ⟨u,hu⟩;have g4:w4.heap[w.heap.size]?=some (.cells (Ah m) 27 (0,0)):=by rw[hu,u.below.block _ hsz];exact gk
    have B4:Below w.heap.size w w4:=by rw[hu];exact hB.trans (u.below.mono hB.size)
    have hs4:=(gS g4);clear hu u gk hB ne1
    have c4:∀u:Al w4,u.world.cell? ⟨w.heap.size,0,none⟩=some (.int .i64 m.kind):=fun u=>by
     rw[cell_of_row _ _ _ _ _ _ ((u.below.block _ hs4).trans g4),Cx]
    have ne4:=Al.ne w4;by_cases h0:x<0
    ·have d0:decide (x<0)=true:=by simpa using h0
     have HF:Hid (Bo m=false):=HNO.out p hlt (by unfold KH;rw[←HX.out,decide_eq_false (show¬0≤x by omega)];rfl);clear h0;go_wp2_with fail;refine rL ?_
     iterate 18 (go_big_quiet_step (fail))
     refine wpQuiet_nil ?_;rintro w5 ⟨u,hu⟩;have HB5:Hid (Below w.heap.size w w5):=by rw[hu];exact B4.trans (u.below.mono B4.size)
     have HG5:Hid (w5.heap[w.heap.size]?=some (.cells (Ah m) 27 (0,0))):=by rw[hu,u.below.block _ hs4];exact g4
     clear hu u;go_wp2_with fail;go_ret;rw[HF.out];exact⟨rfl,HB5.out⟩
    ·have d0:decide (x<0)=false:=by simpa using h0
     by_cases h1:281474976710655<x
     ·have d1:decide (281474976710655<x)=true:=by simpa using h1
      have HF:Hid (Bo m=false):=HNO.out p hlt (by unfold KH;rw[←HX.out,decide_eq_false (show¬x≤281474976710655 by omega),Bool.and_false];rfl);clear h0 h1;go_wp2_with fail;refine rL ?_
      iterate 18 (go_big_quiet_step (fail))
      refine wpQuiet_nil ?_;rintro w5 ⟨u,hu⟩;have HB5:Hid (Below w.heap.size w w5):=by rw[hu];exact B4.trans (u.below.mono B4.size)
      have HG5:Hid (w5.heap[w.heap.size]?=some (.cells (Ah m) 27 (0,0))):=by rw[hu,u.below.block _ hs4];exact g4
      clear hu u;go_wp2_with fail;go_ret;rw[HF.out];exact⟨rfl,HB5.out⟩
     ·have d1:decide (281474976710655<x)=false:=by simpa using h1
      by_cases h2:x=0
      ·have d2:(x !=0)=false:=by simp[h2]
       have HY:Hid (KH m p=true):=by show _=_;unfold KH;rw[←HX.out,h2];rfl
       clear h0 h1 h2;go_wp2_with fail;refine rL ?_
       iterate 18 (go_big_quiet_step (fail))
       refine wpQuiet_nil ?_;rintro w5 ⟨u,hu⟩;have HB5:Hid (Below w.heap.size w w5):=by rw[hu];exact B4.trans (u.below.mono B4.size)
       have HG5:Hid (w5.heap[w.heap.size]?=some (.cells (Ah m) 27 (0,0))):=by rw[hu,u.below.block _ hs4];exact g4
       clear hu u;go_wp2_with fail;go_roundw
       case rel=>exact⟨p+1,by omega,by go_num,fun j hj=>by
         by_cases e:j<p
         ·exact HALL.out j e
         ·obtain rfl:j=p:=by omega
          exact HY.out,HG5.out,HB5.out⟩
       case measure=>simp[intOf];omega
      ·have d2:(x !=0)=true:=by simp[h2]
       have d3:(x==0)=false:=by simp[h2]
       cases b with
       | true=>
        have HY:Hid (KH m p=true):=by
         show _=_;unfold KH;rw[←HX.out, ←HBB.out,decide_eq_true (show 0≤x by omega),decide_eq_true (show x≤281474976710655 by omega),Bool.or_true];rfl
        clear h0 h1 h2;go_wp2_with fail;refine rL ?_
        iterate 14 (go_big_quiet_step (fail))
        go_big_quiet_want;go_big_quiet_op;refine⟨_,fun u=>Calls.later_same16 (CH.out u.world),?_⟩;go_big_quiet_on
        iterate 3 (go_big_quiet_step (fail))
        refine wpQuiet_nil ?_;rintro w5 ⟨u,hu⟩;have HB5:Hid (Below w.heap.size w w5):=by rw[hu];exact B4.trans (u.below.mono B4.size)
        have HG5:Hid (w5.heap[w.heap.size]?=some (.cells (Ah m) 27 (0,0))):=by rw[hu,u.below.block _ hs4];exact g4
        clear hu u;go_wp2_with fail;go_roundw
        case rel=>exact⟨p+1,by omega,by go_num,fun j hj=>by
          by_cases e:j<p
          ·exact HALL.out j e
          ·obtain rfl:j=p:=by omega
           exact HY.out,HG5.out,HB5.out⟩
        case measure=>simp[intOf];omega
       | false=>
        have HF:Hid (Bo m=false):=HNO.out p hlt (by unfold KH;rw[←HX.out, ←HBB.out,d3];simp);clear h0 h1 h2;go_wp2_with fail;refine rL ?_
        iterate 14 (go_big_quiet_step (fail))
        go_big_quiet_want;go_big_quiet_op;refine⟨_,fun u=>Calls.later_same16 (CH.out u.world),?_⟩;go_big_quiet_on
        iterate 3 (go_big_quiet_step (fail))
        refine wpQuiet_nil ?_;rintro w5 ⟨u,hu⟩;have HB5:Hid (Below w.heap.size w w5):=by rw[hu];exact B4.trans (u.below.mono B4.size)
        have HG5:Hid (w5.heap[w.heap.size]?=some (.cells (Ah m) 27 (0,0))):=by rw[hu,u.below.block _ hs4];exact g4
        clear hu u;go_wp2_with fail;go_ret;rw[HF.out];exact⟨rfl,HB5.out⟩
   ·obtain rfl:p=13:=by omega
    have HR2:Hid (Bo m=(EJ m&&((m.cube.1==Z&&m.cube.2==Z) || F7 m.kind 13)&&(m.head==Z || F7 m.kind 14))):=by
     show _=_
     have:(aP 13).all (KH m)=true:=by
      rw[aN];intro j hj;exact HALL.out j (aX.1 hj)
     rw[HRF.out,this,Bool.true_and]
    obtain⟨V,hV⟩:=eX m.cube.1;obtain⟨M,hM⟩:=eX m.cube.2;obtain⟨hd,hhd⟩:=eX m.head;have hVb:Ax V:=by rw[hV];exact hm.2.1
    have hMb:Ax M:=by rw[hM];exact hm.2.2.1
    have hVl:=hVb.1;have hMl:=hMb.1;have hHl:hd.length=13:=by rw[hhd];exact hm.2.2.2.1
    have CC:Hid (∀W,Calls aA 92 #[.agg (cv V M)] W fun e w'=>e=.returned (.agg (cv (AH V M) M))∧Below W.heap.size W w'):=Oq V M hVb hMb;have CH3:Hid (∀W,Calls aA 91 #[.int .i64 m.kind,.int .u8 67] W fun e w'=>e=.returned (.bool (F7 m.kind 13))∧w'=W):=fun W=>HH.out 13 (by decide) W;have CH4:Hid (∀W,Calls aA 91 #[.int .i64 m.kind,.int .u8 72] W fun e w'=>e=.returned (.bool (F7 m.kind 14))∧w'=W):=fun W=>HH.out 14 (by decide) W;have hcub:∀j,j<26→(Ah m)[14+j]?=(cv V M)[j]?:=by rw[hV,hM];exact Hz hm
    have hhea:∀j,j<13→(Ah m)[40+j]?=(hv hd)[j]?:=by rw[hhd];exact Js hm
    obtain⟨r,hr⟩:=eX ((V==AH V M));obtain⟨z,hz⟩:=eX ((V==Z&&M==Z));obtain⟨y,hy⟩:=eX ((hd==Z));obtain⟨b3,hb3⟩:=eX (F7 m.kind 13);obtain⟨b4,hb4⟩:=eX (F7 m.kind 14)
    have HR3:Hid (Bo m=(r&&(z || b3)&&(y || b4))):=by
     show _=_;rw[HR2.out,hr,hz,hy,hb3,hb4,hV,hM,hhd];rfl
    have hCl:=(Dj V M).1
    have eC:∀w,(Op.equalIn 10000 25 (.agg (cv V M)) (.agg (cv (AH V M) M))).run aA w=.ok r w:=fun w=>by
     rw[eqC V M (AH V M) M hVl hMl hCl hMl,hr,beq_self_eq_true,Bool.and_true]
    have eZ:∀w,(Op.equalIn 10000 25 (.agg (cv V M)) (.agg Az)).run aA w=.ok z w:=fun w=>by
     rw[Hh,eqC V M Z Z hVl hMl AX.1 AX.1,hz]
    have eg:∀op x y (xs ys:Array Value) w,(eqGuard op 25 x y (.agg xs) (.agg ys)).run aA w=.ok () w:=egC
    have eH:∀w,(Op.equalIn 10000 23 (.agg (hv hd)) (.agg (hv Z))).run aA w=.ok y w:=fun w=>by
     rw[Agl hd Z hHl AX.1,hy]
    have egh:∀op x y (xs ys:Array Value) w,(eqGuard op 23 x y (.agg xs) (.agg ys)).run aA w=.ok () w:=egH;rw[←hb3] at CH3;rw[←hb4] at CH4;have hcs:=AO V M hVl hMl;clear hV hM hhd hr hz hy hb3 hb4 hVb hMb HR2 HRF HNO HALL;have ne1:=Al.ne wr
    have c5:∀u:Al wr,u.world.cell? ⟨w.heap.size,0,none⟩=some (.int .i64 m.kind):=fun u=>by
     rw[cell_of_row _ _ _ _ _ _ ((u.below.block _ hsz).trans gk),Cx]
    go_wp2_with fail
    cases r with
    | false=>
     refine rL ?_;go_big_quiet_step (fail);refine G5 Ds rfl _ rfl w.heap.size 14 rfl _ _ _ (cv V M) hcs (Ai gk) hcub ?_;simp only[pU];go_big_quiet_step (fail);refine G5 Ds rfl _ rfl w.heap.size 14 rfl _ _ _ (cv V M) hcs (Ai gk) hcub ?_;simp only[pU];go_big_quiet_want;go_big_quiet_op;refine⟨_,fun u=>Calls.later_of (CC.out u.world),?_⟩;go_big_quiet_on
     iterate 13 (go_big_quiet_step (fail))
     refine wpQuiet_nil ?_;rintro w5 ⟨u,hu⟩;have HB5:Hid (Below w.heap.size w w5):=by rw[hu];exact hB.trans (u.below.mono hB.size)
     have g5:w5.heap[w.heap.size]?=some (.cells (Ah m) 27 (0,0)):=by rw[hu,u.below.block _ hsz];exact gk
     have k5:w5.cell? ⟨w.heap.size,0,none⟩=some (.int .i64 m.kind):=by rw[cell_of_row _ _ _ _ _ _ g5,Cx]
     clear hu u ne1 c5 gk hB;go_wp2_with fail;go_ret;rw[HR3.out];exact⟨rfl,HB5.out⟩
    | true=>
     cases z with
     | true=>
      refine rL ?_;go_big_quiet_step (fail);refine G5 Ds rfl _ rfl w.heap.size 14 rfl _ _ _ (cv V M) hcs (Ai gk) hcub ?_;simp only[pU];go_big_quiet_step (fail);refine G5 Ds rfl _ rfl w.heap.size 14 rfl _ _ _ (cv V M) hcs (Ai gk) hcub ?_;simp only[pU];go_big_quiet_want;go_big_quiet_op;refine⟨_,fun u=>Calls.later_of (CC.out u.world),?_⟩;go_big_quiet_on
      iterate 3 (go_big_quiet_step (fail))
      refine G5 Ds rfl _ rfl w.heap.size 14 rfl _ _ _ (cv V M) hcs (Ai gk) hcub ?_;simp only[pU]
      iterate 9 (go_big_quiet_step (fail))
      refine wpQuiet_nil ?_;rintro w5 ⟨u,hu⟩;have HB5:Hid (Below w.heap.size w w5):=by rw[hu];exact hB.trans (u.below.mono hB.size)
      have g5:w5.heap[w.heap.size]?=some (.cells (Ah m) 27 (0,0)):=by rw[hu,u.below.block _ hsz];exact gk
      have k5:w5.cell? ⟨w.heap.size,0,none⟩=some (.int .i64 m.kind):=by rw[cell_of_row _ _ _ _ _ _ g5,Cx]
      clear hu u ne1 c5 gk hB
      cases y with
      | true=>
       go_wp2_with (first
        | go_skip
        | ((with_reducible refine Bf 23 _ rfl ?_);refine Bc Iw rfl _ rfl w.heap.size 40 rfl _ _ _ (hv hd) (by rw[DE,hHl];rfl) g5 hhea ?_)
        | ((with_reducible refine BP 23 _ rfl ?_);refine FR rfl rfl ?_)
        | (go_at_call 91;refine(CH4.out _).mono ?_;rintro e w6 ⟨rfl,hw6⟩;obtain rfl:=hw6.symm))
       go_ret;rw[HR3.out];exact⟨by simp,HB5.out⟩
      | false=>
       go_wp2_with (first
        | go_skip
        | ((with_reducible refine Bf 23 _ rfl ?_);refine Bc Iw rfl _ rfl w.heap.size 40 rfl _ _ _ (hv hd) (by rw[DE,hHl];rfl) g5 hhea ?_)
        | ((with_reducible refine BP 23 _ rfl ?_);refine FR rfl rfl ?_)
        | (go_at_call 91;refine(CH4.out _).mono ?_;rintro e w6 ⟨rfl,hw6⟩;obtain rfl:=hw6.symm))
       go_ret;rw[HR3.out];exact⟨by simp,HB5.out⟩
     | false=>
      cases b3 with
      | true=>
       refine rL ?_;go_big_quiet_step (fail);refine G5 Ds rfl _ rfl w.heap.size 14 rfl _ _ _ (cv V M) hcs (Ai gk) hcub ?_;simp only[pU];go_big_quiet_step (fail);refine G5 Ds rfl _ rfl w.heap.size 14 rfl _ _ _ (cv V M) hcs (Ai gk) hcub ?_;simp only[pU];go_big_quiet_want;go_big_quiet_op;refine⟨_,fun u=>Calls.later_of (CC.out u.world),?_⟩;go_big_quiet_on
       iterate 3 (go_big_quiet_step (fail))
       refine G5 Ds rfl _ rfl w.heap.size 14 rfl _ _ _ (cv V M) hcs (Ai gk) hcub ?_;simp only[pU]
       iterate 5 (go_big_quiet_step (fail))
       go_big_quiet_want;go_big_quiet_op;refine⟨_,fun u=>Calls.later_same16 (CH3.out u.world),?_⟩;go_big_quiet_on
       iterate 3 (go_big_quiet_step (fail))
       refine wpQuiet_nil ?_;rintro w5 ⟨u,hu⟩;have HB5:Hid (Below w.heap.size w w5):=by rw[hu];exact hB.trans (u.below.mono hB.size)
       have g5:w5.heap[w.heap.size]?=some (.cells (Ah m) 27 (0,0)):=by rw[hu,u.below.block _ hsz];exact gk
       have k5:w5.cell? ⟨w.heap.size,0,none⟩=some (.int .i64 m.kind):=by rw[cell_of_row _ _ _ _ _ _ g5,Cx]
       clear hu u ne1 c5 gk hB
       cases y with
       | true=>
        go_wp2_with (first
         | go_skip
         | ((with_reducible refine Bf 23 _ rfl ?_);refine Bc Iw rfl _ rfl w.heap.size 40 rfl _ _ _ (hv hd) (by rw[DE,hHl];rfl) g5 hhea ?_)
         | ((with_reducible refine BP 23 _ rfl ?_);refine FR rfl rfl ?_)
         | (go_at_call 91;refine(CH4.out _).mono ?_;rintro e w6 ⟨rfl,hw6⟩;obtain rfl:=hw6.symm))
        go_ret;rw[HR3.out];exact⟨by simp,HB5.out⟩
       | false=>
        go_wp2_with (first
         | go_skip
         | ((with_reducible refine Bf 23 _ rfl ?_);refine Bc Iw rfl _ rfl w.heap.size 40 rfl _ _ _ (hv hd) (by rw[DE,hHl];rfl) g5 hhea ?_)
         | ((with_reducible refine BP 23 _ rfl ?_);refine FR rfl rfl ?_)
         | (go_at_call 91;refine(CH4.out _).mono ?_;rintro e w6 ⟨rfl,hw6⟩;obtain rfl:=hw6.symm))
        go_ret;rw[HR3.out];exact⟨by simp,HB5.out⟩
      | false=>
       refine rL ?_;go_big_quiet_step (fail);refine G5 Ds rfl _ rfl w.heap.size 14 rfl _ _ _ (cv V M) hcs (Ai gk) hcub ?_;simp only[pU];go_big_quiet_step (fail);refine G5 Ds rfl _ rfl w.heap.size 14 rfl _ _ _ (cv V M) hcs (Ai gk) hcub ?_;simp only[pU];go_big_quiet_want;go_big_quiet_op;refine⟨_,fun u=>Calls.later_of (CC.out u.world),?_⟩;go_big_quiet_on
       iterate 3 (go_big_quiet_step (fail))
       refine G5 Ds rfl _ rfl w.heap.size 14 rfl _ _ _ (cv V M) hcs (Ai gk) hcub ?_;simp only[pU]
       iterate 5 (go_big_quiet_step (fail))
       go_big_quiet_want;go_big_quiet_op;refine⟨_,fun u=>Calls.later_same16 (CH3.out u.world),?_⟩;go_big_quiet_on
       iterate 3 (go_big_quiet_step (fail))
       refine wpQuiet_nil ?_;rintro w5 ⟨u,hu⟩;have HB5:Hid (Below w.heap.size w w5):=by rw[hu];exact hB.trans (u.below.mono hB.size)
       have g5:w5.heap[w.heap.size]?=some (.cells (Ah m) 27 (0,0)):=by rw[hu,u.below.block _ hsz];exact gk
       have k5:w5.cell? ⟨w.heap.size,0,none⟩=some (.int .i64 m.kind):=by rw[cell_of_row _ _ _ _ _ _ g5,Cx]
       clear hu u ne1 c5 gk hB;go_wp2_with fail;go_ret;rw[HR3.out];exact⟨rfl,HB5.out⟩
end
section
open Go.RowKit
theorem WC(k:Int)(v:Value)(L:List UInt8)(w:World)(hL:Be w v L):
  Calls aA 66 #[.int .i64 k,v] w fun e w'=> ∃u,e=.returned (.tuple #[u,.int .i64 (DX k L).2])∧Au w.heap.size w' u (DX k L).1∧Below w.heap.size w w':=by
 have HL:Hid (Be w v L):=hL;obtain⟨ov,cv,hv,hc1,hc2⟩:=hL.slice;subst hv;clear hL;obtain⟨n,hn⟩:=eX L.length;have HN:Hid (n=L.length):=hn;rw[←hn] at HL hc1 ⊢;clear hn;unfold maxLen at hc2;by_cases h0:0≤k
 ·by_cases h1:k≤255
  ·obtain⟨q,rfl⟩:∃q:Nat,k=q:=⟨k.toNat,by omega⟩;by_cases h2:n≤65535
   ·have HP:Hid (DX q L=(FA q L,0)):=by show _=_;unfold DX;rw[if_pos ⟨h0,h1⟩,if_pos (by rw[←HN.out];exact h2)];simp
    have CP:Hid (∀W,Calls aA 64 #[.slice none 0 0,.int .u64 (n:Int),.int .i64 2] W fun e w'=> ∃u,e=.returned (.tuple #[u,.int .i64 0])∧Au W.heap.size w' u (BY 2 n)∧Below W.heap.size W w'):=fun W=>by
     have:=RJ (.slice none 0 0) [] n 2 W (Adn W) (by simp) (by omega);have e:FH [] n 2=(BY 2 n,0):=by unfold FH;rw[if_pos (by rfl),if_pos (by simp;omega)];simp
     rw[e] at this;exact this
    have HF:Hid (BY 2 n++[aL q]++L=FA q L):=by show _=_;unfold FA;rw[HN.out];simp
    have hq:q%256=q:=Nat.mod_eq_of_lt (by omega);have HC:Hid ((q:Int)=((aL q).toNat:Int)):=by show _=_;rw[UInt8.toNat_ofNat'];omega
    have hn:¬(65535:Int)<(n:Int):=by omega
    clear hq;go_enter aW,aQ;go_wp2_with fail;refine(CP.out _).mono ?_;rintro e w1 ⟨u,rfl,ho1,hb1⟩;obtain⟨ou,nu,cu,rfl⟩:=Ea ho1.sl;have HO1:Hid (Au w.heap.size w1 (.slice ou nu cu) (BY 2 n)):=ho1;have HB1:Hid (Below w.heap.size w w1):=hb1;have hz1:=hb1.size;clear ho1 hb1
    go_wp2_with (first
     | (at_builtin;refine Fd ?_))
    unfold Hg
    have HS:Hid (Be (w1.alloc (.cells #[.int .u8 (q:Int)] 5)) (.slice (some ⟨w1.heap.size,0,none⟩) 1 1) [aL q]):=by
     have:=(Jr w1 (aL q)).sl;rw[←HC.out] at this;exact this
    have HO2:Hid (Au w.heap.size (w1.alloc (.cells #[.int .u8 (q:Int)] 5)) (.slice ou nu cu) (BY 2 n)):=HO1.out.below ((aI _ _).alloc (aD _) _);have HB2:Hid (Below w.heap.size w (w1.alloc (.cells #[.int .u8 (q:Int)] 5))):=HB1.out.alloc hz1 _;refine FD rfl _ _ rfl w.heap.size (.slice ou nu cu) _ (BY 2 n) [aL q] rfl HO2.out rfl HS.out (by rw[E9];simp) HB2.out.size ?_;intro v' w3 ho hgr _;obtain⟨o3,n3,c3,rfl⟩:=Ea ho.sl;have HO3:Hid (Au w.heap.size w3 (.slice o3 n3 c3) (BY 2 n++[aL q])):=ho;have HB3:Hid (Below w.heap.size w w3):=HB2.out.grown hgr HB2.out.size fun q hq=>(HO2.out.ge q hq).1;have HL3:Hid (Be w3 (.slice ov n cv) L):=HL.out.below HB3.out;simp only[pU];clear ho hgr HO2 HB2 HS
    go_wp2_with (first
     | (at_builtin;refine Fd ?_))
    unfold Hg;refine FD rfl _ _ rfl w.heap.size (.slice o3 n3 c3) (.slice ov n cv) _ L rfl HO3.out rfl HL3.out (by rw[aJ,E9, ←HN.out];simp;omega) HB3.out.size ?_;intro v4 w4 ho hgr _;have HO4:Hid (Au w.heap.size w4 v4 (FA q L)):=by rw[←HF.out];exact ho
    have HB4:Hid (Below w.heap.size w w4):=HB3.out.grown hgr HB3.out.size fun q hq=>(HO3.out.ge q hq).1;simp only[pU];clear ho hgr;go_wp2_with fail;go_ret2;rw[HP.out];exact⟨_,rfl,HO4.out,HB4.out⟩
   ·have HP:Hid (DX q L=([],5)):=by show _=_;unfold DX;rw[if_pos ⟨h0,h1⟩,if_neg (by rw[←HN.out];exact h2)]
    have hn:(65535:Int)<(n:Int):=by omega
    go_enter aW,aQ;go_wp2_with fail;go_ret2;rw[HP.out];exact⟨_,rfl,Au.nil _ _,aI _ _⟩
  ·have HP:Hid (DX k L=([],1)):=by show _=_;unfold DX;rw[if_neg (fun h=>h1 h.2)]
   have hn:(255:Int)<k:=by omega
   go_enter aW,aQ;go_wp2_with fail;go_ret2;rw[HP.out];exact⟨_,rfl,Au.nil _ _,aI _ _⟩
 ·have HP:Hid (DX k L=([],1)):=by show _=_;unfold DX;rw[if_neg (fun h=>h0 h.1)]
  have hn:k<0:=by omega
  go_enter aW,aQ;go_wp2_with fail;go_ret2;rw[HP.out];exact⟨_,rfl,Au.nil _ _,aI _ _⟩
theorem LN{P:Program}{md:Region.Mode}{ops:Array Oper}{Q:Exit→Act→World→Prop}{S:World→Prop}{i:Nat}{oi:Oper}{v:Value}{fuel:Nat}{listed:Array Bool}{a:Act}{w:World}(d:Option Tmp)(hi:ops[i]?=some oi)(hd:oi.dst=d)
  (hs:Region.noSelect ops=true) (hf:Region.free md ops listed i=true) (hr:(Region.ready md ops listed).contains i=true)
  (hQ:∀c a w,Q (.panic c) (a.put oi.dst v) w→Q (.panic c) a w) (hy:YieldsIf P ops S oi v a) (hS:S w)
  (h:wpAnyH P md ops Q S fuel (listed.setIfInBounds i true) (a.put d v) w):wpAnyH P md ops Q S (fuel+1) listed a w:=by
 subst hd;exact wpAnyH_take hi hs hf hr hQ hy hS h
theorem RB{V:List Int}(hV:Ax V)(k:Nat)(hk:k<13):(Cm V)[k]?=some ((Cm V).getD k 0):=by
 rw[aK (by rw[Db,hV.1];exact hk),List.getD_eq_getElem?_getD,aK (by rw[Db,hV.1];exact hk)];rfl
theorem LW(L D:List UInt8)(k:Nat)(c:UInt8)(h:D[k]?=some c):L++D.take (k+1)=(L++D.take k)++[c]:=by
 rw[bA,h];simp
theorem RK(v:Value)(L:List UInt8)(V M:List Int)(hV:Ax V)(hM:Ax M)(w:World)(hL:Be w v L)(hl:L.length≤140737488351232):
  Calls aA 63 #[v,.agg (cv V M)] w fun e w'=> ∃u,e=.returned u∧Au w.heap.size w' u (L++Ep (AH V M) M)∧Below w.heap.size w w':=by
 have HL:Hid (Be w v L):=hL;obtain⟨ov,nv,cx,rfl⟩:∃o n c,v=.slice o n c:=by obtain⟨o,c,h,_⟩:=hL.slice;exact⟨o,_,c,h⟩
 have hVl:=hV.1;have hMl:=hM.1;have CC:Hid (∀W,Calls aA 92 #[.agg (cv V M)] W fun e w'=>e=.returned (.agg (cv (AH V M) M))∧Below W.heap.size W w'):=Oq V M hV hM;obtain⟨C,hCd⟩:∃C,C=AH V M:=⟨_,rfl⟩;have hC:Ax C:=by rw[hCd];exact Dj V M
 have hCl:=hC.1;rw[←hCd] at CC ⊢;clear hCd;have HC:Hid (Ax C∧Ax M):=⟨hC,hM⟩;have CB:Hid (∀W,Below w.heap.size w W→Calls aA 93 #[.slice ov nv cx] W fun e w'=> ∃u,e=.returned u∧Au W.heap.size w' u L∧Below W.heap.size W w'):=fun W hW=>Ot _ L W (HL.out.below hW) (by omega);have g0:=Ac w (.cells (cv V M) 25) _ rfl;have B0:Below w.heap.size w (w.alloc (.cells (cv V M) 25)):=(aI _ _).alloc (aD _) _;clear hL hV hM hC;go_enter Tryz.func63,Tryz.ntmps63
 go_wp2_with (first
  | (refine Cl rfl _ rfl w.heap.size rfl V M g0 hVl hMl ?_))
 refine(CC.out _).mono ?_;rintro e w1 ⟨rfl,hb1⟩;have g1:w1.heap[w.heap.size]?=some (.cells (cv V M) 25 (0,0)):=(hb1.block _ (by simp)).trans g0;have B1:Below w.heap.size w w1:=B0.trans (hb1.mono (by simp));clear g0 B0 hb1;have g2:=setRow_heap w1 w.heap.size _ (cv C M) _ _ g1;have B2:=Ak B1 (aD w.heap.size) (cv C M)
 go_wp2_with (first
  | (refine Bq rfl _ _ rfl w.heap.size C M rfl rfl _ g1 (AO V M hVl hMl) hCl hMl _ rfl ?_))
 refine(CB.out _ B2).mono ?_;rintro e w3 ⟨u,rfl,ho3,hb3⟩;have hs2:w.heap.size<(w1.setRow w.heap.size (cv C M)).heap.size:=(aC.1 g2).1;have g3:w3.heap[w.heap.size]?=some (.cells (cv C M) 25 (0,0)):=(hb3.block _ hs2).trans g2;have B3:Below w.heap.size w w3:=B2.trans (hb3.mono B2.size);have HO3:Hid (Au (w.heap.size+1) w3 u L):=ho3.base hs2;clear ho3 hb3 g1 g2 B1 B2 hs2;obtain⟨o3,n3,c3,rfl⟩:=Ea HO3.out.sl;go_wp2_with fail;go_loopw [0,5] (fun b i W=> ∃k:Nat,k≤13∧i=.int .i64 k∧Au (w.heap.size+1) W b (L++(Cm C).take k)∧W.heap[w.heap.size]?=some (.cells (cv C M) 25 (0,0))∧Below w.heap.size w W) (fun _ i _=>13-(intOf i).toNat)
 case atStart=>exact⟨0,by omega,rfl,by simpa using HO3.out,g3,B3⟩
 case round=>
  clear g3 B3 HO3;obtain⟨k,hk,rfl,ho,gk,hb⟩:=hrel;obtain⟨ob,nb,cb,rfl⟩:=Ea ho.sl;have HO:Hid (Au (w.heap.size+1) wr (.slice ob nb cb) (L++(Cm C).take k)):=ho;have HB:Hid (Below w.heap.size w wr):=hb;have hsz:=(aC.1 gk).1;clear ho hb;by_cases hlt:k<13
  ·have cc:wr.cell? ⟨w.heap.size,k,none⟩=some (.int .u8 (C.getD k 0)):=by rw[cell_of_row wr _ _ _ _ _ gk];exact IU C M hCl k hlt
   have e:=(JW HC.out.1 k hlt).2;obtain⟨x,hx⟩:∃x,x=(Cm C).getD k 0:=⟨_,rfl⟩;have HX:Hid ((Cm C)[k]?=some x):=by rw[hx];exact RB HC.out.1 k hlt
   rw[←hx] at e;rw[←e] at cc;clear e hx;have HLN:Hid ((L++(Cm C).take k).length≤140737488351245):=by show _≤_;rw[aJ,aR];omega
   go_wp2_with (first
    | (at_builtin;refine Fd ?_))
   unfold Hg;have HS:Hid (Be (wr.alloc (.cells #[.int .u8 (x.toNat:Int)] 5)) (.slice (some ⟨wr.heap.size,0,none⟩) 1 1) [x]):=(Jr wr x).sl;have HO2:Hid (Au (w.heap.size+1) (wr.alloc (.cells #[.int .u8 (x.toNat:Int)] 5)) (.slice ob nb cb) (L++(Cm C).take k)):=HO.out.below ((aI _ _).alloc (aD _) _);have HB2:Hid (Below w.heap.size w (wr.alloc (.cells #[.int .u8 (x.toNat:Int)] 5))):=HB.out.alloc HB.out.size _;refine FD rfl _ _ rfl (w.heap.size+1) (.slice ob nb cb) _ _ [x] rfl HO2.out rfl HS.out (by have:=HLN.out;simp only[aT,aV];omega) (by simp;omega) ?_;intro v' w' ho hgr _;have HO3:Hid (Au (w.heap.size+1) w' v' (L++(Cm C).take (k+1))):=by rw[LW L (Cm C) k x HX.out];exact ho
   have HB3:Hid (Below w.heap.size w w'):=HB2.out.grown hgr HB2.out.size fun q hq=>by have:=(HO2.out.ge q hq).1;omega
   have g4:w'.heap[w.heap.size]?=some (.cells (cv C M) 25 (0,0)):=by
    rw[hgr.block _ (by simp;omega) (fun e=>by have:=(HO2.out.ge _ e.symm).1;omega)];exact Af _ _ _ _ gk
   simp only[aO,aB,aG,aH];clear ho hgr HO2 HB2 HS cc gk;go_wp2_with fail;go_roundw
   case rel=>exact⟨k+1,by omega,by go_num,HO3.out,g4,HB3.out⟩
   case measure=>simp[intOf];omega
  ·obtain rfl:k=13:=by omega
   have HO4:Hid (Au (w.heap.size+1) wr (.slice ob nb cb) (L++Cm C)):=by
    have:=HO.out;rw[aM (by rw[Db,hCl];exact aD _)] at this;exact this
   clear HO;go_wp2_with fail;go_loopw [0,6] (fun b i W=> ∃k:Nat,k≤13∧i=.int .i64 k∧Au (w.heap.size+1) W b ((L++Cm C)++(Cm M).take k)∧W.heap[w.heap.size]?=some (.cells (cv C M) 25 (0,0))∧Below w.heap.size w W) (fun _ i _=>13-(intOf i).toNat)
   case atStart=>exact⟨0,by omega,rfl,by simpa using HO4.out,gk,HB.out⟩
   case round=>
    clear gk HO4 HB hsz;obtain⟨k,hk,rfl,ho,gk,hb⟩:=hrel;obtain⟨od,nd,cd,rfl⟩:=Ea ho.sl;have HO:Hid (Au (w.heap.size+1) wr (.slice od nd cd) ((L++Cm C)++(Cm M).take k)):=ho;have HB:Hid (Below w.heap.size w wr):=hb;have hsz:=(aC.1 gk).1;clear ho hb;by_cases hlt:k<13
    ·have cc:wr.cell? ⟨w.heap.size,13+k,none⟩=some (.int .u8 (M.getD k 0)):=by rw[cell_of_row wr _ _ _ _ _ gk];exact Gj C M hCl hMl k hlt
     have e:=(JW HC.out.2 k hlt).2;obtain⟨x,hx⟩:∃x,x=(Cm M).getD k 0:=⟨_,rfl⟩;have HX:Hid ((Cm M)[k]?=some x):=by rw[hx];exact RB HC.out.2 k hlt
     rw[←hx] at e;rw[←e] at cc;clear e hx;have HLN:Hid (((L++Cm C)++(Cm M).take k).length≤140737488351258):=by show _≤_;rw[aJ,aJ,aR,Db,hCl];omega
     go_wp2_with (first
      | (at_builtin;refine Fd ?_))
     unfold Hg;have HS:Hid (Be (wr.alloc (.cells #[.int .u8 (x.toNat:Int)] 5)) (.slice (some ⟨wr.heap.size,0,none⟩) 1 1) [x]):=(Jr wr x).sl;have HO2:Hid (Au (w.heap.size+1) (wr.alloc (.cells #[.int .u8 (x.toNat:Int)] 5)) (.slice od nd cd) ((L++Cm C)++(Cm M).take k)):=HO.out.below ((aI _ _).alloc (aD _) _);have HB2:Hid (Below w.heap.size w (wr.alloc (.cells #[.int .u8 (x.toNat:Int)] 5))):=HB.out.alloc HB.out.size _;refine FD rfl _ _ rfl (w.heap.size+1) (.slice od nd cd) _ _ [x] rfl HO2.out rfl HS.out (by have:=HLN.out;simp only[aT,aV];omega) (by simp;omega) ?_;intro v' w' ho hgr _;have HO3:Hid (Au (w.heap.size+1) w' v' ((L++Cm C)++(Cm M).take (k+1))):=by rw[LW (L++Cm C) (Cm M) k x HX.out];exact ho
     have HB3:Hid (Below w.heap.size w w'):=HB2.out.grown hgr HB2.out.size fun q hq=>by have:=(HO2.out.ge q hq).1;omega
     have g4:w'.heap[w.heap.size]?=some (.cells (cv C M) 25 (0,0)):=by
      rw[hgr.block _ (by simp;omega) (fun e=>by have:=(HO2.out.ge _ e.symm).1;omega)];exact Af _ _ _ _ gk
     simp only[aO,aB,aG,aH];clear ho hgr HO2 HB2 HS cc gk;go_wp2_with fail;go_roundw
     case rel=>exact⟨k+1,by omega,by go_num,HO3.out,g4,HB3.out⟩
     case measure=>simp[intOf];omega
    ·obtain rfl:k=13:=by omega
     have HO4:Hid (Au w.heap.size wr (.slice od nd cd) (L++Ep C M)):=by
      have:=HO.out.base (Nat.le_succ w.heap.size);rw[aM (by rw[Db,hMl];exact aD _),List.append_assoc] at this;exact this
     go_wp2_with fail;go_ret;exact⟨_,rfl,HO4.out,HB.out⟩
end
section
open Go.Lib Go.RowKit
theorem XJ{m:Aj}{l:List Nat}{p j:Nat}(hj:l[p]?=some j):(l.take (p+1)).flatMap (AU m)=(l.take p).flatMap (AU m)++AU m j:=by
 rw[bA,hj,List.flatMap_append];simp
theorem Vq{m:Aj}(hm:Bj m)(p:Nat):(((AS m.kind).take p).flatMap (AU m)).length≤208:=by
 rw[LC hm];exact Ae7 m.kind p
theorem Af0(x:Nat)(hx:x<9223372036854775808)(w:World):(convert 3 129 (.int .i64 (x:Int))).run aA w=.ok (.int .u64 (x:Int)) w:=by
 simp[convert,run_underlying Tryz.underlying3,run_underlying Tryz.underlying129,go_sem];rw[IntKind.wrap_u64];omega
theorem UR(m:Aj)(hm:Bj m)(w:World):Calls aA 39 #[.agg (Ah m)] w fun e w'=> ∃u,e=.returned (.tuple #[u,.int .i64 (Eg m).2])∧Au w.heap.size w' u (Eg m).1∧Below w.heap.size w w':=by
 obtain⟨w1,hw1⟩:∃w1,w1=w.alloc (.cells (Ah m) 27):=⟨_,rfl⟩;have g1:w1.heap[w.heap.size]?=some (.cells (Ah m) 27 (0,0)):=by rw[hw1];exact Ac _ _ _ rfl
 have B1:Below w.heap.size w w1:=by rw[hw1];exact(aI _ _).alloc (aD _) _
 have hs1:=(aC.1 g1).1;have g10:(w.alloc (.cells (Ah m) 27)).heap[w.heap.size]?=some (.cells (Ah m) 27 (0,0)):=Ac _ _ _ rfl;have hms:=Ch hm;have CR:Hid (∀W,Calls aA 61 #[.agg (Ah m)] W fun e w'=>e=.returned (.bool (Bo m))∧Below W.heap.size W w'):=RQ m hm;by_cases hr:Bo m=true
 ·have HE:Hid (Eg m=(DI m,0)):=by show _=_;unfold Eg;rw[if_pos hr]
  have HSL:Hid (DX m.kind (Fl m)=(DI m,0)):=Wy hm hr;have HRI:Hid (Sn m):=YH hm hr
  have HCU:Hid (AH m.cube.1 m.cube.2=m.cube.1):=by
   have:=((E5 m).1 hr).2.2.1;unfold EJ at this;exact(beq_iff_eq.1 this).symm
  have CF:Hid (∀W,Calls aA 62 #[.int .i64 m.kind] W fun e w'=>e=.returned (.string (DB m.kind))∧w'=W):=fun W=>I7 m.kind W;have HIX:Hid (∀(i j:Nat),(AS m.kind)[i]?=some j→∀W,(Instr.index 9 (.string (DB m.kind)) (.int .i64 (i:Int))).run aA W=.ok (.int .u8 ((DY j:Nat):Int)) W):=fun i j h W=>Aer h W;obtain⟨s,hs⟩:∃s,s=DB m.kind:=⟨_,rfl⟩;obtain⟨n,hn⟩:∃n,n=(AS m.kind).length:=⟨_,rfl⟩;have HN:Hid (n=(AS m.kind).length):=hn;have hsz:s.size=n:=by rw[hs,hn,LZ]
  have hn8:n≤8:=by rw[hn];exact PI m.kind
  rw[←hs] at CF HIX;rw[hr] at CR;clear hs hn hr;go_enter Tryz.func39,Tryz.ntmps39
  go_wp2_with (first
   | ((with_reducible refine Bf 27 _ rfl ?_);refine Bc DJ rfl _ rfl w.heap.size 0 rfl _ _ _ (Ah m) hms g10 (AA _ _) ?_))
  rw[←hw1];clear hw1 g10;refine(CR.out _).mono ?_;rintro e w2 ⟨rfl,hb2⟩;have g2:w2.heap[w.heap.size]?=some (.cells (Ah m) 27 (0,0)):=(hb2.block _ hs1).trans g1;have B2:Below w.heap.size w w2:=B1.trans (hb2.mono B1.size);have hs2:=(aC.1 g2).1;have c2:w2.cell? ⟨w.heap.size,0,none⟩=some (.int .i64 m.kind):=by rw[cell_of_row _ _ _ _ _ _ g2,Cx]
  clear hb2 g1 B1 hs1
  go_wp2_with (first
   | (go_at_call 62;refine(CF.out _).mono ?_;rintro e w3 ⟨rfl,hw3⟩;obtain rfl:=hw3.symm))
  have HO0:Hid (Au (w.heap.size+1) (w2.alloc (.cells #[] 5)) (.slice (some ⟨w2.heap.size,0,none⟩) 0 0) []):=(Lf w2).base hs2;have HG0:Hid ((w2.alloc (.cells #[] 5)).heap[w.heap.size]?=some (.cells (Ah m) 27 (0,0))):=Af _ _ _ _ g2;have HB0:Hid (Below w.heap.size w (w2.alloc (.cells #[] 5))):=B2.alloc B2.size _;clear c2;go_loopw [5,6] (fun b i W=> ∃p:Nat,p≤n∧i=.int .i64 (p:Int)∧Au (w.heap.size+1) W b (((AS m.kind).take p).flatMap (AU m))∧W.heap[w.heap.size]?=some (.cells (Ah m) 27 (0,0))∧Below w.heap.size w W) (fun _ i _=>n-(intOf i).toNat)
  case atStart=>exact⟨0,Nat.zero_le _,rfl,HO0.out,HG0.out,HB0.out⟩
  case round=>
   clear HO0 HG0 HB0 g2 B2 hs2;obtain⟨p,hp,rfl,hO,gk,hB⟩:=hrel;obtain⟨ob,nb,cb,rfl⟩:=Ea hO.sl;have HO:Hid (Au (w.heap.size+1) wr (.slice ob nb cb) (((AS m.kind).take p).flatMap (AU m))):=hO;have HB:Hid (Below w.heap.size w wr):=hB;have hs3:=(aC.1 gk).1;have HLN:Hid ((((AS m.kind).take p).flatMap (AU m)).length≤208):=Vq hm p;clear hO hB;by_cases hlt:p<n
   ·obtain⟨j,hj⟩:∃j,(AS m.kind)[p]?=some j:=⟨_,aK (by rw[←HN.out];exact hlt)⟩;have hix:=HIX.out p j hj;have hj15:=MU m.kind j (List.mem_of_getElem? hj);have h13:(((DY j:Nat):Int)==67)=decide (j=13):=Nx (j:=13) hj15 (by decide);have h14:(((DY j:Nat):Int)==72)=decide (j=14):=Nx (j:=14) hj15 (by decide);have HS:Hid (((AS m.kind).take (p+1)).flatMap (AU m)=((AS m.kind).take p).flatMap (AU m)++AU m j):=XJ hj;obtain⟨L,hL⟩:∃L,L=((AS m.kind).take p).flatMap (AU m):=⟨_,rfl⟩;rw[←hL] at HO HLN HS;clear hL hj;by_cases e13:j=13
    ·rw[decide_eq_true e13] at h13;have HS2:Hid (((AS m.kind).take (p+1)).flatMap (AU m)=L++Ep m.cube.1 m.cube.2):=by show _=_;rw[HS.out,e13];rfl
     have CC:Hid (∀W,Be W (.slice ob nb cb) L→Calls aA 63 #[.slice ob nb cb,.agg (cv m.cube.1 m.cube.2)] W fun e w'=> ∃u,e=.returned u∧Au W.heap.size w' u (L++Ep m.cube.1 m.cube.2)∧Below W.heap.size W w'):=fun W hW=>by
      have:=RK (.slice ob nb cb) L m.cube.1 m.cube.2 hm.2.1 hm.2.2.1 W hW (by have:=HLN.out;omega);rw[HCU.out] at this;exact this
     clear e13 h14
     go_wp2_with (first
      | ((with_reducible refine Bf 25 _ rfl ?_);refine Bc Ds rfl _ rfl w.heap.size 14 rfl _ _ _ (cv m.cube.1 m.cube.2) (AO _ _ hm.2.1.1 hm.2.2.1.1) gk (Hz hm) ?_))
     refine(CC.out _ HO.out.sl).mono ?_;rintro e w5 ⟨u,rfl,hO5,hb5⟩;have HO5:Hid (Au (w.heap.size+1) w5 u (((AS m.kind).take (p+1)).flatMap (AU m))):=by show Au _ _ _ _;rw[HS2.out];exact hO5.base hs3
     have HG5:Hid (w5.heap[w.heap.size]?=some (.cells (Ah m) 27 (0,0))):=(hb5.block _ hs3).trans gk;have HB5:Hid (Below w.heap.size w w5):=HB.out.trans (hb5.mono HB.out.size);clear hO5 hb5;go_wp2_with fail;go_roundw
     case rel=>exact⟨p+1,by omega,by go_num,HO5.out,HG5.out,HB5.out⟩
     case measure=>simp[intOf];omega
    ·rw[decide_eq_false e13] at h13;by_cases e14:j=14
     ·rw[decide_eq_true e14] at h14;have HS2:Hid (((AS m.kind).take (p+1)).flatMap (AU m)=L++Cm m.head):=by show _=_;rw[HS.out,e14];rfl
      have HD:Hid (Ax m.head):=hm.2.2.2;obtain⟨wo,hwo⟩:∃wo:World,wo=wr:=⟨_,rfl⟩;rw[←hwo] at HO HB gk hs3 ⊢;clear hwo e13 e14;go_wp2_with fail;go_loopw [5,7] (fun b i W=> ∃q:Nat,q≤13∧i=.int .i64 (q:Int)∧Au (w.heap.size+1) W b (L++(Cm m.head).take q)∧W.heap[w.heap.size]?=some (.cells (Ah m) 27 (0,0))∧Below w.heap.size w W) (fun _ i _=>13-(intOf i).toNat)
      case atStart=>exact⟨0,by omega,rfl,by simpa using HO.out,gk,HB.out⟩
      case round=>
       clear HO HB gk hs3;obtain⟨q,hq,rfl,hO,gk,hB⟩:=hrel;obtain⟨od,nd,cd,rfl⟩:=Ea hO.sl;have HO:Hid (Au (w.heap.size+1) wr (.slice od nd cd) (L++(Cm m.head).take q)):=hO;have HB:Hid (Below w.heap.size w wr):=hB;have hs3:=(aC.1 gk).1;clear hO hB;by_cases hlq:q<13
       ·have cc:wr.cell? ⟨w.heap.size,40+q,none⟩=some (.int .u8 (m.head.getD q 0)):=by
         rw[cell_of_row wr _ _ _ _ _ gk,Js hm q hlq,IL _ HD.out.1 q hlq]
        have e:=(JW HD.out q hlq).2;obtain⟨x,hx⟩:∃x,x=(Cm m.head).getD q 0:=⟨_,rfl⟩;have HX:Hid ((Cm m.head)[q]?=some x):=by rw[hx];exact RB HD.out q hlq
        rw[←hx] at e;rw[←e] at cc;clear e hx;have HL2:Hid ((L++(Cm m.head).take q).length≤300):=by show _≤_;have:=HLN.out;rw[aJ,aR];omega
        go_wp2_with (first
         | (at_builtin;refine Fd ?_))
        unfold Hg;have HS1:Hid (Be (wr.alloc (.cells #[.int .u8 (x.toNat:Int)] 5)) (.slice (some ⟨wr.heap.size,0,none⟩) 1 1) [x]):=(Jr wr x).sl;have HO2:Hid (Au (w.heap.size+1) (wr.alloc (.cells #[.int .u8 (x.toNat:Int)] 5)) (.slice od nd cd) (L++(Cm m.head).take q)):=HO.out.below ((aI _ _).alloc (aD _) _);have HB2:Hid (Below w.heap.size w (wr.alloc (.cells #[.int .u8 (x.toNat:Int)] 5))):=HB.out.alloc HB.out.size _;refine FD rfl _ _ rfl (w.heap.size+1) (.slice od nd cd) _ _ [x] rfl HO2.out rfl HS1.out (by have:=HL2.out;simp only[aT,aV];omega) (by simp;omega) ?_;intro v' w' ho hgr _;have HO3:Hid (Au (w.heap.size+1) w' v' (L++(Cm m.head).take (q+1))):=by show Au _ _ _ _;rw[LW L (Cm m.head) q x HX.out];exact ho
        have HB3:Hid (Below w.heap.size w w'):=HB2.out.grown hgr HB2.out.size fun y hy=>by have:=(HO2.out.ge y hy).1;omega
        have g4:w'.heap[w.heap.size]?=some (.cells (Ah m) 27 (0,0)):=by
         rw[hgr.block _ (by simp;omega) (fun e=>by have:=(HO2.out.ge _ e.symm).1;omega)];exact Af _ _ _ _ gk
        simp only[aO,aB,aG,aH];clear ho hgr HO2 HB2 HS1 cc gk;go_wp2_with fail;go_roundw
        case rel=>exact⟨q+1,by omega,by go_num,HO3.out,g4,HB3.out⟩
        case measure=>simp[intOf];omega
       ·obtain rfl:q=13:=by omega
        have HO5:Hid (Au (w.heap.size+1) wr (.slice od nd cd) (((AS m.kind).take (p+1)).flatMap (AU m))):=by
         have:=HO.out;rw[aM (by rw[Db,HD.out.1];exact aD _)] at this;show Au _ _ _ _;rw[HS2.out];exact this
        go_wp2_with fail;go_roundw
        case rel=>exact⟨p+1,by omega,by go_num,HO5.out,gk,HB.out⟩
        case measure=>simp[intOf];omega
     ·rw[decide_eq_false e14] at h14;have hj13:j<13:=by omega
      have hx:=HRI.out.2 j hj13;obtain⟨x,hxx⟩:∃x:Nat,Ad m j=x:=⟨(Ad m j).toNat,by omega⟩;have hx2:x<281474976710656:=by omega
      have HS2:Hid (((AS m.kind).take (p+1)).flatMap (AU m)=L++BY 6 x):=by
       show _=_;rw[HS.out];unfold AU;rw[if_neg e13,if_neg e14,hxx];rfl
      obtain⟨q,hq⟩:∃q:Int,q=((DY j:Nat):Int):=⟨_,rfl⟩;have CG:Hid (∀W,Calls aA 65 #[.agg (Ah m),.int .u8 q] W fun e w'=>e=.returned (.int .i64 (x:Int))∧Below W.heap.size W w'):=fun W=>by rw[hq, ←hxx];exact Ou m hm j hj13 W
      have CP:Hid (∀W,Be W (.slice ob nb cb) L→Calls aA 64 #[.slice ob nb cb,.int .u64 (x:Int),.int .i64 6] W fun e w'=> ∃u,e=.returned (.tuple #[u,.int .i64 0])∧Au W.heap.size w' u (L++BY 6 x)∧Below W.heap.size W w'):=fun W hW=>by
       have hq:FH L x 6=(L++BY 6 x,0):=by
        unfold FH;rw[if_pos (by decide),if_pos (by show x<256 ^ 6;omega)];rfl
       have:=RJ (.slice ob nb cb) L x 6 W hW (by have:=HLN.out;omega) (by omega);rw[hq] at this;exact this
      rw[←hq] at hix h13 h14;clear hq hxx hx e13 e14 HS;go_wp2_with fail;have ne1:=Al.ne wr;refine En (fun a a' w'=> ∃u y44 y45 y46 y47 y48 y49 y50 y51 y52 y53 y54,a'=((((((((((((a.put (some 45) y45).put (some 46) y46).put (some 47) y47).put (some 48) y48).put (some 49) y49).put (some 50) y50).put (some 51) y51).put (some 52) y52).put (some 44) y44).put (some 53) y53).put (some 54) y54).put (some 5) u)∧Au (w.heap.size+1) w' u (L++BY 6 x)∧Below wr.heap.size wr w') ?_ ?_
      ·refine JH 12 rfl (by kernel_rfl) ?_;refine rE 0 4 8 ⟨⟨wr.drew,(aI _ _).drew⟩,rfl⟩ ?_;simp only[bD,aZ,bE];go_big_quiet_step (fail);refine G5 DJ rfl _ rfl w.heap.size 0 rfl _ _ _ (Ah m) hms (Ai gk) (AA _ _) ?_;simp only[aO,aB,aG,aH];go_big_quiet_step (fail);go_big_quiet_step (fail);refine wpQuiet_nil ?_;refine LN (i:=4) (v:=.int .u8 q) (some 49) rfl rfl (by kernel_rfl) (by kernel_rfl) (by kernel_rfl) (fun c a w h=>absurd h.1 (by simp)) (.inl ⟨rfl,fun w _=>by simp[execOp,Act.eval,hix]⟩) ⟨⟨wr.drew,(aI _ _).drew⟩,rfl⟩ ?_;simp only[aO,aB,aG,aH];refine rO 5 ?_;refine Bp rfl rfl 65 #[.tmp 46,.tmp 49] (by intro b w;have hf:=Tryz.func65;simp[go_sem]) #[.agg (Ah m),.int .u8 q] rfl (fun v w'=>v=.int .i64 (x:Int)∧Below wr.heap.size wr w') ((CG.out _).mono fun e w' ⟨h1,h3⟩=>⟨_,h1,rfl,((aI _ _).drew).trans h3⟩) (some 50) rfl ?_;rintro z w4 ⟨rfl,hb4⟩;refine⟨⟨⟨w4,hb4⟩,rfl⟩,?_⟩;simp only[aO,aB,aG,aH]
       refine LN (i:=6) (v:=.int .u64 (x:Int)) (some 51) rfl rfl (by kernel_rfl) (by kernel_rfl) (by kernel_rfl) (fun c a w h=>absurd h.1 (by simp)) (.inl ⟨rfl,fun w _=>by simp[execOp,Act.eval,Af0 x (by omega)]⟩) ⟨⟨w4,hb4⟩,rfl⟩ ?_;simp only[aO,aB,aG,aH];refine rO 7 ?_;refine Bp rfl rfl 64 #[.tmp 45,.tmp 51,.const (.int .i64 6)] (by intro b w;have hf:=Tryz.func64;simp[go_sem]) #[.slice ob nb cb,.int .u64 (x:Int),.int .i64 6] rfl (fun v w'=> ∃u,v=.tuple #[u,.int .i64 0]∧Au (w.heap.size+1) w' u (L++BY 6 x)∧Below wr.heap.size wr w') ((CP.out w4 (HO.out.sl.below hb4)).mono fun e w' ⟨v,h1,h2,h3⟩=>⟨_,h1,v,rfl,h2.base (Nat.le_trans hs3 hb4.size),hb4.trans (h3.mono hb4.size)⟩) (some 52) rfl ?_;rintro z5 w5 ⟨u5,rfl,ho5,hb5⟩;refine⟨⟨⟨w5,hb5⟩,rfl⟩,?_⟩;simp only[aO,aB,aG,aH];refine rE 8 4 0 ⟨⟨w5,hb5⟩,rfl⟩ ?_;simp only[List.drop_succ_cons,bD,aZ,bE]
       iterate 4 (go_big_quiet_step (fail))
       refine wpQuiet_nil ?_;refine wpAnyH_done (by kernel_rfl) ?_ _;exact⟨rfl,_,_,_,_,_,_,_,_,_,_,_,_,rfl,ho5,hb5⟩
      rintro a' w5 ⟨u5,y44,y45,y46,y47,y48,y49,y50,y51,y52,y53,y54,rfl,ho5,hb5⟩;have HO5:Hid (Au (w.heap.size+1) w5 u5 (((AS m.kind).take (p+1)).flatMap (AU m))):=by show Au _ _ _ _;rw[HS2.out];exact ho5
      have HG5:Hid (w5.heap[w.heap.size]?=some (.cells (Ah m) 27 (0,0))):=(hb5.block _ hs3).trans gk;have HB5:Hid (Below w.heap.size w w5):=HB.out.trans (hb5.mono HB.out.size);clear ho5 hb5;simp only[aO,aB,aG,aH];go_wp2_with fail;go_roundw
      case rel=>exact⟨p+1,by omega,by go_num,HO5.out,HG5.out,HB5.out⟩
      case measure=>simp[intOf];omega
   ·obtain rfl:p=n:=by omega
    have HOb:Hid (Au (w.heap.size+1) wr (.slice ob nb cb) (Fl m)):=by
     have:=HO.out;rw[HN.out,List.take_length] at this;exact this
    have c3:wr.cell? ⟨w.heap.size,0,none⟩=some (.int .i64 m.kind):=by rw[cell_of_row _ _ _ _ _ _ gk,Cx]
    have CS:Hid (∀W,Be W (.slice ob nb cb) (Fl m)→Calls aA 66 #[.int .i64 m.kind,.slice ob nb cb] W fun e w'=> ∃u,e=.returned (.tuple #[u,.int .i64 0])∧Au W.heap.size w' u (DI m)∧Below W.heap.size W w'):=fun W hW=>by
     have:=WC m.kind (.slice ob nb cb) (Fl m) W hW;rw[HSL.out] at this;exact this
    clear HO HLN;go_wp2_with fail;refine(CS.out _ HOb.out.sl).mono ?_;rintro e w5 ⟨u,rfl,hO5,hb5⟩;have HO5:Hid (Au w.heap.size w5 u (DI m)):=hO5.base HB.out.size;have HB5:Hid (Below w.heap.size w w5):=HB.out.trans (hb5.mono HB.out.size);clear hO5 hb5;go_wp2_with fail;go_ret2;rw[HE.out];exact⟨_,rfl,HO5.out,HB5.out⟩
 ·have hr':Bo m=false:=by simpa using hr
  have HE:Hid (Eg m=([],12)):=by show _=_;unfold Eg;rw[if_neg hr]
  rw[hr'] at CR;go_enter Tryz.func39,Tryz.ntmps39
  go_wp2_with (first
   | ((with_reducible refine Bf 27 _ rfl ?_);refine Bc DJ rfl _ rfl w.heap.size 0 rfl _ _ _ (Ah m) hms g10 (AA _ _) ?_))
  rw[←hw1];clear hw1 g10;refine(CR.out _).mono ?_;rintro e w2 ⟨rfl,hb2⟩;have HB2:Hid (Below w.heap.size w w2):=B1.trans (hb2.mono B1.size);clear hb2;go_wp2_with fail;go_ret2;rw[HE.out];exact⟨_,rfl,Au.nil _ _,HB2.out⟩
end
section
open Go.RowKit
theorem Jm(m:Aj)(hm:Bj m)(w:World):Calls aA 15 #[.agg (Ah m)] w fun e w'=>e=.returned (.string ⟨(Eg m).1.toArray⟩)∧Below w.heap.size w w':=by
 have g10:(w.alloc (.cells (Ah m) 27)).heap[w.heap.size]?=some (.cells (Ah m) 27 (0,0)):=Ac _ _ _ rfl;have B1:Hid (Below w.heap.size w (w.alloc (.cells (Ah m) 27))):=(aI _ _).alloc (aD _) _;have hms:=Ch hm;have CE:=UR m hm (w.alloc (.cells (Ah m) 27));obtain⟨bs,hbs⟩:=eX ((Eg m).1);obtain⟨er,her⟩:=eX ((Eg m).2);rw[←hbs, ←her] at CE;rw[←hbs];clear hbs her;go_enter Tryz.func15,Tryz.ntmps15
 go_wp2_with (first
  | ((with_reducible refine Bf 27 _ rfl ?_);refine Bc DJ rfl _ rfl w.heap.size 0 rfl _ _ _ (Ah m) hms g10 (AA _ _) ?_)
  | (go_at_call 39;refine CE.mono ?_;rintro e w1 ⟨u,rfl,hu,hb1⟩;refine OB ?_))
 unfold PV;have HB:Hid _:=B1.out.trans (hb1.mono B1.out.size);have hc:=RH w1 u bs hu.sl;clear hu hb1 g10 CE hm hms;go_wp2_with fail;go_ret;exact⟨rfl,HB.out⟩
def JV(x:Gr):List UInt8:=if x.raw=[] then (Eg x.msg).1 else x.raw
theorem Lx{m:Aj}(h:Bj m):(Eg m).1.length≤1000:=by
 unfold Eg;split
 ·show(FA m.kind.toNat (Fl m)).length≤_;rw[Yv];have h1:(Fl m).length=La m.kind:=LC h _;have:=TU m.kind;omega
 ·decide
theorem TH(x:Gr)(w:World):Calls aA 16 #[.agg (Dd x)] w fun e w'=>e=.returned (.string ⟨(JV x).toArray⟩)∧Below w.heap.size w w':=by
 have g10:(w.alloc (.cells (Dd x) 29)).heap[w.heap.size]?=some (.cells (Dd x) 29 (0,0)):=Ac _ _ _ rfl;have B1:Hid (Below w.heap.size w (w.alloc (.cells (Dd x) 29))):=(aI _ _).alloc (aD _) _;have c70:(w.alloc (.cells (Dd x) 29)).cell? ⟨w.heap.size,70,none⟩=some (.string ⟨x.raw.toArray⟩):=by rw[cell_of_row _ _ _ _ _ _ g10,Afa]
 have hms:=Ch x.hm;have CD:=Jm x.msg x.hm (w.alloc (.cells (Dd x) 29));have f5:=Afb x;by_cases hr:x.raw=[]
 ·rw[hr] at c70;have HE:Hid (JV x=(Eg x.msg).1):=by show _=_;unfold JV;rw[if_pos hr]
  clear hr;obtain⟨bs,hbs⟩:=eX ((Eg x.msg).1);rw[←hbs] at CD HE;clear hbs;go_enter Tryz.func16,Tryz.ntmps16
  go_wp2_with (first
   | ((with_reducible refine Bf 27 _ rfl ?_);refine Bc DJ rfl _ rfl w.heap.size 17 rfl _ _ _ (Ah x.msg) hms g10 f5 ?_)
   | (go_at_call 15;refine CD.mono ?_;rintro e w1 ⟨rfl,hb1⟩))
  go_ret;exact⟨by rw[HE.out];rfl,B1.out.trans (hb1.mono B1.out.size)⟩
 ·have HE:Hid (JV x=x.raw):=by show _=_;unfold JV;rw[if_neg hr]
  obtain⟨rw_,hrw⟩:∃r,r=x.raw:=⟨_,rfl⟩;rw[←hrw] at c70 hr HE
  have hne:rw_.isEmpty=false:=by cases rw_ with
   | nil=>exact absurd rfl hr
   | cons _ _=>rfl
  clear hr hrw;go_enter Tryz.func16,Tryz.ntmps16;go_wp2_with fail;go_ret;exact⟨by rw[HE.out];rfl,B1.out⟩
theorem Ad1{s:H6}{num inc:Int}(h:PW s num inc):AQ 0 (JF s.ca s.ro s.pa s.idl s.hd) (U3 num inc s.le s.be s.ca (⟨[],[],[]⟩:Ay) ⟨s.wa,s.tr,s.ti,[],0⟩):=by
 obtain⟨hr,h1,h2,h3,h4⟩:=h;obtain⟨r1,r2,r3⟩:=Qn hr;refine⟨Zu _,?_,fun x hx=>absurd hx (bB),XB ⟨by omega,h4⟩,Acf (show RZ s.wa s.tr s.ti=some _ from if_pos r2),fun x hx=>absurd hx (bB),⟨by show(0:Int)≤0;decide,by show(0:Int)≤_;decide⟩,aD 0,aD 0,aD 0,?_⟩
 all_goals unfold Us at r1
 ·unfold JF;dsimp only;omega
 ·show s.ca=_;unfold JF;dsimp only;omega
def Fz:Array Value:=#[.bool false,.int .i64 0,.int .i64 0,.bool false,.int .i64 0,.int .i64 0,.int .i64 0,.int .i64 0,.int .i64 0,.int .i64 0,.int .i64 0]
def Agn:Ag:=⟨38,11⟩
theorem Ab8:Agn.Ok:=⟨⟨_,Tryz.underlying38,rfl⟩,by kernel_rfl⟩
def EM(w wr:World)(g gt gh gw:Nat)(R:Rm)(n:Ap Ay):Prop:=∃r,BT w.heap.size wr g gt gh gw R n r∧Below w.heap.size w wr
def tyD:List TypeId:=[63,97,102,75,105,82,141,56]
def Aff(W:World)(k:Nat):Prop:=∃t∈tyD,IW W t k
def Pj(W W':World):Prop:=Ao (Aff W) W W'
theorem Abi:∀i,i<6→∀t∈Rz i,t∈tyD:=by
 have key:((aP 6).all fun i=>(Rz i).all fun t=>tyD.contains t)=true:=by decide
 intro i hi t ht;rw[aN] at key;have k1:=key i (aX.2 hi);rw[aN] at k1;exact List.contains_iff_mem.1 (k1 t ht)
theorem BT.ndTy{B:Nat}{w:World}{g gt gh gw:Nat}{R:Rm}{n:Ap Ay}{r:DU}(h:BT B w g gt gh gw R n r):∀k,Hd g gt gh gw r k→Aff w k:=by
 rintro k ⟨i,hi,hk⟩;obtain⟨t,h1,h2⟩:=h.ty i k hk;exact⟨t,Abi i hi t h1,h2⟩
theorem BT.keptD{B:Nat}{w w':World}{g gt gh gw:Nat}{R:Rm}{n n':Ap Ay}{r:DU}(h:BT B w g gt gh gw R n r)(ht:CZ B w w' g gt gh gw R n' r):Pj w w':=by
 obtain⟨u,_,h2⟩:=ht;exact h2.kept.mono fun k _ e=>h.ndTy k e
section
variable {w wr w':World} {g gt gh gw:Nat} {R:Rm} {n n':Ap Ay}
theorem EM.bel(h:EM w wr g gt gh gw R n):Below w.heap.size w wr:=by obtain⟨_,_,h⟩:=h;exact h
theorem EM.grow(h:EM w wr g gt gh gw R n)(hb:Below wr.heap.size wr w'):EM w w' g gt gh gw R n:=by
 obtain⟨r,h1,h2⟩:=h;exact⟨r,h1.below hb,h2.trans (hb.mono h2.size)⟩
theorem EM.call(h:EM w wr g gt gh gw R n){f:FuncId}{xs:Array Value}{P:Ending→Prop}(hc:∀r,BT w.heap.size wr g gt gh gw R n r→Calls aA f xs wr fun e w'=>P e∧CZ w.heap.size wr w' g gt gh gw R n' r):Calls aA f xs wr fun e w'=>P e∧EM w w' g gt gh gw R n'∧Pj wr w':=by
 obtain⟨r,h1,h2⟩:=h;refine(hc r h1).mono fun e w' q=>⟨q.1,?_,h1.keptD q.2⟩;obtain⟨u,k1,k2⟩:=q.2;exact⟨u,k1,h2.trans (CZ.below h1 q.2)⟩
theorem JP(h:EM w wr g gt gh gw R n){M:Nat}(hi:AQ M R n)(hM:M≤899000)(ix:Int)(hd:List Int)(hH:Ax hd)(now:Int):
  Calls aA 13 #[.pointer (some ⟨g,0,none⟩),.int .i64 ix,.agg (hv hd),.int .i64 now] wr fun e w'=>e=.returned (.tuple #[])∧EM w w' g gt gh gw R (GT (Ar R) n ix hd now)∧Pj wr w':=
 h.call (P:=fun e=>e=.returned (.tuple #[])) fun r hr=>Sk _ _ g gt gh gw R n r hr hi (by omega) ix hd hH now
theorem K5(h:EM w wr g gt gh gw R n){M:Nat}(hi:AQ M R n)(hM:M≤899000)(src:Int)(data:List UInt8)(hl:data.length≤140737488355328)(now:Int):
  Calls aA 14 #[.pointer (some ⟨g,0,none⟩),.int .i64 src,.string ⟨data.toArray⟩,.int .i64 now] wr fun e w'=>e=.returned (.tuple #[])∧EM w w' g gt gh gw R (G1 (Ar R) n src data now)∧Pj wr w':=
 h.call (P:=fun e=>e=.returned (.tuple #[])) fun r hr=>UC _ _ g gt gh gw R n r hr hi (by omega) src data hl now
theorem Tm(h:EM w wr g gt gh gw R n):
  Calls aA 6 #[.pointer (some ⟨g,0,none⟩)] wr fun e w'=>(∃v,e=.returned v∧BZ w.heap.size w' v n.log)∧EM w w' g gt gh gw R {n with log:=[]}∧Pj wr w':=by
 obtain⟨r,h1,h2⟩:=h;refine(Tn _ _ g gt gh gw R n r h1).mono ?_;rintro e w' ⟨rfl,k1,k2,k3⟩;exact⟨⟨_,rfl,k1⟩,⟨_,k2,h2.trans (k3.below (fun k e=>by obtain rfl:k=g:=e;exact h1.hB) h2.size)⟩,k3.mono fun k _ e=>h1.ndTy k ⟨0,by decide,e⟩⟩
end
def GW:Rm:=JF 2 4 4 0 0
def Aai:Ap Ay:=U3 1 1 3 1 2 (⟨[],[],[]⟩:Ay) ⟨2,1,2,[],0⟩
def NO:Aj:=Cg 1 1 1 0 0 1 0 0 2 0 0 0 0 0 (Z,Z) Z
def NN:Aj:=Cg 3 1 0 0 0 0 0 0 0 0 0 1 0 0 (Z,Z) Z
def NM:Aj:=Cg 7 1 1 0 0 0 0 5 0 0 0 0 1 0 (Z,Z) Z
def VQ:Ap Ay:=GT (Ar GW) Aai 7 Z 0
def VP:Ap Ay:=G1 (Ar GW) VQ 0 (Eg NO).1 0
def Aah:Ap Ay:=G1 (Ar GW) VP 0 (Eg NN).1 0
def VO:Ap Ay:=GT (Ar GW) Aah 8 Z 0
def Aag:Ap Ay:=G1 (Ar GW) VO 2 (Eg NM).1 1
def Af5:Ap Ay:=GT (Ar GW) Aag 9 Z 1
theorem Af4:Af5.log=[⟨6,1,0,7,0,0,2,0,Z,(Z,Z)⟩,⟨16,1,0,0,1,0,0,0,Z,(Z,Z)⟩,⟨9,1,2,8,1,0,0,0,Z,(Z,Z)⟩,⟨10,1,0,0,1,5,0,0,Z,(Z,Z)⟩,⟨5,1,0,8,0,5,0,0,Z,(Z,Z)⟩,⟨5,1,0,9,0,5,0,0,Z,(Z,Z)⟩]:=by
 kernel_rfl
end
end Go.Proofs.YtbhkoipcpcoooabGreat
