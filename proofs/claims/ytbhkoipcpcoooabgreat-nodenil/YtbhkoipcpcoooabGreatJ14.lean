import Derived.Test.YtbhkoipcpcoooabGreatJ13
import Derived.Maps.AppendAt
namespace Go.Proofs.YtbhkoipcpcoooabGreat
set_option maxRecDepth 20000
set_option maxHeartbeats 64000000
open Go
open _root_.Nat renaming le_refl → aA, zero_le → aT
open Go.Proofs.Tryz renaming prog → aB, ntmps54 → aO, func54 → aP, ntmps79 → aZ, func79 → bB
open Go.Lib renaming byteCells → aC, byteCells_length → aH
open _root_.List renaming setIfInBounds_toArray → aD, set_cons_succ → aI, set_cons_zero → aJ, take_of_length_le → aL, getElem?_eq_getElem → aM, length_append → aQ, take_length → aR, drop_of_length_le → aV, drop_zero → aW, take_zero → aX, take_succ_cons → aY, take_add_one → bA, length_drop → bD, append_nil → bE, nil_append → bF, map_append → bG
open Go.RowKit.Below renaming refl → aG
open _root_.Array renaming getElem?_eq_some_iff → aK
open Go.Act renaming put → aN
section
open Go.Lib Go.RowKit
theorem JR(w:World)(r:Option Nat):w.grownBy w r:=⟨rfl,rfl,rfl,aA _,fun _ _ _=>rfl⟩
theorem JS{u w:World}{g:Nat}(h:u.grownBy w (some g))(k:Nat)(v:Value):u.grownBy (w.setCell ⟨g,k,none⟩ v) (some g):=
 h.trans ⟨rfl,rfl,rfl,by simp,fun i _ hi=>heap_setCell_other w ⟨g,k,none⟩ i v (fun e=>hi (by rw[e]))⟩
theorem G6{u w:World}{g:Nat}(h:u.grownBy w (some g))(cs:Array Value):u.grownBy (w.setRow g cs) (some g):=
 h.trans ⟨rfl,rfl,rfl,by simp,fun i _ hi=>setRow_other w g i cs (fun e=>hi (by rw[e]))⟩
theorem Fo{u w w':World}{r:Option Nat}(h:u.grownBy w r)(hb:Below w.heap.size w w'):u.grownBy w' r:=
 h.trans ⟨hb.os,hb.tape,hb.output,hb.size,fun i hi _=>hb.block i hi⟩
theorem LJ{B:Nat}{u w w':World}{g:Nat}(h:Below B u w)(hg:w.grownBy w' (some g))(hB:B≤g)(hs:B≤w.heap.size):Below B u w':=
 h.grown hg hs fun k hk=>by cases hk;exact hB
theorem FR{ops:Array Oper}{rest:List Oper}{o:Oper}{a:Act}{w:World}{Q:Exit→Act→World→Prop}(hg:o.guard=none)(ho:o.op=.build 23 #[])
  (h:wpList aB ops Q rest (a.put o.dst (.agg (hv Z))) w):wpList aB ops Q (o::rest) a w:=
 wpList_plain hg fun _ hK=>by
  unfold Oper.wp execOp
  have e:((#[]:Array (Nat×Operand)).map (fun(i,x)=>(i,a.eval x)))=#[]:=by simp
  have hb:(Instr.build 23 #[]).run aB w=.ok (.agg (hv Z)) w:=by
   rw[←V9];kernel_rfl
  simp only[ho,Sem.run_bind];rw[e,hb];exact hK _ _ h
def Fw(m:Aj):List Nat→Aj
 | []=>m
 | j::ns=>Fw (Hk m j 0) ns
theorem SI(m:Aj):∀(a b:List Nat),Fw m (a++b)=Fw (Fw m a) b
 | [],_=>rfl
 | j::a,b=>SI (Hk m j 0) a b
theorem Up:∀(ns:List Nat) {m:Aj},Bj m→Bj (Fw m ns)
 | [],_,h=>h
 | j::ns,_,h=>Up ns (MF h j 0)
def Fm(m:Aj)(ns:List Nat)(c d:Bool):Aj:=
 let m1:=Fw m ns
 let m2:=if c then Es m1 Z Z else m1
 if d then IZ m2 Z else m2
theorem Vv(h g:Nat)(ns:List Nat)(c d:Bool)(m:Aj)(w:World)(H:Fi w h g ns m)(hl:ns.length≤7)(hne:h≠g):
  Calls aB 124 #[.agg (Cc h g ns.length c d)] w fun e w'=>e=.returned (.tuple #[])∧w'.heap[g]?=some (.cells (Ah (Fm m ns c d)) 27 (0,0))∧w.grownBy w' (some g):=by
 obtain⟨n,hn⟩:=eX ns.length;have HN:Hid _:=hn;rw[←hn] at hl ⊢;clear hn;have HNS:Hid (∀j∈ns,j<13):=H.hn;have HM:Hid (Bj m):=H.hm;have hgl:=(gS H.hg);have hhl:=(gS H.hh);obtain⟨w1,hw1⟩:=eX (w.alloc (.cells (Cc h g n c d) 118));have HI:Hid (Fi w1 h g ns m):=by rw[hw1];exact H.alloc _
 have HF:Hid (w1.heap[w.heap.size]?=some (.cells (Cc h g n c d) 118 (0,0))):=by rw[hw1];exact Ac _ _ _ rfl
 have HB:Hid (w.grownBy w1 (some g)):=by rw[hw1];exact Fo (JR _ _) ((aG _ _).alloc (aA _) _)
 have c0:w1.cell? ⟨w.heap.size,0,none⟩=some (.slice (some ⟨h,0,none⟩) n n):=by rw[hw1,Hm];rfl
 rw[hw1] at c0;clear H;go_enter Tryz.func124,Tryz.ntmps124;go_wp2_with fail;rw[←hw1] at c0 ⊢;clear hw1 c0;go_loopw [7] (fun i W=> ∃k:Nat,k≤n∧i=.int .i64 k∧Fi W h g ns (Fw m (ns.take k))∧W.heap[w.heap.size]?=some (.cells (Cc h g n c d) 118 (0,0))∧w.grownBy W (some g)) (fun i _=>n-(intOf i).toNat)
 case atStart=>exact⟨0,aT _,rfl,HI.out,HF.out,HB.out⟩
 case round=>
  clear HI HF HB;obtain⟨k,hk,rfl,hI,hF,hB⟩:=hrel;have HI:Hid _:=hI;have HF:Hid _:=hF;have HB:Hid _:=hB;clear hI hF hB;by_cases hlt:k<n
  ·obtain⟨j,hj⟩:∃j,ns[k]?=some j:=⟨_,aM (by rw[←HN.out];exact hlt)⟩;obtain⟨e1,e2,hj13⟩:=HI.out.at hj;have HJ:Hid _:=hj;have f2:wr.frozen? ⟨g,j+1,none⟩=false:=frozen_of_row _ _ _ _ _ HI.out.hg;obtain⟨x,hx⟩:=eX (Ad (Fw m (ns.take k)) j);rw[←hx] at e2;clear hj hx
   have HT:Hid (Fw m (ns.take (k+1))=Hk (Fw m (ns.take k)) j 0):=by
    show _=_;rw[bA,HJ.out,SI];rfl
   go_wp2_with fail;refine⟨⟨k+1,by omega,by go_num,⟨?_,?_,?_,HNS.out⟩,?_,JS HB.out _ _⟩,by simp[intOf];omega⟩
   ·rw[HT.out, ←Uc HI.out.hm j hj13 0];exact heap_setCell_same _ _ _ _ _ _ HI.out.hg
   ·exact(heap_setCell_other _ ⟨g,j+1,none⟩ h _ (by simpa using hne)).trans HI.out.hh
   ·rw[HT.out];exact MF HI.out.hm j 0
   ·exact(heap_setCell_other _ ⟨g,j+1,none⟩ w.heap.size _ (by simp;omega)).trans HF.out
  ·obtain rfl:k=n:=by omega
   have HI2:Hid (Fi wr h g ns (Fw m ns)):=by
    have:=HI.out;rw[HN.out,aR] at this;exact this
   clear HI;obtain⟨m1,hm1⟩:=eX (Fw m ns);have HC:Hid (Fm m ns c d=(let m2:=if c then Es m1 Z Z else m1;if d then IZ m2 Z else m2)):=by show _=_;rw[hm1];rfl
   rw[←hm1] at HI2;clear hm1;have hgm:=HI2.out.hg;have hmm:=HI2.out.hm;have hms:=Ch hmm;have c1:wr.cell? ⟨w.heap.size,1,none⟩=some (Md g c):=cell_of_row _ _ _ _ _ _ HF.out;have c2:wr.cell? ⟨w.heap.size,2,none⟩=some (Mc g d):=cell_of_row _ _ _ _ _ _ HF.out
   cases c with
   | false=>
    have c1':wr.cell? ⟨w.heap.size,1,none⟩=some (.pointer none):=c1;clear c1
    cases d with
    | false=>
     have c2':wr.cell? ⟨w.heap.size,2,none⟩=some (.pointer none):=c2;clear c2;go_wp2_with fail;go_end0;rw[HC.out];exact⟨rfl,hgm,HB.out⟩
    | true=>
     have c2':wr.cell? ⟨w.heap.size,2,none⟩=some (.pointer (some ⟨g,40,none⟩)):=c2;clear c2
     go_wp2_with (first
      | ((with_reducible refine BP 25 _ rfl ?_);refine Hj rfl rfl ?_)
      | ((with_reducible refine BP 23 _ rfl ?_);refine FR rfl rfl ?_)
      | ((with_reducible refine Da 25 _ _ rfl ?_);refine FSx Ds rfl _ _ rfl g 14 rfl (cv Z Z) ⟨AO _ _ AX.1 AX.1,FL _ _⟩ rfl _ _ hgm (by rw[hms];decide) _ (MN hmm Z Z) ?_)
      | ((with_reducible refine Da 23 _ _ rfl ?_);refine FSx Iw rfl _ _ rfl g 40 rfl (hv Z) ⟨by rw[DE,AX.1];rfl,KT _⟩ rfl _ _ hgm (by rw[hms];decide) _ (MM hmm Z) ?_))
     try simp only[aN]
     go_wp2_with fail;go_end0;rw[HC.out];exact⟨rfl,setRow_heap _ _ _ _ _ _ hgm,G6 HB.out _⟩
   | true=>
    have c1':wr.cell? ⟨w.heap.size,1,none⟩=some (.pointer (some ⟨g,14,none⟩)):=c1;clear c1 c2;have hg2:=setRow_heap _ _ _ (Ah (Es m1 Z Z)) _ _ hgm;have hm2:Bj (Es m1 Z Z):=Kb hmm AX AX;have hms2:=Ch hm2;have HB2:Hid (w.grownBy (wr.setRow g (Ah (Es m1 Z Z))) (some g)):=G6 HB.out _
    cases d with
    | false=>
     have d2:(wr.setRow g (Ah (Es m1 Z Z))).cell? ⟨w.heap.size,2,none⟩=some (.pointer none):=by
      rw[cell_of_row _ _ _ _ _ _ ((setRow_other wr g w.heap.size _ (by omega)).trans HF.out)];rfl
     go_wp2_with (first
      | ((with_reducible refine BP 23 _ rfl ?_);refine FR rfl rfl ?_)
      | ((with_reducible refine Da 23 _ _ rfl ?_);refine FSx Iw rfl _ _ rfl g 40 rfl (hv Z) ⟨by rw[DE,AX.1];rfl,KT _⟩ rfl _ _ hg2 (by rw[hms2];decide) _ (MM hm2 Z) ?_)
      | ((with_reducible refine BP 25 _ rfl ?_);refine Hj rfl rfl ?_)
      | ((with_reducible refine Da 25 _ _ rfl ?_);refine FSx Ds rfl _ _ rfl g 14 rfl (cv Z Z) ⟨AO _ _ AX.1 AX.1,FL _ _⟩ rfl _ _ hgm (by rw[hms];decide) _ (MN hmm Z Z) ?_))
     try simp only[aN]
     go_wp2_with fail;go_end0;rw[HC.out];exact⟨rfl,hg2,HB2.out⟩
    | true=>
     have d2:(wr.setRow g (Ah (Es m1 Z Z))).cell? ⟨w.heap.size,2,none⟩=some (.pointer (some ⟨g,40,none⟩)):=by
      rw[cell_of_row _ _ _ _ _ _ ((setRow_other wr g w.heap.size _ (by omega)).trans HF.out)];rfl
     go_wp2_with (first
      | ((with_reducible refine BP 23 _ rfl ?_);refine FR rfl rfl ?_)
      | ((with_reducible refine Da 23 _ _ rfl ?_);refine FSx Iw rfl _ _ rfl g 40 rfl (hv Z) ⟨by rw[DE,AX.1];rfl,KT _⟩ rfl _ _ hg2 (by rw[hms2];decide) _ (MM hm2 Z) ?_)
      | ((with_reducible refine BP 25 _ rfl ?_);refine Hj rfl rfl ?_)
      | ((with_reducible refine Da 25 _ _ rfl ?_);refine FSx Ds rfl _ _ rfl g 14 rfl (cv Z Z) ⟨AO _ _ AX.1 AX.1,FL _ _⟩ rfl _ _ hgm (by rw[hms];decide) _ (MN hmm Z Z) ?_))
     try simp only[aN]
     go_wp2_with fail;go_end0;rw[HC.out];exact⟨rfl,setRow_heap _ _ _ _ _ _ hg2,G6 HB2.out _⟩
theorem XF(h g n:Nat)(c d:Bool)(w:World)(hl:n≤7):
  Calls aB 77 #[.agg (Cc h g n c d)] w fun e w'=>e=.returned (.int .i64 ((n*6+(if c then 26 else 0)+(if d then 13 else 0):Nat):Int))∧Below w.heap.size w w':=by
 obtain⟨w1,hw1⟩:=eX (w.alloc (.cells (Cc h g n c d) 118));have HB:Hid (Below w.heap.size w w1):=by rw[hw1];exact(aG _ _).alloc (aA _) _
 have c0:w1.cell? ⟨w.heap.size,0,none⟩=some (.slice (some ⟨h,0,none⟩) n n):=by rw[hw1,Hm];rfl
 have c1:w1.cell? ⟨w.heap.size,1,none⟩=some (Md g c):=by rw[hw1,Hm];rfl
 have c2:w1.cell? ⟨w.heap.size,2,none⟩=some (Mc g d):=by rw[hw1,Hm];rfl
 rw[hw1] at c0 c1 c2 HB;clear hw1
 cases c
 all_goals cases d
 all_goals (
  simp only[Md,Mc,if_true,if_false,Bool.false_eq_true] at c1 c2;go_enter Tryz.func77,Tryz.ntmps77;go_wp2_with fail;go_ret;refine⟨?_,HB.out⟩;apply Abz;simp)
end
section
open Go.RowKit
theorem Wa(v:Value)(L:List UInt8)(w:World)(hL:Be w v L)(hl:L.length≤140737488355328):
  Calls aB 54 #[v] w fun e w'=> ∃u,e=.returned (.tuple #[.int .i64 (DZ L).1,u,.int .i64 (DZ L).2.2])∧Au w.heap.size w' u (DZ L).2.1∧Below w.heap.size w w':=by
 have HL:Hid (Be w v L):=hL;obtain⟨ov,cv,hv,hc1,hc2⟩:=hL.slice;subst hv;clear hL;obtain⟨n,hn⟩:=eX L.length;have HN:Hid (n=L.length):=hn;rw[←hn] at HL hc1 hl ⊢;clear hn;have hcm:=hc2;unfold maxLen at hc2;by_cases h3:3≤n
 ·obtain⟨g,off,_,rfl,_,_⟩:=HL.out.at 2 (by omega)
  have HA:Hid (Be w (.slice (some ⟨g,off,none⟩) 2 cv) (L.take 2)):=by
   have:=HL.out.part g off 0 2 cv rfl (by omega) (by omega) hcm;rw[Nat.add_zero,aW] at this;exact this
  have HK:Hid (Be w (.slice (some ⟨g,off+2,none⟩) 1 (cv-2)) ((L.drop 2).take 1)):=HL.out.part g off 2 1 (cv-2) rfl (by omega) (by omega) (by omega)
  have CA:Hid (∀W,W=w→Calls aB 75 #[.slice (some ⟨g,off,none⟩) 2 cv] W fun e w'=>e=.returned (.int .u64 (CY (L.take 2):Int))∧w'=W):=fun W hW=>by
   subst hW;exact Lg _ _ W HA.out (by simp;omega)
  have CK:Hid (∀W,W=w→Calls aB 75 #[.slice (some ⟨g,off+2,none⟩) 1 (cv-2)] W fun e w'=>e=.returned (.int .u64 (CY ((L.drop 2).take 1):Int))∧w'=W):=fun W hW=>by
   subst hW;exact Lg _ _ W HK.out (by simp;omega)
  have HO:=UX L (by rw[←HN.out];exact h3)
  have hk1:CY ((L.drop 2).take 1)<256:=by
   have:=KE ((L.drop 2).take 1);have e:((L.drop 2).take 1).length=1:=by simp;rw[←HN.out];omega
   rwa [e] at this
  have ha1:CY (L.take 2)<65536:=by
   have:=KE (L.take 2);have e:(L.take 2).length=2:=by simp;rw[←HN.out];omega
   rwa [e] at this
  rw[←HN.out] at HO;obtain⟨a,ha⟩:=eX (CY (L.take 2));obtain⟨k,hk⟩:=eX (CY ((L.drop 2).take 1));rw[←ha] at CA HO ha1;rw[←hk] at CK HO hk1;clear ha hk HA HK;by_cases hc3:cv=3
  ·subst hc3;obtain rfl:n=3:=by omega
   have HBd:Hid (Be w (.slice (some ⟨g,off,none⟩) 0 0) (L.drop 3)):=by show Be _ _ _;rw[List.drop_eq_nil_of_le (by rw[←HN.out];exact aA _)];exact Aac _ _ _ (aT _)
   have HJ:Hid (∀(g2:Nat) (W:World),W.heap[g2]?=some (.cells #[.slice (some ⟨g,off,none⟩) 0 0] 85 (0,0))→Be W (.slice (some ⟨g,off,none⟩) 0 0) (L.drop 3)→Calls aB 76 #[.slice (some ⟨g2,0,none⟩) 1 1] W fun e w'=> ∃v,e=.returned v∧Au W.heap.size w' v (L.drop 3)∧Below W.heap.size W w'):=fun g2 W g3 g4=>by
    refine(JN g2 [.slice (some ⟨g,off,none⟩) 0 0] [L.drop 3] W g3 (by simp) ⟨g4,trivial⟩ ?_).mono ?_
    ·simp;rw[←HN.out];omega
    ·rintro e w' ⟨u,rfl,h4,h5⟩;exact⟨u,rfl,by simpa using h4,h5⟩
   by_cases hq:a=0
   ·have HP:Hid (DZ L=((k:Int),L.drop 3,0)):=by show _=_;unfold DZ;rw[HO,if_pos hq]
    have hqi:((a:Int)==0)=true:=by simp;exact hq
    clear hq HO;go_enter aP,aO;go_wp2_with fail;refine(CA.out _ rfl).mono ?_;rintro e w1 ⟨rfl,rfl⟩;go_wp2_with fail;refine(CK.out _ rfl).mono ?_;rintro e w2 ⟨rfl,rfl⟩;go_wp2_with (refine JB rfl 1 _ rfl #[.slice (some ⟨g,off,none⟩) 0 0] (by decide) (by decide) rfl ?_);refine(HJ.out _ _ (Ac _ _ _ rfl) (HBd.out.alloc _)).mono ?_;rintro e w3 ⟨y,rfl,ho,hb⟩;have HOw:Hid (Au w2.heap.size w3 y (L.drop 3)):=ho.base (by simp);have HB3:Hid (Below w2.heap.size w2 w3):=((aG _ _).alloc (aA _) _).trans (hb.mono (by simp));clear ho hb;go_wp2_with fail;go_ret3;rw[HP.out];exact⟨y,rfl,HOw.out,HB3.out⟩
   ·have HP:Hid (DZ L=(0,[],12)):=by show _=_;unfold DZ;rw[HO,if_neg hq]
    have hqi:((a:Int)==0)=false:=by simp;exact hq
    clear hq HO;go_enter aP,aO;go_wp2_with fail;refine(CA.out _ rfl).mono ?_;rintro e w1 ⟨rfl,rfl⟩;go_wp2_with fail;go_ret3;rw[HP.out];exact⟨_,rfl,Au.nil _ _,aG _ _⟩
  ·have hc4:3<cv:=by omega
   have HBd:Hid (Be w (.slice (some ⟨g,off+3,none⟩) (n-3) (cv-3)) (L.drop 3)):=by
    have:=HL.out.part g off 3 (n-3) (cv-3) rfl (by omega) (by omega) (by omega);rw[aL (by simp;rw[←HN.out];omega)] at this;exact this
   have HJ:Hid (∀(g2:Nat) (W:World),W.heap[g2]?=some (.cells #[.slice (some ⟨g,off+3,none⟩) (n-3) (cv-3)] 85 (0,0))→Be W (.slice (some ⟨g,off+3,none⟩) (n-3) (cv-3)) (L.drop 3)→Calls aB 76 #[.slice (some ⟨g2,0,none⟩) 1 1] W fun e w'=> ∃v,e=.returned v∧Au W.heap.size w' v (L.drop 3)∧Below W.heap.size W w'):=fun g2 W g3 g4=>by
    refine(JN g2 [.slice (some ⟨g,off+3,none⟩) (n-3) (cv-3)] [L.drop 3] W g3 (by simp) ⟨g4,trivial⟩ ?_).mono ?_
    ·simp;rw[←HN.out];omega
    ·rintro e w' ⟨u,rfl,h4,h5⟩;exact⟨u,rfl,by simpa using h4,h5⟩
   by_cases hq:a=n-3
   ·have HP:Hid (DZ L=((k:Int),L.drop 3,0)):=by show _=_;unfold DZ;rw[HO,if_pos hq]
    have hqi:((a:Int)==((n-3:Nat):Int))=true:=by simp;omega
    clear hq HO;go_enter aP,aO;go_wp2_with fail;refine(CA.out _ rfl).mono ?_;rintro e w1 ⟨rfl,rfl⟩;go_wp2_with fail;refine(CK.out _ rfl).mono ?_;rintro e w2 ⟨rfl,rfl⟩;go_wp2_with (refine JB rfl 1 _ rfl #[.slice (some ⟨g,off+3,none⟩) (n-3) (cv-3)] (by decide) (by decide) rfl ?_);refine(HJ.out _ _ (Ac _ _ _ rfl) (HBd.out.alloc _)).mono ?_;rintro e w3 ⟨y,rfl,ho,hb⟩;have HOw:Hid (Au w2.heap.size w3 y (L.drop 3)):=ho.base (by simp);have HB3:Hid (Below w2.heap.size w2 w3):=((aG _ _).alloc (aA _) _).trans (hb.mono (by simp));clear ho hb;go_wp2_with fail;go_ret3;rw[HP.out];exact⟨y,rfl,HOw.out,HB3.out⟩
   ·have HP:Hid (DZ L=(0,[],12)):=by show _=_;unfold DZ;rw[HO,if_neg hq]
    have hqi:((a:Int)==((n-3:Nat):Int))=false:=by simp;omega
    clear hq HO;go_enter aP,aO;go_wp2_with fail;refine(CA.out _ rfl).mono ?_;rintro e w1 ⟨rfl,rfl⟩;go_wp2_with fail;go_ret3;rw[HP.out];exact⟨_,rfl,Au.nil _ _,aG _ _⟩
 ·have HP:Hid (DZ L=(0,[],12)):=by show _=_;unfold DZ;rw[Tl L (by rw[←HN.out];exact h3)]
  have hn:(n:Int)<3:=by omega
  go_enter aP,aO;go_wp2_with fail;go_ret3;rw[HP.out];exact⟨_,rfl,Au.nil _ _,aG _ _⟩
theorem TZ(w:World)(L:List UInt8)(hl:L.length≤1000):Au w.heap.size (w.alloc (.cells (aC L).toArray 5)) (.slice (some ⟨w.heap.size,0,none⟩) L.length L.length) L:=by
 have:=World.ownsRow_lit (base:=w.heap.size) (e:=5) (size:=1) w (aC L).toArray L.length (aA _) (by unfold maxLen;omega) (by simp[aC]);simpa[Au] using this
theorem Ea{w:World}{v:Value}{L:List UInt8}(h:Be w v L):∃o n c,v=.slice o n c:=by obtain⟨o,c,h,_⟩:=h.slice;exact⟨o,_,c,h⟩
theorem Jr(w:World)(c:UInt8):Au w.heap.size (w.alloc (.cells #[.int .u8 (c.toNat:Int)] 5)) (.slice (some ⟨w.heap.size,0,none⟩) 1 1) [c]:=TZ w [c] (by simp)
theorem Lf(w:World):Au w.heap.size (w.alloc (.cells #[] 5)) (.slice (some ⟨w.heap.size,0,none⟩) 0 0) []:=TZ w [] (by simp)
theorem Ot(v:Value)(L:List UInt8)(w:World)(hL:Be w v L)(hl:L.length≤140737488355328):
  Calls aB 93 #[v] w fun e w'=> ∃u,e=.returned u∧Au w.heap.size w' u L∧Below w.heap.size w w':=by
 have HL:Hid (Be w v L):=hL;obtain⟨ov,nv,cv,rfl⟩:∃o n c,v=.slice o n c:=by obtain⟨o,c,h,_⟩:=hL.slice;exact⟨o,_,c,h⟩
 clear hL;go_enter Tryz.func93,Tryz.ntmps93
 go_wp2_with (first
  | (at_builtin;refine Fd ?_))
 unfold Hg;refine FD rfl _ _ rfl w.heap.size _ (.slice ov nv cv) [] L rfl (Lf w) rfl (HL.out.alloc _) (by simpa using hl) (by simp) ?_;intro v' w' ho hgr _;have HO:Hid (Au w.heap.size w' v' L):=ho;have HB:Hid (Below w.heap.size w w'):=((aG w.heap.size w).alloc (aA _) _).grown hgr (by simp) fun q hq=>((Lf w).ge q hq).1;simp only[pU];clear ho hgr;go_wp2_with fail;go_ret;exact⟨_,rfl,HO.out,HB.out⟩
theorem RJ(v:Value)(L:List UInt8)(n:Nat)(s:Int)(w:World)(hL:Be w v L)(hl:L.length≤140737488351232)(hn:n<18446744073709551616):
  Calls aB 64 #[v,.int .u64 (n:Int),.int .i64 s] w fun e w'=> ∃u,e=.returned (.tuple #[u,.int .i64 (FH L n s).2])∧Au w.heap.size w' u (FH L n s).1∧Below w.heap.size w w':=by
 have HL:Hid (Be w v L):=hL;obtain⟨ov,nv,cv,rfl⟩:∃o n c,v=.slice o n c:=by obtain⟨o,c,h,_⟩:=hL.slice;exact⟨o,_,c,h⟩
 clear hL;by_cases hc:Gp s=true
 ·have hs:=(LA s).1 hc;obtain⟨m,rfl⟩:∃m:Nat,s=m:=⟨s.toNat,by omega⟩;have hs1:1≤(m:Int):=hs.1;have hs2:(m:Int)≤8:=hs.2;have HP:Hid (FH L n m=if n<256 ^ m then (L++BY m n,0) else ([],10)):=by show _=_;unfold FH;rw[if_pos hc];simp
  clear hc hs;go_enter Tryz.func64,Tryz.ntmps64;go_wp2_with fail;go_loopw [1,8,9] (fun a x i W=> ∃k:Nat,k≤m∧i=.int .i64 k∧a=.int .u64 ((n/256 ^ k:Nat):Int)∧Au w.heap.size W x (BY k n)∧Below w.heap.size w W) (fun _ _ i _=>m-(intOf i).toNat)
  case atStart=>exact⟨0,aT _,rfl,by simp,Lf w,(aG _ _).alloc (aA _) _⟩
  case round=>
   obtain⟨k,hk,rfl,rfl,ho,hb⟩:=hrel;obtain⟨ox,nx,cx,rfl⟩:=Ea ho.sl;have HO:Hid (Au w.heap.size wr (.slice ox nx cx) (BY k n)):=ho;have HB:Hid (Below w.heap.size w wr):=hb;have hsz:=hb.size;obtain⟨q,hq⟩:∃q,q=n/256 ^ k:=⟨_,rfl⟩;have HQ:Hid (q=n/256 ^ k):=hq;have hqn:q<18446744073709551616:=by rw[hq];exact Nat.lt_of_le_of_lt (Nat.div_le_self _ _) hn
   rw[←hq];clear ho hb hq;by_cases hlt:k<m
   ·have HC:Hid ((q:Int)%256=((UInt8.ofNat (n/256 ^ k%256)).toNat:Int)):=by
     show _=_;rw[UInt8.toNat_ofNat',Nat.mod_mod,HQ.out];simp
    have HN2:Hid (n/256 ^ (k+1)=q/256):=by
     show _=_;rw[HQ.out,Nat.div_div_eq_div_mul,Nat.pow_succ]
    go_wp2_with (first
     | (at_builtin;refine Fd ?_))
    unfold Hg
    first | rw[HC.out]|(rw[Int.emod_emod_of_dvd _ (by decide),HC.out])
    refine FD rfl _ _ rfl wr.heap.size _ (.slice ox nx cx) [_] (BY k n) rfl (Jr wr _) rfl (HO.out.sl.alloc _) (by rw[E9];simp;omega) (by simp) ?_;intro v' w' ho hgr _
    have HO2:Hid (Au w.heap.size w' v' (BY (k+1) n)):=by
     rw[Mt];exact ho.base hsz
    have HB2:Hid (Below w.heap.size w w'):=HB.out.trans ((((aG wr.heap.size wr).alloc (aA _) _).grown hgr (by simp) fun q hq=>((Jr wr (UInt8.ofNat (n/256 ^ k%256))).ge q hq).1).mono hsz);simp only[aN,aD,aI,aJ];clear ho hgr;go_wp2_with fail;go_roundw
    case rel=>exact⟨k+1,by omega,by go_num,by rw[HN2.out];first | rfl | simp,HO2.out,HB2.out⟩
    case measure=>simp[intOf];omega
   ·obtain rfl:k=m:=by omega
    by_cases hr:n<256 ^ k
    ·rw[if_pos hr] at HP;have h0:¬0<q:=by rw[HQ.out,Nat.div_eq_of_lt hr];decide
     have CB:Hid (∀W,Below w.heap.size w W→Calls aB 93 #[.slice ov nv cv] W fun e w'=> ∃u,e=.returned u∧Au W.heap.size w' u L∧Below W.heap.size W w'):=fun W hW=>Ot _ L W (HL.out.below hW) (by omega);clear hr;go_wp2_with fail;refine(CB.out _ HB.out).mono ?_;rintro e w1 ⟨u,rfl,ho1,hb1⟩;obtain⟨ou,nu,cu,rfl⟩:=Ea ho1.sl;have HO1:Hid (Au w.heap.size w1 (.slice ou nu cu) L):=ho1.base hsz;have HX1:Hid (Be w1 (.slice ox nx cx) (BY k n)):=HO.out.sl.below hb1;have HB1:Hid (Below w.heap.size w w1):=HB.out.trans (hb1.mono hsz);clear ho1 hb1
     go_wp2_with (first
      | (at_builtin;refine Fd ?_))
     unfold Hg;refine FD rfl _ _ rfl w.heap.size (.slice ou nu cu) (.slice ox nx cx) L (BY k n) rfl HO1.out rfl HX1.out (by rw[E9];omega) HB1.out.size ?_;intro v' w' ho hgr _;have HO2:Hid (Au w.heap.size w' v' (L++BY k n)):=ho;have HB2:Hid (Below w.heap.size w w'):=HB1.out.grown hgr HB1.out.size fun q hq=>(HO1.out.ge q hq).1;simp only[aN,aD,aI,aJ];clear ho hgr;go_wp2_with fail;go_ret2;rw[HP.out];exact⟨_,rfl,HO2.out,HB2.out⟩
    ·rw[if_neg hr] at HP;have h0:0<q:=by rw[HQ.out];exact Nat.div_pos (by omega) (Nat.pow_pos (by decide))
     clear hr;go_wp2_with fail;go_ret2;rw[HP.out];exact⟨_,rfl,Au.nil _ _,HB.out⟩
 ·have HP:Hid (FH L n s=([],1)):=by show _=_;unfold FH;rw[if_neg hc]
  have hc':s<1∨8<s:=by have:=mt (LA s).2 hc;omega
  clear hc;rcases hc' with hc' | hc'
  all_goals
   go_enter Tryz.func64,Tryz.ntmps64;go_wp2_with fail;go_ret2;rw[HP.out];exact⟨_,rfl,Au.nil _ _,aG _ _⟩
end
section
open Go.Lib Go.RowKit
def IV(m:Aj)(ns:List Nat)(c d:Bool):List UInt8:=ns.flatMap (AU m)++((if c then Ep m.cube.1 m.cube.2 else [])++(if d then Cm m.head else []))
theorem XI{m:Aj}{ns:List Nat}{k j:Nat}(hj:ns[k]?=some j)(hl:j<13):(ns.take (k+1)).flatMap (AU m)=(ns.take k).flatMap (AU m)++BY 6 (Ad m j).toNat:=by
 rw[bA,hj,List.flatMap_append];congr 1;show AU m j++[]=_;rw[bE];unfold AU;rw[if_neg (by omega),if_neg (by omega)]
theorem Sv{m:Aj}:∀ {ns:List Nat},(∀j∈ns,j<13)→(ns.flatMap (AU m)).length=ns.length*6
 | [],_=>rfl
 | j::ns,h=>by
  have h1:=h j List.mem_cons_self
  rw[List.flatMap_cons,aQ,Sv (fun x hx=>h x (List.mem_cons_of_mem _ hx)),List.length_cons]
  have:(AU m j).length=6:=by
   unfold AU;rw[if_neg (by omega),if_neg (by omega),E9]
  omega
theorem SO{w:World}{g:Nat}{m:Aj}(hm:Bj m)(h:w.heap[g]?=some (.cells (Ah m) 27 (0,0))):Be w (.slice (some ⟨g,40,none⟩) 13 13) (Cm m.head):=by
 have hH:=hm.2.2.2;have hl:(Cm m.head).length=13:=by rw[Db,hH.1]
 refine⟨_,13,by rw[hl],by rw[hl];exact aA _,by unfold maxLen;omega,(fun e=>by cases e),fun i hi=>⟨g,40,_,_,_,rfl,h,?_⟩⟩;rw[hl] at hi;rw[Js hm i hi,IL _ hH.1 i hi, ←(JW hH i hi).2,List.getD_eq_getElem?_getD,aM (by omega)];rfl
theorem Vw(h g:Nat)(ns:List Nat)(c d:Bool)(m:Aj)(w:World)(H:Fi w h g ns m)(hl:ns.length≤7)(hR:DQ m ns c=true):
  Calls aB 100 #[.agg (Cc h g ns.length c d)] w fun e w'=> ∃u,e=.returned u∧Au w.heap.size w' u (IV m ns c d)∧Below w.heap.size w w':=by
 obtain⟨n,hn⟩:∃n,n=ns.length:=⟨_,rfl⟩;have HN:Hid (n=ns.length):=hn;rw[←hn] at hl ⊢;clear hn;have HNS:Hid (∀j∈ns,j<13):=H.hn
 have HR:Hid (∀j∈ns,inN (Ad m j)=true):=by
  unfold DQ at hR;rw[Bool.and_eq_true] at hR;exact List.all_eq_true.1 hR.1
 have HRC:Hid (c=true→AH m.cube.1 m.cube.2=m.cube.1):=fun hc=>by
  unfold DQ at hR;rw[Bool.and_eq_true,hc] at hR;have h2:=hR.2;simp only[Bool.not_true,Bool.false_or] at h2;unfold EJ at h2;exact(beq_iff_eq.1 h2).symm
 clear hR;have hgl:=(aK.1 H.hg).1;have hhl:=(aK.1 H.hh).1;obtain⟨w1,hw1⟩:∃w1,w1=w.alloc (.cells (Cc h g n c d) 118):=⟨_,rfl⟩;have HI:Hid (Fi w1 h g ns m):=by rw[hw1];exact H.alloc _
 have HF:Hid (w1.heap[w.heap.size]?=some (.cells (Cc h g n c d) 118 (0,0))):=by rw[hw1];exact Ac _ _ _ rfl
 have HB:Hid (Below w.heap.size w w1):=by rw[hw1];exact(aG _ _).alloc (aA _) _
 have c0:w1.cell? ⟨w.heap.size,0,none⟩=some (.slice (some ⟨h,0,none⟩) n n):=by rw[hw1,Hm];rfl
 rw[hw1] at c0;clear H;go_enter Tryz.func100,Tryz.ntmps100;go_wp2_with fail;rw[←hw1] at c0 ⊢;clear hw1 c0;go_loopw [3,9] (fun b i W=> ∃k:Nat,k≤n∧i=.int .i64 k∧Au w.heap.size W b ((ns.take k).flatMap (AU m))∧Fi W h g ns m∧W.heap[w.heap.size]?=some (.cells (Cc h g n c d) 118 (0,0))∧Below w.heap.size w W) (fun _ i _=>n-(intOf i).toNat)
 case atStart=>exact⟨0,aT _,rfl,Au.nil _ _,HI.out,HF.out,HB.out⟩
 case round=>
  clear HI HF HB;obtain⟨k,hk,rfl,hO,hI,hF,hB⟩:=hrel;obtain⟨ob,nb,cb,rfl⟩:=Ea hO.sl;have HO:Hid (Au w.heap.size wr (.slice ob nb cb) ((ns.take k).flatMap (AU m))):=hO;have HI:Hid (Fi wr h g ns m):=hI;have HF:Hid (wr.heap[w.heap.size]?=some (.cells (Cc h g n c d) 118 (0,0))):=hF;have HB:Hid (Below w.heap.size w wr):=hB;have hsz:=(aK.1 hF).1;clear hO hI hF hB
  have HLN:Hid (((ns.take k).flatMap (AU m)).length≤42):=by
   show _≤_;rw[Sv (fun x hx=>HNS.out x (List.mem_of_mem_take hx)),List.length_take];omega
  by_cases hlt:k<n
  ·obtain⟨j,hj⟩:∃j,ns[k]?=some j:=⟨_,aM (by rw[←HN.out];exact hlt)⟩;obtain⟨e1,e2,hj13⟩:=HI.out.at hj;have HT:Hid ((ns.take (k+1)).flatMap (AU m)=(ns.take k).flatMap (AU m)++BY 6 (Ad m j).toNat):=XI hj hj13;have hx:=(MS _).1 (HR.out j (List.mem_of_getElem? hj));obtain⟨p,hp⟩:∃p:Nat,Ad m j=p:=⟨(Ad m j).toNat,by omega⟩;rw[hp] at e2 hx HT;have hp2:p≤281474976710655:=by omega
   have CP:Hid (∀W,Below wr.heap.size wr W→Calls aB 126 #[.slice ob nb cb,.int .u64 (p:Int),.int .i64 6] W fun e w'=> ∃u,e=.returned (.tuple #[u,.int .i64 0])∧Au W.heap.size w' u ((ns.take k).flatMap (AU m)++BY 6 p)∧Below W.heap.size W w'):=fun W hW=>by
    have hq:FH ((ns.take k).flatMap (AU m)) p 6=((ns.take k).flatMap (AU m)++BY 6 p,0):=by
     unfold FH;rw[if_pos (by decide),if_pos (by show p<256 ^ 6;omega)];rfl
    have:=Ac1 (.slice ob nb cb) _ p 6 W (HO.out.sl.below hW) (by have:=HLN.out;omega);rw[hq] at this;exact this
   clear hj hp hx;go_wp2_with fail;refine(CP.out _ (aG _ _)).mono ?_;rintro e w2 ⟨u,rfl,hO,hb⟩
   have HO2:Hid (Au w.heap.size w2 u ((ns.take (k+1)).flatMap (AU m))):=by
    show Au _ _ _ _;rw[HT.out];exact hO.base HB.out.size
   have HI2:Hid (Fi w2 h g ns m):=HI.out.below hb;have HF2:Hid (w2.heap[w.heap.size]?=some (.cells (Cc h g n c d) 118 (0,0))):=(hb.block _ hsz).trans HF.out;have HB2:Hid (Below w.heap.size w w2):=HB.out.trans (hb.mono HB.out.size);clear hO hb;go_wp2_with fail;exact⟨⟨k+1,by omega,by go_num,HO2.out,HI2.out,HF2.out,HB2.out⟩,by simp[intOf];omega⟩
  ·obtain rfl:k=n:=by omega
   have HO2:Hid (Au w.heap.size wr (.slice ob nb cb) (ns.flatMap (AU m))):=by
    have:=HO.out;rw[HN.out,aR] at this;exact this
   have HLN2:Hid ((ns.flatMap (AU m)).length≤42):=by
    have:=HLN.out;rw[HN.out,aR] at this;exact this
   clear HO HLN;have hgm:=HI.out.hg;have hmm:=HI.out.hm;have c1:wr.cell? ⟨w.heap.size,1,none⟩=some (Md g c):=cell_of_row _ _ _ _ _ _ HF.out;have c2:wr.cell? ⟨w.heap.size,2,none⟩=some (Mc g d):=cell_of_row _ _ _ _ _ _ HF.out
   cases c with
   | false=>
    have c1':wr.cell? ⟨w.heap.size,1,none⟩=some (.pointer none):=c1;clear c1
    cases d with
    | false=>
     have c2':wr.cell? ⟨w.heap.size,2,none⟩=some (.pointer none):=c2;clear c2;go_wp2_with fail;go_ret;refine⟨_,rfl,?_,HB.out⟩;have:=HO2.out;unfold IV;simpa using this
    | true=>
     have c2':wr.cell? ⟨w.heap.size,2,none⟩=some (.pointer (some ⟨g,40,none⟩)):=c2;clear c2
     go_wp2_with (first
      | (at_builtin;refine Fd ?_))
     unfold Hg;refine FD rfl _ _ rfl w.heap.size (.slice ob nb cb) _ _ (Cm m.head) rfl HO2.out rfl (SO hmm hgm) (by have:=HLN2.out;rw[Db,hmm.2.2.2.1];omega) HB.out.size ?_;intro v' w' ho hgr _;have HO3:Hid (Au w.heap.size w' v' (ns.flatMap (AU m)++Cm m.head)):=ho;have HB3:Hid (Below w.heap.size w w'):=HB.out.grown hgr HB.out.size fun q hq=>(HO2.out.ge q hq).1;clear ho hgr
     try simp only[aN,aD,aI,aJ]
     go_wp2_with fail;go_ret;refine⟨_,rfl,?_,HB3.out⟩;have:=HO3.out;unfold IV;simpa using this
   | true=>
    have c1':wr.cell? ⟨w.heap.size,1,none⟩=some (.pointer (some ⟨g,14,none⟩)):=c1;clear c1 c2
    have CC:Hid (∀W,Below wr.heap.size wr W→Calls aB 127 #[.slice ob nb cb,.agg (cv m.cube.1 m.cube.2)] W fun e w'=> ∃u,e=.returned u∧Au W.heap.size w' u (ns.flatMap (AU m)++Ep m.cube.1 m.cube.2)∧Below W.heap.size W w'):=fun W hW=>by
     have:=Tk (.slice ob nb cb) _ m.cube.1 m.cube.2 hmm.2.1 hmm.2.2.1 W (HO2.out.sl.below hW) (by have:=HLN2.out;omega);rw[HRC.out rfl] at this;exact this
    go_wp2_with (first|((with_reducible refine Bf 25 _ rfl ?_);refine Bc Ds rfl _ rfl g 14 rfl _ _ _ (cv m.cube.1 m.cube.2) (AO _ _ hmm.2.1.1 hmm.2.2.1.1) hgm (Hz hmm) ?_));refine(CC.out _ (aG _ _)).mono ?_;rintro e w2 ⟨u,rfl,hO,hb⟩;obtain⟨o3,n3,c3,rfl⟩:=Ea hO.sl;have HO3:Hid (Au w.heap.size w2 (.slice o3 n3 c3) (ns.flatMap (AU m)++Ep m.cube.1 m.cube.2)):=hO.base HB.out.size
    have HL3:Hid ((ns.flatMap (AU m)++Ep m.cube.1 m.cube.2).length≤68):=by
     show _≤_;have:=HLN2.out;unfold Ep;rw[aQ,aQ,Db,Db,hmm.2.1.1,hmm.2.2.1.1];omega
    have hI2:Fi w2 h g ns m:=HI.out.below hb;have c2:w2.cell? ⟨w.heap.size,2,none⟩=some (Mc g d):=cell_of_row _ _ _ _ _ _ ((hb.block _ hsz).trans HF.out);have HB2:Hid (Below w.heap.size w w2):=HB.out.trans (hb.mono HB.out.size);have hg2:=hI2.hg;clear hO hb hI2 c1' hgm
    cases d with
    | false=>
     have c2':w2.cell? ⟨w.heap.size,2,none⟩=some (.pointer none):=c2;clear c2;go_wp2_with fail;go_ret;refine⟨_,rfl,?_,HB2.out⟩;have:=HO3.out;unfold IV;simpa using this
    | true=>
     have c2':w2.cell? ⟨w.heap.size,2,none⟩=some (.pointer (some ⟨g,40,none⟩)):=c2;clear c2
     go_wp2_with (first
      | (at_builtin;refine Fd ?_))
     unfold Hg;refine FD rfl _ _ rfl w.heap.size (.slice o3 n3 c3) _ _ (Cm m.head) rfl HO3.out rfl (SO hmm hg2) (by have:=HL3.out;rw[Db,hmm.2.2.2.1];omega) HB2.out.size ?_;intro v' w' ho hgr _;have HO4:Hid (Au w.heap.size w' v' ((ns.flatMap (AU m)++Ep m.cube.1 m.cube.2)++Cm m.head)):=ho;have HB3:Hid (Below w.heap.size w w'):=HB2.out.grown hgr HB2.out.size fun q hq=>(HO3.out.ge q hq).1;clear ho hgr
     try simp only[aN,aD,aI,aJ]
     go_wp2_with fail;go_ret;refine⟨_,rfl,?_,HB3.out⟩;have:=HO4.out;unfold IV;simpa using this
end
section
open Go.RowKit
def Ib(L:List UInt8)(p:Int):List Int×List Int×Int:=
 if 0≤p then
  if p+26≤L.length then
   if (nI ((L.drop p.toNat).take 13)==AH (nI ((L.drop p.toNat).take 13)) (nI ((L.drop (p.toNat+13)).take 13)))=true then (nI ((L.drop p.toNat).take 13),nI ((L.drop (p.toNat+13)).take 13),0) else (Z,Z,12)
  else (Z,Z,12)
 else (Z,Z,1)
theorem Acr(V M:List Int)(B:List UInt8)(hV:V.length=13)(hB:B.length=13):((cv V M).toList.take 0++(aC B++(cv V M).toList.drop (0+(aC B).length))).toArray=cv (nI B) M:=by
 have e:(aC B)=(nI B).map (Value.int .u8):=by unfold aC nI;rw[List.map_map];rfl
 rw[aX,bF,aH,hB,e];unfold cv hv;simp only[bG];rw[List.drop_append_of_le_length (by simp;omega),aV (by simp;omega),bF]
theorem Zn(V M:List Int)(B:List UInt8)(hV:V.length=13)(hM:M.length=13)(hB:B.length=13):((cv V M).toList.take 13++(aC B++(cv V M).toList.drop (13+(aC B).length))).toArray=cv V (nI B):=by
 have e:(aC B)=(nI B).map (Value.int .u8):=by unfold aC nI;rw[List.map_map];rfl
 rw[aH,hB,e];unfold cv hv;simp only[bG];rw[aV (by simp;omega),bE,List.take_append_of_le_length (by simp;omega),aL (by simp;omega)]
theorem Rt{ops:Array Oper}{rest:List Oper}{o:Oper}{a:Act}{w:World}{Q:Exit→Act→World→Prop}(hgd:o.guard=none)(d s:Operand)(ho:o.op=.call {callee:=.builtin .copy,args:=#[d,s],argTypes:=#[85,85]})
  (g off:Nat) (V M:List Int) (hV:V.length=13) (hM:M.length=13) (hoff:off=0∨off=13) (hd:a.eval d=.slice (some ⟨g,off,none⟩) 13 13) (u:Value) (hs:a.eval s=u) (L:List UInt8) (hL:Be w u L) (hl:13≤L.length) (hg:w.heap[g]?=some (.cells (cv V M) 25 (0,0)))
  (h:wpList aB ops Q rest (a.put o.dst (.int .i64 13)) (w.setRow g (if off=0 then cv (nI (L.take 13)) M else cv V (nI (L.take 13))))):wpList aB ops Q (o::rest) a w:=by
 obtain⟨oa,cap,rfl,h1,h2,h3,h4⟩:=hL;have hB:(L.take 13).length=13:=by simp;omega
 obtain⟨gs,os,_,_,_,rfl,_⟩:=h4 0 (by omega);refine wpList_copy_own hgd d s 85 85 ho 5 Tryz.underlying85 (by kernel_rfl) g off 13 13 ⟨gs,os,none⟩ L.length cap hd hs (cv V M) 25 hg (aC (L.take 13)) ?_ ?_ ?_ ?_ ?_
 ·rw[aH,hB];exact(Nat.min_eq_right hl).symm
 ·intro j v hj
  have hjl:j<13:=by
   have:=(List.getElem?_eq_some_iff.1 hj).1;rw[aH,hB] at this;exact this
  obtain⟨g',off',cur,t,fr,e,h5,h6⟩:=h4 j (by omega);simp only[Option.some.injEq,Addr.mk.injEq,and_true] at e;obtain⟨rfl,rfl⟩:=e;rw[NR,cell_of_row _ _ _ _ _ _ h5,h6, ←hj,Ko _ j (by rw[hB];exact hjl)];simp
 ·rw[aH,hB,AO V M hV hM];rcases hoff with rfl | rfl <;> omega
 ·intro v hv;unfold aC at hv;obtain⟨b,_,rfl⟩:=List.mem_map.1 hv;rfl
 ·rw[show goInt ((aC (L.take 13)).length:Nat)=.int .i64 13 by rw[aH,hB];rfl];rcases hoff with rfl | rfl
  ·rw[Acr V M _ hV hB];exact h
  ·rw[Zn V M _ hV hM hB];exact h
theorem RD(v:Value)(L:List UInt8)(p:Int)(w:World)(hL:Be w v L)(hp:p≤9223372036854775807):
  Calls aB 79 #[v,.int .i64 p] w fun e w'=>e=.returned (.tuple #[.agg (cv (Ib L p).1 (Ib L p).2.1),.int .i64 (Ib L p).2.2])∧Below w.heap.size w w':=by
 have HL:Hid (Be w v L):=hL;obtain⟨ov,cx,hv,hc1,hc2⟩:=hL.slice;subst hv;clear hL;obtain⟨n,hn⟩:∃n,n=L.length:=⟨_,rfl⟩;have HN:Hid (n=L.length):=hn;rw[←hn] at HL hc1 ⊢;clear hn;have hzl:=AX.1;have g0:=Ac w (.cells Az 25) _ rfl;have B0:Below w.heap.size w (w.alloc (.cells Az 25)):=(aG _ _).alloc (aA _) _;have hcm:=hc2;unfold maxLen at hc2;by_cases h0:0≤p
 ·obtain⟨k,rfl⟩:∃k:Nat,p=k:=⟨p.toNat,by omega⟩;have CR:Hid (∀W,Calls aB 102 #[.slice ov n cx,.int .i64 (k:Int),.int .i64 26] W fun e w'=>e=.returned (.bool (decide ((26:Int)≤(n:Int)-k)))∧w'=W):=M8 ov n cx (by omega) k 26 h0 hp;by_cases hr:k+26≤n
  ·have hd:decide ((26:Int)≤(n:Int)-k)=true:=by simp;omega
   rw[hd] at CR;obtain⟨g,off,c,rfl,_,_⟩:=HL.out.at k (by omega);obtain⟨V,hV⟩:∃V,V=nI ((L.drop k).take 13):=⟨_,rfl⟩;obtain⟨M,hM⟩:∃M,M=nI ((L.drop (k+13)).take 13):=⟨_,rfl⟩;have hVb:Ax V:=by rw[hV];exact IQ _ (by simp;rw[←HN.out];omega)
   have hMb:Ax M:=by rw[hM];exact IQ _ (by simp;rw[←HN.out];omega)
   have HT:Hid (Ib L k=if (V==AH V M)=true then (V,M,0) else (Z,Z,12)):=by
    show _=_;unfold Ib;rw[if_pos h0,if_pos (by rw[←HN.out];omega),hV,hM,Int.toNat_natCast]
   have HVM:Hid (V=nI ((L.drop k).take 13)∧M=nI ((L.drop (k+13)).take 13)):=⟨hV,hM⟩;have CQ:Hid (∀W,Calls aB 103 #[.agg (cv V M)] W fun e w'=>e=.returned (.bool (V==AH V M))∧Below W.heap.size W w'):=NW V M hVb hMb;have hVl:=hVb.1;have hMl:=hMb.1
   have HP1:Hid (∀W,Below w.heap.size w W→Be W (.slice (some ⟨g,off+k,none⟩) (n-k) (cx-k)) (L.drop k)):=fun W hW=>by
    have:=(HL.out.below hW).part g off k (n-k) (cx-k) rfl (by omega) (by omega) (by omega);rw[aL (by rw[bD, ←HN.out];exact aA _)] at this;exact this
   have HP2:Hid (∀W,Below w.heap.size w W→Be W (.slice (some ⟨g,off+(k+13),none⟩) (n-(k+13)) (cx-(k+13))) (L.drop (k+13))):=fun W hW=>by
    have:=(HL.out.below hW).part g off (k+13) (n-(k+13)) (cx-(k+13)) rfl (by omega) (by omega) (by omega);rw[aL (by rw[bD, ←HN.out];exact aA _)] at this;exact this
   clear hV hM hVb hMb hd hcm;go_enter bB,aZ
   go_wp2_with (first
    | (go_at_call 102;refine(CR.out _).mono ?_;rintro e w1 ⟨rfl,rfl⟩))
   have B1:Below w.heap.size w ((w.alloc (.cells Az 25)).alloc (.cells Az 25)):=B0.alloc B0.size _;have k0:=Af (w.alloc (.cells Az 25)) (.cells Az 25) _ _ g0;have k1:=Ac (w.alloc (.cells Az 25)) (.cells Az 25) (w.heap.size+1) (by simp);obtain⟨W1,hW1⟩:∃W,W=(w.alloc (.cells Az 25)).alloc (.cells Az 25):=⟨_,rfl⟩;rw[←hW1] at B1 k0 k1;rw[Hh] at k1;show Code.wp aB _ _ _ ((w.alloc (.cells Az 25)).alloc (.cells Az 25));rw[←hW1];clear hW1 g0 B0;refine En (fun a a' w'=> ∃y15 y16 y17 y18 y19 y20,a'=((((((a.put (some 15) y15).put (some 16) y16).put (some 17) y17).put (some 18) y18).put (some 19) y19).put (some 20) y20)∧w'=W1.drew.setRow (w.heap.size+1) (cv V Z)) ?_ ?_
   ·refine BJ (fun _=>True) 6 rfl (by kernel_rfl) ?_;refine rE 0 5 1 trivial ?_;simp only[aW,aY,aX]
    iterate 5 (go_big_quiet_step (fail))
    refine wpQuiet_nil ?_;refine rO 5 ?_;refine G8 rfl ?_;refine Rt rfl _ _ rfl (w.heap.size+1) 0 Z Z hzl hzl (.inl rfl) rfl (.slice (some ⟨g,off+k,none⟩) (n-k) (cx-k)) rfl (L.drop k) (HP1.out _ B1.drew) (by simp;rw[←HN.out];omega) k1 ?_;refine⟨trivial,?_⟩;refine wpAnyH_done (by kernel_rfl) ?_ _;rw[if_pos rfl, ←HVM.out.1];exact⟨rfl,_,_,_,_,_,_,rfl,rfl⟩
   rintro a' w2 ⟨y15,y16,y17,y18,y19,y20,rfl,hw2⟩;have B2:Below w.heap.size w w2:=by rw[hw2];exact Ak B1.drew (by omega) _
   have j0:w2.heap[w.heap.size]?=some (.cells Az 25 (0,0)):=by rw[hw2];exact(setRow_other _ _ _ _ (by omega)).trans k0
   have j1:w2.heap[w.heap.size+1]?=some (.cells (cv V Z) 25 (0,0)):=by rw[hw2];exact setRow_heap _ _ _ _ _ _ k1
   clear hw2 k0 k1 B1;simp only[aN,aD,aI,aJ];go_wp2_with fail;refine En (fun a a' w'=> ∃y21 y22 y23 y24 y25 y26 y27,a'=(((((((a.put (some 21) y21).put (some 22) y22).put (some 23) y23).put (some 24) y24).put (some 25) y25).put (some 26) y26).put (some 27) y27)∧w'=w2.drew.setRow (w.heap.size+1) (cv V M)) ?_ ?_
   ·refine BJ (fun _=>True) 7 rfl (by kernel_rfl) ?_;refine rE 0 6 1 trivial ?_;simp only[aW,aY,aX]
    iterate 6 (go_big_quiet_step (fail))
    refine wpQuiet_nil ?_;refine rO 6 ?_;refine G8 rfl ?_;refine Rt rfl _ _ rfl (w.heap.size+1) 13 V Z hVl hzl (.inr rfl) rfl (.slice (some ⟨g,off+(k+13),none⟩) (n-(k+13)) (cx-(k+13))) rfl (L.drop (k+13)) (HP2.out _ B2.drew) (by simp;rw[←HN.out];omega) j1 ?_;refine⟨trivial,?_⟩;refine wpAnyH_done (by kernel_rfl) ?_ _;rw[if_neg (by decide), ←HVM.out.2];exact⟨rfl,_,_,_,_,_,_,_,rfl,rfl⟩
   rintro a' w3 ⟨y21,y22,y23,y24,y25,y26,y27,rfl,hw3⟩;have B3:Below w.heap.size w w3:=by rw[hw3];exact Ak B2.drew (by omega) _
   have l0:w3.heap[w.heap.size]?=some (.cells Az 25 (0,0)):=by rw[hw3];exact(setRow_other _ _ _ _ (by omega)).trans j0
   have l1:w3.heap[w.heap.size+1]?=some (.cells (cv V M) 25 (0,0)):=by rw[hw3];exact setRow_heap _ _ _ _ _ _ j1
   have hsz:=(aK.1 l1).1;clear hw3 j0 j1 B2;simp only[aN,aD,aI,aJ]
   go_wp2_with (first
    | (refine Cl rfl _ rfl (w.heap.size+1) rfl V M l1 hVl hMl ?_))
   refine(CQ.out _).mono ?_;rintro e w4 ⟨rfl,hb4⟩;have m0:w4.heap[w.heap.size]?=some (.cells Az 25 (0,0)):=(hb4.block _ (by omega)).trans l0;have m1:w4.heap[w.heap.size+1]?=some (.cells (cv V M) 25 (0,0)):=(hb4.block _ hsz).trans l1;have B4:Below w.heap.size w w4:=B3.trans (hb4.mono B3.size);clear l0 l1 B3 hb4;by_cases hq:(V==AH V M)=true
   ·rw[if_pos hq] at HT;obtain⟨b,hb⟩:∃b,b=(V==AH V M):=⟨_,rfl⟩;rw[←hb] at hq ⊢;subst hq;clear hb
    go_wp2_with (first
     | (refine Cl rfl _ rfl (w.heap.size+1) rfl V M m1 hVl hMl ?_)
     | (refine Bq rfl _ _ rfl w.heap.size V M rfl rfl _ m0 rfl hVl hMl _ rfl ?_))
    refine Kc (p:=4) (u:=5) rfl rfl w.heap.size rfl V M hVl hMl (setRow_heap _ _ _ _ _ _ m0) _ rfl ⟨?_,Ak B4 (aA _) _⟩;rw[HT.out];rfl
   ·rw[if_neg hq] at HT;have hq':(V==AH V M)=false:=by simpa using hq
    obtain⟨b,hb⟩:∃b,b=(V==AH V M):=⟨_,rfl⟩;rw[←hb] at hq' ⊢;subst hq';clear hb hq
    go_wp2_with (first
     | (refine Hj rfl rfl ?_)
     | (refine Bq rfl _ _ rfl w.heap.size Z Z rfl rfl _ m0 rfl hzl hzl _ rfl ?_))
    refine Kc (p:=4) (u:=5) rfl rfl w.heap.size rfl Z Z hzl hzl (setRow_heap _ _ _ _ _ _ m0) _ rfl ⟨?_,Ak B4 (aA _) _⟩;rw[HT.out];rfl
  ·have hd:decide ((26:Int)≤(n:Int)-k)=false:=by simp;omega
   rw[hd] at CR;have HT:Hid (Ib L k=(Z,Z,12)):=by show _=_;unfold Ib;rw[if_pos h0,if_neg (by rw[←HN.out];omega)]
   clear hd hcm;go_enter bB,aZ
   go_wp2_with (first
    | (go_at_call 102;refine(CR.out _).mono ?_;rintro e w1 ⟨rfl,rfl⟩)
    | (refine Hj rfl rfl ?_)
    | (refine Bq rfl _ _ rfl w.heap.size Z Z rfl rfl _ g0 rfl hzl hzl _ rfl ?_))
   refine Kc (p:=4) (u:=5) rfl rfl w.heap.size rfl Z Z hzl hzl (setRow_heap _ _ _ _ _ _ g0) _ rfl ⟨?_,Ak B0 (aA _) _⟩;rw[HT.out];rfl
 ·have HT:Hid (Ib L p=(Z,Z,1)):=by show _=_;unfold Ib;rw[if_neg h0]
  have hp0:p<0:=by omega
  go_enter bB,aZ
  go_wp2_with (first
   | (refine Hj rfl rfl ?_)
   | (refine Bq rfl _ _ rfl w.heap.size Z Z rfl rfl _ g0 rfl hzl hzl _ rfl ?_))
  refine Kc (p:=4) (u:=5) rfl rfl w.heap.size rfl Z Z hzl hzl (setRow_heap _ _ _ _ _ _ g0) _ rfl ⟨?_,Ak B0 (aA _) _⟩;rw[HT.out];rfl
end
end Go.Proofs.YtbhkoipcpcoooabGreat
