import Derived.Test.YtbhkoipcpcoooabGreatJ14
namespace Go.Proofs.YtbhkoipcpcoooabGreat
set_option maxRecDepth 20000
set_option maxHeartbeats 64000000
open Go
open _root_.Array renaming getElem?_eq_some_iff → aA
open Go.Proofs.Tryz renaming prog → aB
open _root_.List renaming setIfInBounds_toArray → aC, length_drop → aD, set_cons_succ → aH, set_cons_zero → aI, getD_eq_getElem?_getD → aJ, take_of_length_le → aN, take_succ_cons → aP, length_take → aQ, drop_drop → aR, drop_zero → aT, take_zero → aV, contains_iff_mem → aW, mem_cons_of_mem → aX, flatMap_append → aY, mem_cons_self → aZ, cons_append → bC, length_cons → bD, all_eq_true → bF, map_toArray → bG, mem_filter → bH
open _root_.Nat renaming le_refl → aG
open Go.Lib renaming byteCells_length → aK, byteCells → aL
open Go.RowKit.Below renaming refl → aM
open Go.Act renaming put → aO
section
open Go.Lib Go.RowKit
def DK:List Nat→List UInt8→Aj→Aj
 | [],_,m=>m
 | j::ns,bs,m=>DK ns (bs.drop 6) (Hk m j (CY (bs.take 6):Nat))
theorem Yt{m:Aj}{j:Nat}(hj:j<13)(bs:List UInt8):GX m j bs=Hk m j (CY bs:Nat):=by
 unfold GX Hk;rw[if_neg (by omega),if_neg (by omega)]
theorem Wt{j:Nat}(hj:j<13):DC j=6:=by
 unfold DC;rw[if_neg (by omega),if_neg (by omega)]
theorem Lt(tl:List Nat):∀(ns:List Nat) (bs:List UInt8) (m:Aj),(∀j∈ns,j<13)→JT (ns++tl) bs m=JT tl (bs.drop (ns.length*6)) (DK ns bs m)
 | [],bs,m,_=>by simp[DK]
 | j::ns,bs,m,h=>by
  have hj:=h j aZ
  rw[bC,JT,Wt hj]
  have:(decide (j=13)&& !(EJ (GX m j (bs.take 6))))=false:=by
   rw[decide_eq_false (by omega)];rfl
  rw[this,Yt hj];simp only[Bool.false_eq_true,if_false];rw[Lt tl ns _ _ (fun x hx=>h x (aX _ hx)),aR,DK,bD];congr 2;omega
theorem O6(j:Nat):∀(ns:List Nat) (bs:List UInt8) (m:Aj),DK (ns++[j]) bs m=Hk (DK ns bs m) j (CY ((bs.drop (ns.length*6)).take 6):Nat)
 | [],bs,m=>by simp[DK]
 | x::ns,bs,m=>by
  have e:6+ns.length*6=(ns.length+1)*6:=by omega
  rw[bC,DK,O6 j ns,DK,aR,bD,e]
structure S7(g:Nat)(o:Obj) where
 world:World
 k1:world.heap[g]?=some o
abbrev PX(g:Nat)(o:Obj)(w:World):Prop:=∃z:S7 g o,w=z.world
theorem PX.of{g:Nat}{o:Obj}{w:World}(h:w.heap[g]?=some o):PX g o w:=⟨⟨w,h⟩,rfl⟩
def EO(n:Nat)(c d:Bool):Nat:=n*6+(if c then 26 else 0)+(if d then 13 else 0)
def tlF(c d:Bool):List Nat:=(if c then [13] else [])++(if d then [14] else [])
def Ga(ns:List Nat)(c d:Bool)(L:List UInt8)(m:Aj):Option Aj:=if L.length=EO ns.length c d then JT (ns++tlF c d) L m else none
def Ag9(g:Nat)(ns:List Nat)(c d:Bool)(m:Aj)(L:List UInt8)(w:World)(e:Ending)(w':World):Prop:=
 ∃m',w.grownBy w' (some g)∧Bj m'∧w'.heap[g]?=some (.cells (Ah m') 27 (0,0))∧((Ga ns c d L m=some m'∧e=.returned (.bool true))∨(Ga ns c d L m=none∧e=.returned (.bool false)))
theorem Vt{ns:List Nat}{c d:Bool}{L:List UInt8}{m:Aj}(h:L.length≠EO ns.length c d):Ga ns c d L m=none:=by unfold Ga;rw[if_neg h]
theorem ZO{ns:List Nat}{L:List UInt8}{m:Aj}(hn:∀j∈ns,j<13)(h:L.length=EO ns.length false false):Ga ns false false L m=some (DK ns L m):=by
 unfold Ga;rw[if_pos h,Lt _ ns L m hn];rfl
theorem ZN{ns:List Nat}{L:List UInt8}{m:Aj}(hn:∀j∈ns,j<13)(h:L.length=EO ns.length false true):Ga ns false true L m=some (IZ (DK ns L m) (nI (L.drop (ns.length*6)))):=by
 unfold Ga;rw[if_pos h,Lt _ ns L m hn];have hl:(L.drop (ns.length*6)).length=13:=by rw[aD,h];unfold EO;simp
 show JT [14] _ _=_;rw[JT];have e:(L.drop (ns.length*6)).take (DC 14)=L.drop (ns.length*6):=aN (by rw[hl];decide);rw[e];rfl
theorem Wl{L:List UInt8}{p:Nat}(h:L.length=p+26):Ib L p=if (nI ((L.drop p).take 13)==AH (nI ((L.drop p).take 13)) (nI (L.drop (p+13))))=true then (nI ((L.drop p).take 13),nI (L.drop (p+13)),0) else (Z,Z,12):=by
 unfold Ib;rw[if_pos (by omega),if_pos (by omega),Int.toNat_natCast,aN (l:=L.drop (p+13)) (by rw[aD];omega)]
theorem ZL{ns:List Nat}{L:List UInt8}{m:Aj}(hn:∀j∈ns,j<13)(h:L.length=EO ns.length true false):
  Ga ns true false L m=if (Ib L ((ns.length*6:Nat):Int)).2.2=0 then some (Es (DK ns L m) (Ib L ((ns.length*6:Nat):Int)).1 (Ib L ((ns.length*6:Nat):Int)).2.1) else none:=by
 have hl:L.length=ns.length*6+26:=by rw[h];unfold EO;simp
 unfold Ga;rw[if_pos h,Lt _ ns L m hn,Wl hl];have hl2:(L.drop (ns.length*6)).length=26:=by rw[aD,hl];omega
 show JT [13] _ _=_;rw[JT];have e:(L.drop (ns.length*6)).take (DC 13)=L.drop (ns.length*6):=aN (by rw[hl2];decide);rw[e]
 have e2:GX (DK ns L m) 13 (L.drop (ns.length*6))=Es (DK ns L m) (nI ((L.drop (ns.length*6)).take 13)) (nI (L.drop (ns.length*6+13))):=by
  unfold GX Es;rw[if_pos rfl,aR]
 rw[e2];have e3:EJ (Es (DK ns L m) (nI ((L.drop (ns.length*6)).take 13)) (nI (L.drop (ns.length*6+13))))=(nI ((L.drop (ns.length*6)).take 13)==AH (nI ((L.drop (ns.length*6)).take 13)) (nI (L.drop (ns.length*6+13)))):=rfl;rw[e3]
 cases (nI ((L.drop (ns.length*6)).take 13)==AH (nI ((L.drop (ns.length*6)).take 13)) (nI (L.drop (ns.length*6+13))))
 ·simp
 ·simp[JT]
theorem Wk{L:List UInt8}{p:Nat}(h:L.length=p+26):Ax (Ib L p).1∧Ax (Ib L p).2.1:=by
 rw[Wl h];split
 ·exact⟨IQ _ (by rw[aQ,aD];omega),IQ _ (by rw[aD];omega)⟩
 ·exact⟨AX,AX⟩
theorem Yh{ops:Array Oper}{rest:List Oper}{o:Oper}{a:Act}{w:World}{Q:Exit→Act→World→Prop}(hgd:o.guard=none)(d s:Operand)(ho:o.op=.call {callee:=.builtin .copy,args:=#[d,s],argTypes:=#[85,85]})
  (g:Nat) (m:Aj) (hm:Bj m) (hd:a.eval d=.slice (some ⟨g,40,none⟩) 13 13) (u:Value) (hs:a.eval s=u) (L:List UInt8) (hL:Be w u L) (hl:L.length=13) (hg:w.heap[g]?=some (.cells (Ah m) 27 (0,0)))
  (h:wpList aB ops Q rest (a.put o.dst (.int .i64 13)) (w.setRow g (Ah (IZ m (nI L))))):wpList aB ops Q (o::rest) a w:=by
 obtain⟨oa,cap,rfl,h1,h2,h3,h4⟩:=hL;obtain⟨gs,os,_,_,_,rfl,_⟩:=h4 0 (by omega);have e:(aL L)=(hv (nI L)).toList:=by unfold aL nI hv;rw[List.map_map];rfl
 refine wpList_copy_own hgd d s 85 85 ho 5 Tryz.underlying85 (by kernel_rfl) g 40 13 13 ⟨gs,os,none⟩ L.length cap hd hs (Ah m) 27 hg (aL L) ?_ ?_ ?_ ?_ ?_
 ·rw[aK,hl];rfl
 ·intro j v hj
  have hjl:j<13:=by
   have:=(List.getElem?_eq_some_iff.1 hj).1;rw[aK,hl] at this;exact this
  obtain⟨g',off',cur,t,fr,e,h5,h6⟩:=h4 j (by omega);simp only[Option.some.injEq,Addr.mk.injEq,and_true] at e;obtain⟨rfl,rfl⟩:=e;rw[NR,cell_of_row _ _ _ _ _ _ h5,h6, ←hj,Ko _ j (by omega)]
 ·rw[aK,hl,Ch hm];decide
 ·intro v hv;unfold aL at hv;obtain⟨b,_,rfl⟩:=List.mem_map.1 hv;rfl
 ·have e2:((Ah m).toList.take 40++(aL L++(Ah m).toList.drop (40+(aL L).length))).toArray=Ah (IZ m (nI L)):=by
   rw[aK,hl,e, ←List.append_assoc];exact MM hm (nI L)
  rw[e2,show goInt ((aL L).length:Nat)=.int .i64 13 by rw[aK,hl];rfl];exact h
theorem XK(h g:Nat)(ns:List Nat)(c d:Bool)(m:Aj)(w:World)(H:Fi w h g ns m)(hl:ns.length≤7)(hne:h≠g)(hcd:¬(c=true∧d=true))(v:Value)(L:List UInt8)(hL:Be w v L)(hv:v.ownBlock≠some g):
  Calls aB 56 #[.agg (Cc h g ns.length c d),v] w fun e w'=>Ag9 g ns c d m L w e w':=by
 obtain⟨ov,cap,hvv,hc1,hc2⟩:=hL.slice;subst hvv;obtain⟨nl,hnl⟩:∃nl,nl=L.length:=⟨_,rfl⟩;have HNL:Hid (nl=L.length):=hnl;rw[←hnl] at hL hc1 hv ⊢;clear hnl;have hcm:=hc2;unfold maxLen at hc2;obtain⟨n,hn⟩:∃n,n=ns.length:=⟨_,rfl⟩;have HN:Hid (n=ns.length):=hn;rw[←hn] at hl ⊢;clear hn;have HNS:Hid (∀j∈ns,j<13):=H.hn;have hgl:=(aA.1 H.hg).1;have hhl:=(aA.1 H.hh).1;have HV:Hid (Value.ownBlock (.slice ov nl cap)≠some g):=hv;obtain⟨w1,hw1⟩:∃w1,w1=w.alloc (.cells (Cc h g n c d) 118):=⟨_,rfl⟩;have HI:Hid (Fi w1 h g ns m):=by rw[hw1];exact H.alloc _
 have HL:Hid (Be w1 (.slice ov nl cap) L):=by rw[hw1];exact hL.alloc _
 have HF:Hid (w1.heap[w.heap.size]?=some (.cells (Cc h g n c d) 118 (0,0))):=by rw[hw1];exact Ac _ _ _ rfl
 have HB:Hid (w.grownBy w1 (some g)):=by rw[hw1];exact Fo (JR _ _) ((aM _ _).alloc (aG _) _)
 have g0:=HF.out;have hsz1:=(aA.1 g0).1;have CS:Hid (∀W,Calls aB 77 #[.agg (Cc h g n c d)] W fun e w'=>e=.returned (.int .i64 ((EO n c d:Nat):Int))∧Below W.heap.size W w'):=fun W=>XF h g n c d W hl;clear H hL hv;have hle:EO n c d≤81:=by unfold EO;split <;> split <;> omega
 obtain⟨q,hq⟩:∃q,q=EO n c d:=⟨_,rfl⟩;have HQ:Hid (q=EO n c d):=hq;rw[←hq] at CS hle;clear hq;have g00:(w.alloc (.cells (Cc h g n c d) 118)).heap[w.heap.size]?=some (.cells (Cc h g n c d) 118 (0,0)):=Ac _ _ _ rfl;by_cases hlen:nl=q
 ·have HLN:Hid (nl=q):=hlen;have hq0:((nl:Int)==(q:Int))=true:=by rw[hlen];simp
  have hq1:(nl==q)=true:=by rw[hlen];simp
  have hq2:((nl:Int) !=(q:Int))=false:=by rw[hlen];simp
  clear hlen;go_enter Tryz.func56,Tryz.ntmps56
  go_wp2_with (first
   | ((with_reducible refine Bf 118 _ rfl ?_);refine Bc Gq rfl _ rfl w.heap.size 0 rfl _ _ _ (Cc h g n c d) rfl g00 (AA _ _) ?_))
  rw[←hw1];clear hw1 g00;refine(CS.out _).mono ?_;rintro e w2 ⟨rfl,hb2⟩;have HI2:Hid (Fi w2 h g ns (DK (ns.take 0) L m)):=HI.out.below hb2;have HL2:Hid (Be w2 (.slice ov nl cap) L):=HL.out.below hb2;have HF2:Hid (w2.heap[w.heap.size]?=some (.cells (Cc h g n c d) 118 (0,0))):=(hb2.block _ hsz1).trans g0;have HB2:Hid (w.grownBy w2 (some g)):=Fo HB.out hb2;have c0:w2.cell? ⟨w.heap.size,0,none⟩=some (.slice (some ⟨h,0,none⟩) n n):=cell_of_row _ _ _ _ _ _ HF2.out;clear hb2 HI HL HF HB g0 hsz1 CS;go_wp2_with fail;clear c0 hq0 hq1 hq2;go_loopw [5,20] (fun x i W=> ∃k:Nat,k≤n∧i=.int .i64 k∧x=.int .i64 ((k*6:Nat):Int)∧Fi W h g ns (DK (ns.take k) L m)∧Be W (.slice ov nl cap) L∧W.heap[w.heap.size]?=some (.cells (Cc h g n c d) 118 (0,0))∧w.grownBy W (some g)) (fun _ i _=>n-(intOf i).toNat)
  case atStart=>exact⟨0,Nat.zero_le _,rfl,rfl,HI2.out,HL2.out,HF2.out,HB2.out⟩
  case round=>
   clear HI2 HL2 HF2 HB2;obtain⟨k,hk,rfl,rfl,hI,hLL,hF,hB⟩:=hrel;have HI:Hid (Fi wr h g ns (DK (ns.take k) L m)):=hI;have HL:Hid (Be wr (.slice ov nl cap) L):=hLL;have HF:Hid (wr.heap[w.heap.size]?=some (.cells (Cc h g n c d) 118 (0,0))):=hF;have HB:Hid (w.grownBy wr (some g)):=hB;have hsz:=(aA.1 hF).1;clear hI hLL hF hB;by_cases hlt:k<n
   ·have hfit:k*6+6≤nl:=by
     rw[HLN.out,HQ.out];unfold EO;omega
    obtain⟨j,hj⟩:∃j,ns[k]?=some j:=⟨_,List.getElem?_eq_getElem (by rw[←HN.out];exact hlt)⟩;obtain⟨e1,e2,hj13⟩:=HI.out.at hj;have f2:wr.frozen? ⟨g,j+1,none⟩=false:=frozen_of_row _ _ _ _ _ HI.out.hg;obtain⟨y,hy⟩:∃y:Nat,y=CY ((L.drop (k*6)).take 6):=⟨_,rfl⟩
    have hy2:y<281474976710656:=by
     have h1:=KE ((L.drop (k*6)).take 6);have h2:((L.drop (k*6)).take 6).length=6:=by rw[aQ,aD, ←HNL.out];omega
     rw[h2, ←hy] at h1;omega
    have HT:Hid (DK (ns.take (k+1)) L m=Hk (DK (ns.take k) L m) j (y:Int)):=by
     show _=_;rw[List.take_add_one,hj];show DK (ns.take k++[j]) L m=_;rw[O6,aQ,hy,Nat.min_eq_left (by rw[←HN.out];omega)]
    have CT:Hid (∀W,W=wr→Calls aB 78 #[.slice ov nl cap,.int .i64 ((k*6:Nat):Int),.int .i64 6] W fun e w'=>e=.returned (.tuple #[.int .u64 (y:Int),.int .i64 0])∧w'=W):=fun W hW=>by
     subst hW
     have hq:G9 L ((k*6:Nat):Int) 6=(y,0):=by
      unfold G9;rw[if_pos ⟨by decide,by omega⟩,if_pos (by rw[←HNL.out];omega),Int.toNat_natCast,hy];rfl
     have:=Yn (.slice ov nl cap) L ((k*6:Nat):Int) 6 W HL.out (by omega);rw[hq] at this;exact this
    obtain⟨x,hx⟩:∃x,x=Ad (DK (ns.take k) L m) j:=⟨_,rfl⟩;rw[←hx] at e2;clear hj hx hy;obtain⟨p,hp⟩:∃p,p=k*6:=⟨_,rfl⟩;have HP:Hid (p=k*6):=hp;rw[←hp] at CT hfit ⊢;clear hp;have hpp:p≤100:=by have:=HP.out;omega
    go_wp2_with fail;refine(CT.out _ rfl).mono ?_;rintro e w2 ⟨rfl,hw2⟩;obtain rfl:=hw2.symm;go_wp2_with fail;go_roundw
    case rel=>
     refine⟨k+1,by omega,by go_num,?_,⟨?_,?_,?_,HNS.out⟩,?_,?_,JS HB.out _ _⟩
     ·have:=HP.out;congr 1;omega
     ·rw[HT.out, ←Uc HI.out.hm j hj13 (y:Int)];exact heap_setCell_same _ _ _ _ _ _ HI.out.hg
     ·exact(heap_setCell_other _ ⟨g,j+1,none⟩ h _ (by simpa using hne)).trans HI.out.hh
     ·rw[HT.out];exact MF HI.out.hm j _
     ·exact HL.out.grown (JS (JR _ _) _ _) (fun q hq e=>HV.out (hq.trans e.symm))
     ·exact(heap_setCell_other _ ⟨g,j+1,none⟩ w.heap.size _ (by simp;omega)).trans HF.out
    case measure=>simp[intOf];omega
   ·obtain rfl:k=n:=by omega
    obtain⟨p,hp⟩:∃p,p=k*6:=⟨_,rfl⟩;have HP:Hid (p=k*6):=hp;rw[←hp];clear hp;have hpp:p≤42:=by have:=HP.out;omega
    have hI2:Fi wr h g ns (DK ns L m):=by
     have:=HI.out;rw[HN.out,List.take_length] at this;exact this
    obtain⟨m1,hm1⟩:∃m1,m1=DK ns L m:=⟨_,rfl⟩;have HM1:Hid (m1=DK ns L m):=hm1;rw[←hm1] at hI2;clear hm1 HI;have hgm:=hI2.hg;have hmm:=hI2.hm;have hms:=Ch hmm;clear hI2;have c1:wr.cell? ⟨w.heap.size,1,none⟩=some (Md g c):=cell_of_row _ _ _ _ _ _ HF.out;have c2:wr.cell? ⟨w.heap.size,2,none⟩=some (Mc g d):=cell_of_row _ _ _ _ _ _ HF.out;have HLE:Hid (L.length=EO ns.length c d):=by show _=_;rw[←HNL.out, ←HN.out,HLN.out,HQ.out]
    cases c with
    | false=>
     have c1':wr.cell? ⟨w.heap.size,1,none⟩=some (.pointer none):=c1;clear c1
     cases d with
     | false=>
      have c2':wr.cell? ⟨w.heap.size,2,none⟩=some (.pointer none):=c2;clear c2;go_wp2_with fail;go_ret;exact⟨m1,HB.out,hmm,hgm,.inl ⟨by rw[ZO HNS.out HLE.out,HM1.out],rfl⟩⟩
     | true=>
      have c2':wr.cell? ⟨w.heap.size,2,none⟩=some (.pointer (some ⟨g,40,none⟩)):=c2;clear c2
      have HFI:Hid (nl=p+13):=by
       show _=_;rw[HLN.out,HQ.out,HP.out];rfl
      have hfi1:p<nl:=by have:=HFI.out;omega
      go_wp2_with fail;have hms2:Bj (IZ m1 (nI (L.drop p))):=Px hmm (IQ _ (by rw[aD, ←HNL.out,HFI.out];omega));obtain⟨gv,ofv,_,rfl,_,_⟩:=HL.out.at p (by rw[HFI.out];omega)
      have HP1:Hid (∀W:World,wr.grownBy W none→Be W (.slice (some ⟨gv,ofv+p,none⟩) (nl-p) (cap-p)) (L.drop p)):=fun W hW=>by
       have:=(HL.out.grown hW (fun _ _=>by simp)).part gv ofv p (nl-p) (cap-p) rfl (by omega) (by omega) (by omega);rw[aN (by rw[aD, ←HNL.out];exact aG _)] at this;exact this
      have CF:∀z:S7 w.heap.size (.cells (Cc h g k false true) 118 (0,0)),z.world.cell? ⟨w.heap.size,2,none⟩=some (.pointer (some ⟨g,40,none⟩)):=fun z=>cell_of_row _ _ _ _ _ _ z.k1;refine En (fun a a' w'=> ∃y55 y56 y57 y58 y59 y60 y61 y62,a'=((((((((a.put (some 55) y55).put (some 56) y56).put (some 57) y57).put (some 58) y58).put (some 59) y59).put (some 60) y60).put (some 61) y61).put (some 62) y62)∧w'=wr.drew.setRow g (Ah (IZ m1 (nI (L.drop p))))) ?_ ?_
      ·have S0:PX w.heap.size (.cells (Cc h g k false true) 118 (0,0)) wr.drew:=PX.of HF.out;have ne1:Nonempty (S7 w.heap.size (.cells (Cc h g k false true) 118 (0,0))):=⟨⟨wr.drew,HF.out⟩⟩;refine BJ (PX w.heap.size (.cells (Cc h g k false true) 118 (0,0))) 8 rfl (by kernel_rfl) ?_;refine rE 0 7 1 S0 ?_;simp only[aT,aP,aV];go_big_quiet_step (fail);go_big_quiet_step (fail);go_big_quiet_step (rfl)
       iterate 4 (go_big_quiet_step (fail))
       refine wpQuiet_nil ?_;refine rO 7 ?_;refine G8 rfl ?_;refine Yh rfl _ _ rfl g m1 hmm rfl (.slice (some ⟨gv,ofv+p,none⟩) (nl-p) (cap-p)) rfl (L.drop p) (HP1.out _ ⟨rfl,rfl,rfl,aG _,fun _ _ _=>rfl⟩) (by rw[aD, ←HNL.out,HFI.out];omega) hgm ?_;refine⟨PX.of ((setRow_other _ _ _ _ (by omega)).trans HF.out),?_⟩;refine wpAnyH_done (by kernel_rfl) ?_ _;simp only[aO,aC,aH,aI];exact⟨trivial,_,_,_,_,_,_,_,_,rfl,trivial⟩
      rintro a' w3 ⟨y55,y56,y57,y58,y59,y60,y61,y62,rfl,hw3⟩;have HG3:Hid (w3.heap[g]?=some (.cells (Ah (IZ m1 (nI (L.drop p)))) 27 (0,0))):=by rw[hw3];exact setRow_heap _ _ _ _ _ _ hgm
      have HB3:Hid (w.grownBy w3 (some g)):=by rw[hw3];exact G6 (w:=wr.drew) (HB.out.trans ⟨rfl,rfl,rfl,aG _,fun _ _ _=>rfl⟩) _
      clear hw3;simp only[aO,aC,aH,aI];go_wp2_with fail;go_ret;exact⟨_,HB3.out,hms2,HG3.out,.inl ⟨by rw[ZN HNS.out HLE.out,HM1.out,HP.out,HN.out],rfl⟩⟩
    | true=>
     have c1':wr.cell? ⟨w.heap.size,1,none⟩=some (.pointer (some ⟨g,14,none⟩)):=c1
     cases d with
     | true=>exact absurd ⟨rfl,rfl⟩ hcd
     | false=>
      have c2':wr.cell? ⟨w.heap.size,2,none⟩=some (.pointer none):=c2;clear c1 c2
      have HFI:Hid (nl=p+26):=by
       show _=_;rw[HLN.out,HQ.out,HP.out];rfl
      obtain⟨V,hV⟩:∃V,V=(Ib L (p:Int)).1:=⟨_,rfl⟩;obtain⟨M,hM⟩:∃M,M=(Ib L (p:Int)).2.1:=⟨_,rfl⟩;obtain⟨ec,hec⟩:∃ec,ec=(Ib L (p:Int)).2.2:=⟨_,rfl⟩;have hVM:=Wk (L:=L) (p:=p) (by rw[←HNL.out];exact HFI.out);rw[←hV, ←hM] at hVM
      have HG:Hid (Ga ns true false L m=if ec=0 then some (Es m1 V M) else none):=by
       show _=_;rw[ZL HNS.out HLE.out,HM1.out,hV,hM,hec,HP.out,HN.out]
      have CT:Hid (∀W,W=wr→Calls aB 79 #[.slice ov nl cap,.int .i64 (p:Int)] W fun e w'=>e=.returned (.tuple #[.agg (cv V M),.int .i64 ec])∧Below W.heap.size W w'):=fun W hW=>by
       subst hW;have:=RD (.slice ov nl cap) L (p:Int) W HL.out (by omega);rw[←hV, ←hM, ←hec] at this;exact this
      clear hV hM hec;have hVl:=hVM.1.1;have hMl:=hVM.2.1;go_wp2_with fail;refine(CT.out _ rfl).mono ?_;rintro e w2 ⟨rfl,hb2⟩;have HB2:Hid (w.grownBy w2 (some g)):=Fo HB.out hb2;have hg2:w2.heap[g]?=some (.cells (Ah m1) 27 (0,0)):=(hb2.block _ (aA.1 hgm).1).trans hgm;have HF2:Hid (w2.heap[w.heap.size]?=some (.cells (Cc h g k true false) 118 (0,0))):=(hb2.block _ hsz).trans HF.out;have hs2:=(aA.1 HF2.out).1;clear hb2 hgm c1' c2';have n0:=Ac w2 (.cells Az 25) _ rfl;have HN0:Hid ((w2.alloc (.cells Az 25)).heap[w.heap.size]?=some (.cells (Cc h g k true false) 118 (0,0))):=Af _ _ _ _ HF2.out;have hg20:(w2.alloc (.cells Az 25)).heap[g]?=some (.cells (Ah m1) 27 (0,0)):=Af _ _ _ _ hg2;have n1:=setRow_heap _ _ _ (cv V M) _ _ n0;have hg3:((w2.alloc (.cells Az 25)).setRow w2.heap.size (cv V M)).heap[g]?=some (.cells (Ah m1) 27 (0,0)):=(setRow_other _ _ _ _ (by omega)).trans hg20;have HF3:Hid (((w2.alloc (.cells Az 25)).setRow w2.heap.size (cv V M)).heap[w.heap.size]?=some (.cells (Cc h g k true false) 118 (0,0))):=(setRow_other _ _ _ _ (by omega)).trans HN0.out;have HB3:Hid (w.grownBy ((w2.alloc (.cells Az 25)).setRow w2.heap.size (cv V M)) (some g)):=Fo HB2.out (Ak ((aM _ _).alloc (aG _) _) (aG _) _)
      have c1:((w2.alloc (.cells Az 25)).setRow w2.heap.size (cv V M)).cell? ⟨w.heap.size,1,none⟩=some (.pointer (some ⟨g,14,none⟩)):=cell_of_row _ _ _ _ _ _ HF3.out;by_cases he:ec=0
      ·rw[if_pos he] at HG;subst he;have c2:(((w2.alloc (.cells Az 25)).setRow w2.heap.size (cv V M)).setRow g (Ah (Es m1 V M))).cell? ⟨w.heap.size,2,none⟩=some (.pointer none):=cell_of_row _ _ _ _ _ _ ((setRow_other _ _ _ _ (by omega)).trans HF3.out)
       go_wp2_with (first
        | ((with_reducible refine Bf 25 _ rfl ?_);refine Cl rfl _ rfl w2.heap.size rfl V M n1 hVl hMl ?_)
        | ((with_reducible refine Da 25 _ _ rfl ?_);refine Bq rfl _ _ rfl w2.heap.size V M rfl rfl _ n0 rfl hVl hMl _ rfl ?_)
        | ((with_reducible refine Da 25 _ _ rfl ?_);refine FSx Ds rfl _ _ rfl g 14 rfl (cv V M) ⟨AO _ _ hVl hMl,FL _ _⟩ rfl _ _ hg3 (by rw[hms];decide) _ (MN hmm V M) ?_))
       try simp only[aO]
       go_wp2_with fail;go_ret;exact⟨_,G6 HB3.out _,Kb hmm hVM.1 hVM.2,setRow_heap _ _ _ _ _ _ hg3,.inl ⟨HG.out,rfl⟩⟩
      ·rw[if_neg he] at HG;have he1:(ec==0)=false:=by simpa using he
       have he2:(ec !=0)=true:=by simp[he]
       go_wp2_with (first
        | ((with_reducible refine Da 25 _ _ rfl ?_);refine Bq rfl _ _ rfl w2.heap.size V M rfl rfl _ n0 rfl hVl hMl _ rfl ?_))
       try simp only[aO]
       go_wp2_with fail;go_ret;exact⟨m1,HB3.out,hmm,hg3,.inr ⟨HG.out,rfl⟩⟩
 ·have HG:Hid (Ga ns c d L m=none):=Vt (by rw[←HNL.out, ←HN.out, ←HQ.out];exact hlen);have hq0:((nl:Int)==(q:Int))=false:=by simp;omega
  have hq1:(nl==q)=false:=by simp;omega
  go_enter Tryz.func56,Tryz.ntmps56
  go_wp2_with (first
   | ((with_reducible refine Bf 118 _ rfl ?_);refine Bc Gq rfl _ rfl w.heap.size 0 rfl _ _ _ (Cc h g n c d) rfl g00 (AA _ _) ?_))
  rw[←hw1];clear hw1 g00;refine(CS.out _).mono ?_;rintro e w2 ⟨rfl,hb2⟩;have HI2:Hid (Fi w2 h g ns m):=HI.out.below hb2;have HB2:Hid (w.grownBy w2 (some g)):=Fo HB.out hb2;clear hb2;go_wp2_with fail;go_ret;exact⟨m,HB2.out,HI2.out.hm,HI2.out.hg,.inr ⟨HG.out,rfl⟩⟩
theorem QL(k:Int):AS k=Iz k++tlF (Iq k) (Ki k):=
 FO (P:=fun l=>l=l.filter (fun f=>decide (f<13))++tlF (l.contains 13) (l.contains 14)) (by decide) (by decide) (by decide) (by decide) (by decide) (by decide) (by decide) (by decide) k
theorem OG(k:Int):∀j∈Iz k,j<13:=fun j hj=>by
 unfold Iz at hj
 rw[bH] at hj
 exact of_decide_eq_true hj.2
theorem PB(k:Int):(Iz k).length≤7:=
 FO (P:=fun l=>(l.filter (fun f=>decide (f<13))).length≤7) (by decide) (by decide) (by decide) (by decide) (by decide) (by decide) (by decide) (by decide) k
theorem Agi(k:Int):¬(Iq k=true∧Ki k=true):=
 FO (P:=fun l=> ¬(l.contains 13=true∧l.contains 14=true)) (by decide) (by decide) (by decide) (by decide) (by decide) (by decide) (by decide) (by decide) k
theorem UH(k:Int):La k=EO (Iz k).length (Iq k) (Ki k):=
 FO (P:=fun l=>(l.map DC).sum=EO (l.filter (fun f=>decide (f<13))).length (l.contains 13) (l.contains 14)) (by decide) (by decide) (by decide) (by decide) (by decide) (by decide) (by decide) (by decide) k
theorem Xe(k:Int){j:Nat}(hj:j<13):j∈Iz k↔j∈AS k:=by
 unfold Iz;rw[bH];simp[hj]
theorem Ui(k:Int):Iq k=true↔13∈AS k:=by unfold Iq;rw[aW]
theorem Uh(k:Int):Ki k=true↔14∈AS k:=by unfold Ki;rw[aW]
theorem VK(m:Aj):IV m (Iz m.kind) (Iq m.kind) (Ki m.kind)=Fl m:=by
 unfold IV Fl;rw[QL m.kind,aY];congr 1;unfold tlF;rw[aY]
 cases Iq m.kind <;> cases Ki m.kind <;> simp[AU]
theorem Ys{m:Aj}(h:Bj m)(j:Nat)(x:Int){i:Nat}(hi:i<13):Ad (Hk m j x) i=if i=j then x else Ad m i:=by
 unfold Ad Hk;dsimp only;by_cases e:i=j
 ·subst e;rw[if_pos rfl,aJ,List.getElem?_set_self (by rw[h.1];exact hi)];rfl
 ·rw[if_neg e,aJ,List.getElem?_set_ne (fun e'=>e e'.symm), ←aJ]
theorem NL:∀(ns:List Nat) {m:Aj},Bj m→∀i,i<13→Ad (Fw m ns) i=if i∈ns then 0 else Ad m i
 | [],m,_,i,_=>by simp[Fw]
 | j::ns,m,h,i,hi=>by
  rw[Fw,NL ns (MF h j 0) i hi,Ys h j 0 hi]
  by_cases e1:i∈ns
  ·rw[if_pos e1,if_pos (aX _ e1)]
  ·rw[if_neg e1]
   by_cases e2:i=j
   ·rw[if_pos e2,if_pos (by rw[e2];exact aZ)]
   ·rw[if_neg e2,if_neg (by simp[e1,e2])]
theorem QU:∀(ns:List Nat) (m:Aj),(Fw m ns).kind=m.kind∧(Fw m ns).cube=m.cube∧(Fw m ns).head=m.head
 | [],_=>⟨rfl,rfl,rfl⟩
 | j::ns,m=>QU ns (Hk m j 0)
theorem QV(m:Aj)(ns:List Nat)(c d:Bool):(Fm m ns c d).kind=m.kind∧(Fm m ns c d).num=(Fw m ns).num∧(Fm m ns c d).cube=(if c then (Z,Z) else m.cube)∧(Fm m ns c d).head=(if d then Z else m.head):=by
 have h:=QU ns m;unfold Fm
 cases c <;> cases d <;> simp[Es,IZ,h]
theorem PM{m:Aj}(h:Bj m)(ns:List Nat)(c d:Bool):Bj (Fm m ns c d):=by
 have h1:=Up ns h;unfold Fm
 cases c <;> cases d
 ·exact h1
 ·exact Px h1 AX
 ·exact Kb h1 AX AX
 ·exact Px (Kb h1 AX AX) AX
theorem Ro(k:Int)(j:Nat):Ad (Bk k) j=0:=by
 unfold Ad Bk;rw[aJ,List.getElem?_replicate];split <;> rfl
theorem Ee(k:Int):Bj (Bk k):=(Po k).1
theorem Aa1{m:Aj}(h:Bj m)(ns:List Nat)(c d:Bool):Fm m ns c d=Bk m.kind↔(∀j,j<13→j∉ns→Ad m j=0)∧(c=false→m.cube=(Z,Z))∧(d=false→m.head=Z):=by
 obtain⟨e1,e2,e3,e4⟩:=QV m ns c d;constructor
 ·intro e;refine⟨fun j hj hn=> ?_,fun hc=> ?_,fun hd=> ?_⟩
  ·have h1:Ad (Fm m ns c d) j=0:=by rw[e,Ro]
   have h2:Ad (Fm m ns c d) j=Ad (Fw m ns) j:=by unfold Ad;rw[e2]
   rw[h2,NL ns h j hj,if_neg hn] at h1;exact h1
  ·rw[e,hc] at e3;exact e3.symm
  ·rw[e,hd] at e4;exact e4.symm
 ·rintro⟨h1,h2,h3⟩
  have hn:(Fm m ns c d).num=(Bk m.kind).num:=T7 (PM h ns c d) (Ee _) fun j hj=>by
   rw[Ro];have h4:Ad (Fm m ns c d) j=Ad (Fw m ns) j:=by unfold Ad;rw[e2]
   rw[h4,NL ns h j hj];by_cases e:j∈ns
   ·rw[if_pos e]
   ·rw[if_neg e,h1 j hj e]
  have hc:(Fm m ns c d).cube=(Z,Z):=by
   rw[e3]
   cases c with
   | true=>rfl
   | false=>exact h2 rfl
  have hd:(Fm m ns c d).head=Z:=by
   rw[e4]
   cases d with
   | true=>rfl
   | false=>exact h3 rfl
  cases hx:Fm m ns c d with
  | mk k n cu hd'=>
   rw[hx] at e1 hn hc hd;dsimp only at e1 hn hc hd;rw[e1,hn,hc,hd];rfl
theorem TW{m:Aj}(hr:Bo m=true):DQ m (Iz m.kind) (Iq m.kind)=true:=by
 obtain⟨_,h2,h3,_,_⟩:=(E5 m).1 hr;unfold DQ J1;rw[Bool.and_eq_true,bF,h3,Bool.or_true];refine⟨fun j hj=> ?_,rfl⟩;have:=h2 j (OG _ j hj);rw[MS];omega
theorem WJ{m:Aj}(h:Bj m)(hk:AS m.kind≠[])(hF:DQ m (Iz m.kind) (Iq m.kind)=true):Kj (Fm m (Iz m.kind) (Iq m.kind) (Ki m.kind)) (Bk m.kind)=Bo m:=by
 rw[Bool.eq_iff_iff,XM (PM h _ _ _) (Ee _),Aa1 h,E5];unfold DQ J1 at hF;rw[Bool.and_eq_true,bF] at hF
 have hne:(AS m.kind).isEmpty=false:=by
  cases e:AS m.kind with
  | nil=>exact absurd e hk
  | cons a l=>rfl
 constructor
 ·rintro⟨h1,h2,h3⟩;have hcz:Iq m.kind=false→m.cube.1=Z∧m.cube.2=Z:=fun hc=>by rw[h2 hc];exact⟨rfl,rfl⟩
  refine⟨hne,fun j hj=> ?_,?_,fun hn=> ?_,fun hn=> ?_⟩
  ·by_cases e:j∈Iz m.kind
   ·have:=(MS _).1 (hF.1 j e);exact⟨this.1,by omega,fun hn=>absurd ((Xe _ hj).1 e) hn⟩
   ·have:=h1 j hj e;rw[this];exact⟨by omega,by omega,fun _=>rfl⟩
  ·cases hc:Iq m.kind with
   | true=>
    have:=hF.2;rw[hc] at this;simpa using this
   | false=>
    have:=hcz hc;unfold EJ;rw[this.1,this.2,show AH Z Z=Z by kernel_rfl];simp
  ·exact hcz (by cases hc:Iq m.kind with | false=>rfl | true=>exact absurd ((Ui _).1 hc) hn)
  ·exact h3 (by cases hc:Ki m.kind with | false=>rfl | true=>exact absurd ((Uh _).1 hc) hn)
 ·rintro⟨_,h2,_,h4,h5⟩;refine⟨fun j hj hn=>(h2 j hj).2.2 (fun e=>hn ((Xe _ hj).2 e)),fun hc=> ?_,fun hc=> ?_⟩
  ·have:=h4 (fun e=>by rw[(Ui _).2 e] at hc;cases hc);exact Prod.ext this.1 this.2
  ·exact h5 (fun e=>by rw[(Uh _).2 e] at hc;cases hc)
theorem Lc{m:Aj}(hk:AS m.kind=[]):Bo m=false:=by
 cases e:Bo m with
 | false=>rfl
 | true=>
  have:=((E5 m).1 e).1;rw[hk] at this
  cases this
theorem WH{m:Aj}(hF:DQ m (Iz m.kind) (Iq m.kind)=false):Bo m=false:=by
 cases e:Bo m with
 | false=>rfl
 | true=>rw[TW e] at hF;cases hF
theorem Wy{m:Aj}(h:Bj m)(hr:Bo m=true):DX m.kind (Fl m)=(DI m,0):=by
 have hk:=NH ((E5 m).1 hr).1;have hbl:(Fl m).length=La m.kind:=LC h _;have hsz:=TU m.kind;unfold DX;rw[if_pos (by omega),if_pos (by omega)];rfl
theorem Z8{L:List UInt8}{k:Nat}{body:List UInt8}(ho:Gu L=some (k,body))(hk:AS (k:Int)≠[]):Gc L=Ga (Iz (k:Int)) (Iq (k:Int)) (Ki (k:Int)) body (Bk (k:Int)):=by
 have hne:(AS (k:Int)).isEmpty=false:=by
  cases e:AS (k:Int) with
  | nil=>exact absurd e hk
  | cons a l=>rfl
 unfold Gc Ga;rw[ho, ←UH, ←QL];dsimp only;rw[hne,Bool.false_or];by_cases e:body.length=La (k:Int)
 ·rw[if_pos e,if_neg (by simp[e])]
 ·rw[if_neg e,if_pos (by simpa using e)]
theorem Z7{L:List UInt8}{k:Nat}{body:List UInt8}(ho:Gu L=some (k,body))(hk:AS (k:Int)=[]):Gc L=none:=by
 unfold Gc;rw[ho];dsimp only;rw[hk];rfl
abbrev IT:Array Value:=#[.slice none 0 0,.pointer none,.pointer none]
theorem LT{ops:Array Oper}{rest:List Oper}{o:Oper}{a:Act}{w:World}{Q:Exit→Act→World→Prop}(hgd:o.guard=none)(x:Operand)(ho:o.op=.build 27 #[(0,x)])(k:Int)
  (hx:a.eval x=.int .i64 k) (h:wpList aB ops Q rest (a.put o.dst (.agg (Ah (Bk k)))) w):wpList aB ops Q (o::rest) a w:=by
 refine wpList_plain hgd fun _ hK=> ?_;unfold Oper.wp execOp;simp only[ho,Sem.run_bind,bG,List.map_cons,List.map_nil,hx,Aa7 k,Result.andThen_ok,Sem.run_pure];exact hK _ _ h
theorem KX{ops:Array Oper}{rest:List Oper}{o:Oper}{a:Act}{w:World}{Q:Exit→Act→World→Prop}(hgd:o.guard=none)(ho:o.op=.build 27 #[])
  (h:wpList aB ops Q rest (a.put o.dst (.agg (Ah (Bk 0)))) w):wpList aB ops Q (o::rest) a w:=by
 refine wpList_plain hgd fun _ hK=> ?_;unfold Oper.wp execOp;simp only[ho,Sem.run_bind,bG,List.map_nil,XT,Result.andThen_ok,Sem.run_pure];exact hK _ _ h
theorem egM(op:BinOp)(x y:Operand)(xs ys:Array Value)(w:World):(eqGuard op 27 x y (.agg xs) (.agg ys)).run aB w=.ok () w:=
 run_eqGuard_agg w op 27 x y xs ys (by kernel_rfl)
theorem U5(m:Aj)(hm:Bj m)(w:World):Calls aB 98 #[.agg (Ah m)] w fun e w'=>e=.returned (.bool (Bo m))∧Below w.heap.size w w':=by
 obtain⟨w1,hw1⟩:=eX (w.alloc (.cells (Ah m) 27));have g1:w1.heap[w.heap.size]?=some (.cells (Ah m) 27 (0,0)):=by rw[hw1];exact Ac _ _ _ rfl
 have B1:Below w.heap.size w w1:=by rw[hw1];exact(aM _ _).alloc (aG _) _
 have hs1:=(gS g1);by_cases hk:AS m.kind=[]
 ·have HR:Hid (Bo m=false):=Lc hk
  have CF:Hid (∀W,W=w1→Calls aB 55 #[.pointer (some ⟨w.heap.size,0,none⟩)] W fun e w'=>e=.returned (.tuple #[.agg IT,.bool false])∧Below W.heap.size W w'):=fun W hW=>by
   subst hW;exact Ul w.heap.size m hk W g1
  go_enter Tryz.func98,Tryz.ntmps98;go_wp2_with fail;rw[←hw1];clear hw1;refine(CF.out _ rfl).mono ?_;rintro e w2 ⟨rfl,hb2⟩;have HB2:Hid (Below w.heap.size w w2):=B1.trans (hb2.mono B1.size);have hs2:=HB2.out.size;clear hb2;have n0:=Ac w2 (.cells IT 118) _ rfl
  go_wp2_with (first
   | go_skip
   | ((with_reducible refine Da 118 _ _ rfl ?_);refine Du Gq rfl _ _ rfl w2.heap.size IT ⟨rfl,rfl⟩ rfl rfl _ n0 rfl _ rfl ?_))
  go_ret;rw[HR.out];exact⟨rfl,HB2.out.alloc hs2 _⟩
 ·obtain⟨ns,hns⟩:=eX (Iz m.kind);obtain⟨c,hc⟩:=eX (Iq m.kind);obtain⟨d,hd⟩:=eX (Ki m.kind);have hlt:∀j∈ns,j<13:=by rw[hns];exact OG _
  have hl7:ns.length≤7:=by rw[hns];exact PB _
  have CF:Hid (∀W,W=w1→Calls aB 55 #[.pointer (some ⟨w.heap.size,0,none⟩)] W fun e w'=>J6 w.heap.size ns c d W e w'):=fun W hW=>by
   subst hW;rw[hns,hc,hd];exact Lw w.heap.size m hk W g1
  have HNOT:Hid (DQ m ns c=false→Bo m=false):=by rw[hns,hc];exact WH
  have HCLR:Hid (DQ m ns c=true→Kj (Fm m ns c d) (Bk m.kind)=Bo m):=by rw[hns,hc,hd];exact WJ hm hk
  clear hns hc hd hk;obtain⟨n,hn⟩:=eX ns.length;have HN:Hid _:=hn;clear hn;go_enter Tryz.func98,Tryz.ntmps98;go_wp2_with fail;rw[←hw1];clear hw1;refine(CF.out _ rfl).mono ?_;rintro e w2 ⟨h,rfl,hh1,hh2,hb2⟩;rw[←HN.out];have B2:Below w.heap.size w w2:=B1.trans (hb2.mono B1.size);have HI2:Hid (Fi w2 h w.heap.size ns m):=⟨(hb2.block _ hs1).trans g1,hh2,hm,hlt⟩;have hs2:=B2.size;have n0:=Ac w2 (.cells IT 118) _ rfl;have n1:=setRow_heap _ _ _ (Cc h w.heap.size n c d) _ _ n0;have B3:Below w2.heap.size w2 ((w2.alloc (.cells IT 118)).setRow w2.heap.size (Cc h w.heap.size n c d)):=Ak ((aM _ _).alloc (aG _) _) (aG _) _;have HI3:Hid _:=HI2.out.below B3;have HB3:Hid (Below w.heap.size w ((w2.alloc (.cells IT 118)).setRow w2.heap.size (Cc h w.heap.size n c d))):=B2.trans (B3.mono hs2);have hne:h≠w.heap.size:=by omega
  clear hb2 hh2
  go_wp2_with (first
   | go_skip
   | ((with_reducible refine Da 118 _ _ rfl ?_);refine Du Gq rfl _ _ rfl w2.heap.size (Cc h w.heap.size n c d) (NF _ _ _ _ _) rfl rfl _ n0 rfl _ rfl ?_)
   | ((with_reducible refine Bf 118 _ rfl ?_);refine Bc Gq rfl _ rfl w2.heap.size 0 rfl _ _ _ (Cc h w.heap.size n c d) rfl n1 (AA _ _) ?_))
  obtain⟨w3,hw3⟩:=eX ((w2.alloc (.cells IT 118)).setRow w2.heap.size (Cc h w.heap.size n c d));rw[←hw3] at HI3 HB3 n1 ⊢;clear hw3 n0 B3;have CR:=Vo h w.heap.size ns c d m w3 HI3.out hl7;rw[←HN.out] at CR;refine CR.mono ?_;rintro e w4 ⟨rfl,hb4⟩;have hs3:=(gS n1);have n4:w4.heap[w2.heap.size]?=some (.cells (Cc h w.heap.size n c d) 118 (0,0)):=(hb4.block _ hs3).trans n1;have HI4:Hid _:=HI3.out.below hb4;have HB4:Hid _:=HB3.out.trans (hb4.mono HB3.out.size);clear CR hb4 n1 HI3 HB3;by_cases hF:DQ m ns c=true
  ·rw[hF];have HE:Hid (Kj (Fm m ns c d) (Bk m.kind)=Bo m):=HCLR.out hF;have CC:=Vv h w.heap.size ns c d m w4 HI4.out hl7 hne;rw[←HN.out] at CC;have HCC:Hid (∀W,W=w4→Calls aB 124 #[.agg (Cc h w.heap.size n c d)] W fun e w'=>e=.returned (.tuple #[])∧w'.heap[w.heap.size]?=some (.cells (Ah (Fm m ns c d)) 27 (0,0))∧W.grownBy w' (some w.heap.size)):=fun W hW=>by rw[hW];exact CC
   clear CC hF
   go_wp2_with (first
    | go_skip
    | ((with_reducible refine Bf 118 _ rfl ?_);refine Bc Gq rfl _ rfl w2.heap.size 0 rfl _ _ _ (Cc h w.heap.size n c d) rfl n4 (AA _ _) ?_))
   refine(HCC.out _ rfl).mono ?_;rintro e w5 ⟨rfl,g5,hgr5⟩;have HB5:Hid (Below w.heap.size w w5):=LJ HB4.out hgr5 (aG _) HB4.out.size;clear hgr5;obtain⟨m5,hm5⟩:=eX (Fm m ns c d);have ok5:Bj m5:=by rw[hm5];exact PM hm _ _ _
   have k5:m5.kind=m.kind:=by rw[hm5];exact(QV m ns c d).1
   rw[←hm5] at HE g5;clear hm5;have c5:w5.cell? ⟨w.heap.size,0,none⟩=some (.int .i64 m.kind):=by rw[cell_of_row _ _ _ _ _ _ g5,Cx,k5]
   have eM:∀W,(Op.equalIn 10000 27 (.agg (Ah m5)) (.agg (Ah (Bk m.kind)))).run aB W=.ok (Kj m5 (Bk m.kind)) W:=fun W=>Ag6 ok5 (Ee _) W;have eg:∀op x y (xs ys:Array Value) w,(eqGuard op 27 x y (.agg xs) (.agg ys)).run aB w=.ok () w:=egM
   go_wp2_with (first
    | ((with_reducible refine Bf 27 _ rfl ?_);refine Bc DJ rfl _ rfl w.heap.size 0 rfl _ _ _ (Ah m5) (Ch ok5) g5 (AA _ _) ?_)
    | ((with_reducible refine BP 27 _ rfl ?_);refine LT rfl _ rfl m.kind rfl ?_))
   go_ret;rw[HE.out];exact⟨rfl,HB5.out⟩
  ·have hF':DQ m ns c=false:=by simpa using hF
   rw[hF'];have HR:Hid (Bo m=false):=HNOT.out hF';go_wp2_with fail;go_ret;rw[HR.out];exact⟨rfl,HB4.out⟩
theorem Zc(m:Aj)(hm:Bj m)(w:World):Calls aB 74 #[.agg (Ah m)] w fun e w'=> ∃u,e=.returned (.tuple #[u,.int .i64 (Eg m).2])∧Au w.heap.size w' u (Eg m).1∧Below w.heap.size w w':=by
 obtain⟨w1,hw1⟩:∃w1,w1=w.alloc (.cells (Ah m) 27):=⟨_,rfl⟩;have g1:w1.heap[w.heap.size]?=some (.cells (Ah m) 27 (0,0)):=by rw[hw1];exact Ac _ _ _ rfl
 have B1:Below w.heap.size w w1:=by rw[hw1];exact(aM _ _).alloc (aG _) _
 have hs1:=(aA.1 g1).1;have g10:(w.alloc (.cells (Ah m) 27)).heap[w.heap.size]?=some (.cells (Ah m) 27 (0,0)):=Ac _ _ _ rfl;have hms:=Ch hm;have CR:Hid (∀W,Calls aB 98 #[.agg (Ah m)] W fun e w'=>e=.returned (.bool (Bo m))∧Below W.heap.size W w'):=U5 m hm;by_cases hr:Bo m=true
 ·have HE:Hid (Eg m=(DI m,0)):=by show _=_;unfold Eg;rw[if_pos hr]
  have HS:Hid (DX m.kind (Fl m)=(DI m,0)):=Wy hm hr;have hk:AS m.kind≠[]:=fun e=>by rw[Lc e] at hr;cases hr
  rw[hr] at CR;obtain⟨ns,hns⟩:∃ns,ns=Iz m.kind:=⟨_,rfl⟩;obtain⟨c,hc⟩:∃c,c=Iq m.kind:=⟨_,rfl⟩;obtain⟨d,hd⟩:∃d,d=Ki m.kind:=⟨_,rfl⟩;have hlt:∀j∈ns,j<13:=by rw[hns];exact OG _
  have hl7:ns.length≤7:=by rw[hns];exact PB _
  have CF:Hid (∀W,W.heap[w.heap.size]?=some (.cells (Ah m) 27 (0,0))→Calls aB 55 #[.pointer (some ⟨w.heap.size,0,none⟩)] W fun e w'=>J6 w.heap.size ns c d W e w'):=fun W hW=>by
   rw[hns,hc,hd];exact Lw w.heap.size m hk W hW
  have HRF:Hid (DQ m ns c=true):=by rw[hns,hc];exact TW hr
  have HBY:Hid (IV m ns c d=Fl m):=by rw[hns,hc,hd];exact VK m
  clear hns hc hd hk hr;obtain⟨n,hn⟩:∃n,n=ns.length:=⟨_,rfl⟩;have HN:Hid (n=ns.length):=hn;clear hn;go_enter Tryz.func74,Tryz.ntmps74
  go_wp2_with (first
   | ((with_reducible refine Bf 27 _ rfl ?_);refine Bc DJ rfl _ rfl w.heap.size 0 rfl _ _ _ (Ah m) hms g10 (AA _ _) ?_))
  rw[←hw1];clear hw1 g10;refine(CR.out _).mono ?_;rintro e w2 ⟨rfl,hb2⟩;have g2:w2.heap[w.heap.size]?=some (.cells (Ah m) 27 (0,0)):=(hb2.block _ hs1).trans g1;have B2:Below w.heap.size w w2:=B1.trans (hb2.mono B1.size);have hs2:=(aA.1 g2).1;clear hb2 g1 B1 hs1;go_wp2_with fail;refine(CF.out _ g2).mono ?_;rintro e w3 ⟨h,rfl,hh1,hh2,hb3⟩;rw[←HN.out];have B3:Below w.heap.size w w3:=B2.trans (hb3.mono B2.size);have hI3:Fi w3 h w.heap.size ns m:=⟨(hb3.block _ hs2).trans g2,hh2,hm,hlt⟩;have n0:=Ac w3 (.cells IT 118) _ rfl;have n1:=setRow_heap _ _ _ (Cc h w.heap.size n c d) _ _ n0;have Bx:Below w3.heap.size w3 ((w3.alloc (.cells IT 118)).setRow w3.heap.size (Cc h w.heap.size n c d)):=Ak ((aM _ _).alloc (aG _) _) (aG _) _;have HI4:Hid (Fi ((w3.alloc (.cells IT 118)).setRow w3.heap.size (Cc h w.heap.size n c d)) h w.heap.size ns m):=hI3.below Bx;have HB4:Hid (Below w.heap.size w ((w3.alloc (.cells IT 118)).setRow w3.heap.size (Cc h w.heap.size n c d))):=B3.trans (Bx.mono B3.size);clear hb3 hh2 g2 hI3
  go_wp2_with (first
   | ((with_reducible refine Da 118 _ _ rfl ?_);refine Du Gq rfl _ _ rfl w3.heap.size (Cc h w.heap.size n c d) (NF _ _ _ _ _) rfl rfl _ n0 rfl _ rfl ?_))
  obtain⟨W,hW⟩:∃W,W=(w3.alloc (.cells IT 118)).setRow w3.heap.size (Cc h w.heap.size n c d):=⟨_,rfl⟩;rw[←hW] at HI4 HB4 n1 ⊢;clear hW n0 Bx;have hgs:=(aA.1 n1).1;have hgm:=(aA.1 HI4.out.hg).1;have ne1:=Al.ne W
  have c0:∀u:Al W,u.world.cell? ⟨w.heap.size,0,none⟩=some (.int .i64 m.kind):=fun u=>by
   rw[cell_of_row _ _ _ _ _ _ ((u.below.block _ hgm).trans HI4.out.hg),Cx]
  have HBB:Hid (∀u:Al W,Calls aB 100 #[.agg (Cc h w.heap.size n c d)] u.world fun e w'=> ∃x,e=.returned x∧Au u.world.heap.size w' x (Fl m)∧Below u.world.heap.size u.world w'):=fun u=>by
   have:=Vw h w.heap.size ns c d m u.world (HI4.out.below u.below) hl7 HRF.out;rw[←HN.out,HBY.out] at this;exact this
  have HSE:Hid (∀(v:Value) (W':World),Be W' v (Fl m)→Calls aB 99 #[.int .i64 m.kind,v] W' fun e w'=> ∃u,e=.returned (.tuple #[u,.int .i64 0])∧Au W'.heap.size w' u (DI m)∧Below W'.heap.size W' w'):=fun v W' hv=>by
   have:=Yw m.kind v (Fl m) W' hv;rw[HS.out] at this;exact this
  try simp only[aO]
  refine En (fun a a' w'=> ∃u y13 y14 y15 y16 y17 y18 y19,a'=(((((((((a.put (some 13) y13).put (some 14) y14).put (some 15) y15).put (some 16) y16).put (some 17) y17).put (some 18) y18).put (some 19) y19).put (some 2) u).put (some 3) (.int .i64 0))∧Au w.heap.size w' u (DI m)∧Below W.heap.size W w') ?_ ?_
  ·refine JH 9 rfl (by kernel_rfl) ?_;refine rE 0 3 6 ⟨⟨W.drew,(aM _ _).drew⟩,rfl⟩ ?_;simp only[aT,aP,aV];go_big_quiet_step (fail);go_big_quiet_step (fail);refine G5 Gq rfl _ rfl w3.heap.size 0 rfl _ _ _ (Cc h w.heap.size n c d) rfl (fun w' hw'=>by obtain⟨u,rfl⟩:=hw';exact(u.below.block _ hgs).trans n1) (AA _ _) ?_;simp only[aO,aC,aH,aI];refine wpQuiet_nil ?_;refine rO 3 ?_;refine Bp rfl rfl 100 #[.tmp 15] (by intro b w;have hf:=Tryz.func100;simp[go_sem]) #[.agg (Cc h w.heap.size n c d)] rfl (fun v w'=>Au W.heap.size w' v (Fl m)∧Below W.heap.size W w') ((HBB.out ⟨W.drew,(aM _ _).drew⟩).mono fun e w' ⟨v,h1,h2,h3⟩=>⟨v,h1,h2,((aM _ _).drew).trans h3⟩) (some 16) rfl ?_;rintro z w4 ⟨ho4,hb4⟩;refine⟨⟨⟨w4,hb4⟩,rfl⟩,?_⟩;simp only[aO,aC,aH,aI];refine rO 4 ?_
   refine Bp rfl rfl 99 #[.tmp 14,.tmp 16] (by intro b w;have hf:=Tryz.func99;simp[go_sem]) #[.int .i64 m.kind,z] rfl (fun v w'=> ∃u,v=.tuple #[u,.int .i64 0]∧Au w.heap.size w' u (DI m)∧Below W.heap.size W w') ((HSE.out z w4 ho4.sl).mono fun e w' ⟨v,h1,h2,h3⟩=>⟨_,h1,v,rfl,h2.base (Nat.le_trans HB4.out.size hb4.size),hb4.trans (h3.mono hb4.size)⟩) (some 17) rfl ?_;rintro z5 w5 ⟨u5,rfl,ho5,hb5⟩;refine⟨⟨⟨w5,hb5⟩,rfl⟩,?_⟩;simp only[aO,aC,aH,aI];refine rE 5 4 0 ⟨⟨w5,hb5⟩,rfl⟩ ?_;simp only[List.drop_succ_cons,aT,aP,aV]
   iterate 4 (go_big_quiet_step (fail))
   refine wpQuiet_nil ?_;refine wpAnyH_done (by kernel_rfl) ?_ _;exact⟨rfl,_,_,_,_,_,_,_,_,rfl,ho5,hb5⟩
  rintro a' w5 ⟨u5,y13,y14,y15,y16,y17,y18,y19,rfl,ho5,hb5⟩;have HO5:Hid (Au w.heap.size w5 u5 (DI m)):=ho5;have HB5:Hid (Below w.heap.size w w5):=HB4.out.trans (hb5.mono HB4.out.size);clear ho5 hb5;simp only[aO,aC,aH,aI];go_wp2_with fail;go_ret2;rw[HE.out];exact⟨_,rfl,HO5.out,HB5.out⟩
 ·have hr':Bo m=false:=by simpa using hr
  have HE:Hid (Eg m=([],12)):=by show _=_;unfold Eg;rw[if_neg hr]
  rw[hr'] at CR;go_enter Tryz.func74,Tryz.ntmps74
  go_wp2_with (first
   | ((with_reducible refine Bf 27 _ rfl ?_);refine Bc DJ rfl _ rfl w.heap.size 0 rfl _ _ _ (Ah m) hms g10 (AA _ _) ?_))
  rw[←hw1];clear hw1 g10;refine(CR.out _).mono ?_;rintro e w2 ⟨rfl,hb2⟩;have HB2:Hid (Below w.heap.size w w2):=B1.trans (hb2.mono B1.size);clear hb2;go_wp2_with fail;go_ret2;rw[HE.out];exact⟨_,rfl,Au.nil _ _,HB2.out⟩
end
end Go.Proofs.YtbhkoipcpcoooabGreat
