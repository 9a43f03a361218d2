import Derived.Test.YtbhkoipcpcoooaaGreatJ13
import Derived.Test.YtbhkoipcpcoooaaGreatJ14
namespace Go.Proofs.YtbhkoipcpcoooaaGreat
set_option maxRecDepth 20000
set_option maxHeartbeats 64000000
open Go
open Go.Proofs.Tryz renaming prog → aA, ntmps128 → aY, func128 → bB, underlying70 → bG
open Go.Lib renaming byteCells → aB, byteCells_length → aC
open _root_.Nat renaming le_refl → aD
open _root_.List renaming length_drop → aG, take_of_length_le → aI, getD_eq_getElem?_getD → aJ, take_succ_cons → aL, take_zero → aM, drop_zero → aN, setIfInBounds_toArray → aO, getElem?_eq_some_iff → aQ, length_take → aR, drop_of_length_le → aT, drop_drop → aV, contains_iff_mem → aW, mem_cons_of_mem → aX, flatMap_append → aZ, map_map → bA, mem_cons_self → bC, set_cons_succ → bD, set_cons_zero → bE, cons_append → bJ, length_cons → bK, all_eq_true → bO, map_toArray → bP, nil_append → bQ, map_append → bR, mem_filter → bS
open _root_.Array renaming getElem?_eq_some_iff → aH
open Go.RowKit.Below renaming refl → aK
open _root_.Int renaming toNat_natCast → aP
section
open Go.RowKit
def Gf(L:List UInt8)(p:Int):List Int×List Int×Int:=
 if 0≤p then
  if p+26≤L.length then
   if (nI ((L.drop p.toNat).take 13)==AZ (nI ((L.drop p.toNat).take 13)) (nI ((L.drop (p.toNat+13)).take 13)))=true then (nI ((L.drop p.toNat).take 13),nI ((L.drop (p.toNat+13)).take 13),0) else (Z,Z,12)
  else (Z,Z,12)
 else (Z,Z,1)
theorem Amz(V M:List Int)(B:List UInt8)(hV:V.length=13)(hB:B.length=13):((cv V M).toList.take 0++(aB B++(cv V M).toList.drop (0+(aB B).length))).toArray=cv (nI B) M:=by
 have e:(aB B)=(nI B).map (Value.int .u8):=by unfold aB nI;rw[bA];rfl
 rw[aM,bQ,aC,hB,e];unfold cv hv;simp only[bR];rw[List.drop_append_of_le_length (by simp;omega),aT (by simp;omega),bQ]
theorem Aj1(V M:List Int)(B:List UInt8)(hV:V.length=13)(hM:M.length=13)(hB:B.length=13):((cv V M).toList.take 13++(aB B++(cv V M).toList.drop (13+(aB B).length))).toArray=cv V (nI B):=by
 have e:(aB B)=(nI B).map (Value.int .u8):=by unfold aB nI;rw[bA];rfl
 rw[aC,hB,e];unfold cv hv;simp only[bR];rw[aT (by simp;omega),List.append_nil,List.take_append_of_le_length (by simp;omega),aI (by simp;omega)]
theorem Wh{ops:Array Oper}{rest:List Oper}{o:Oper}{a:Act}{w:World}{Q:Exit→Act→World→Prop}(hgd:o.guard=none)(d s:Operand)(ho:o.op=.call {callee:=.builtin .copy,args:=#[d,s],argTypes:=#[70,70]})
  (g off:Nat) (V M:List Int) (hV:V.length=13) (hM:M.length=13) (hoff:off=0∨off=13) (hd:a.eval d=.slice (some ⟨g,off,none⟩) 13 13) (u:Value) (hs:a.eval s=u) (L:List UInt8) (hL:Br w u L) (hl:13≤L.length) (hg:w.heap[g]?=some (.cells (cv V M) 37 (0,0)))
  (h:wpList aA ops Q rest (a.put o.dst (.int .i64 13)) (w.setRow g (if off=0 then cv (nI (L.take 13)) M else cv V (nI (L.take 13))))):wpList aA ops Q (o::rest) a w:=by
 obtain⟨oa,cap,rfl,h1,h2,h3,h4⟩:=hL;have hB:(L.take 13).length=13:=by simp;omega
 obtain⟨gs,os,_,_,_,rfl,_⟩:=h4 0 (by omega);refine wpList_copy_own hgd d s 70 70 ho 5 bG (by kernel_rfl) g off 13 13 ⟨gs,os,none⟩ L.length cap hd hs (cv V M) 37 hg (aB (L.take 13)) ?_ ?_ ?_ ?_ ?_
 ·rw[aC,hB];exact(Nat.min_eq_right hl).symm
 ·intro j v hj
  have hjl:j<13:=by
   have:=(aQ.1 hj).1;rw[aC,hB] at this;exact this
  obtain⟨g',off',cur,t,fr,e,h5,h6⟩:=h4 j (by omega);simp only[Option.some.injEq,Addr.mk.injEq,and_true] at e;obtain⟨rfl,rfl⟩:=e;rw[Se,cell_of_row _ _ _ _ _ _ h5,h6, ←hj,NJ _ j (by rw[hB];exact hjl)];simp
 ·rw[aC,hB,Bq V M hV hM];rcases hoff with rfl | rfl <;> omega
 ·intro v hv;unfold aB at hv;obtain⟨b,_,rfl⟩:=List.mem_map.1 hv;rfl
 ·rw[show goInt ((aB (L.take 13)).length:Nat)=.int .i64 13 by rw[aC,hB];rfl];rcases hoff with rfl | rfl
  ·rw[Amz V M _ hV hB];exact h
  ·rw[Aj1 V M _ hV hM hB];exact h
theorem Ws(v:Value)(L:List UInt8)(p:Int)(w:World)(hL:Br w v L)(hp:p≤9223372036854775807):
  Calls aA 128 #[v,.int .i64 p] w fun e w'=>e=.returned (.tuple #[.agg (cv (Gf L p).1 (Gf L p).2.1),.int .i64 (Gf L p).2.2])∧Below w.heap.size w w':=by
 have HL:Hid (Br w v L):=hL;obtain⟨ov,cx,hv,hc1,hc2⟩:=hL.slice;subst hv;clear hL;obtain⟨n,hn⟩:=eX L.length;have HN:Hid (n=L.length):=hn;rw[←hn] at HL hc1 ⊢;clear hn;have hzl:=BO.1;have g0:=Ab w (.cells AE 37) _ rfl;have B0:Below w.heap.size w (w.alloc (.cells AE 37)):=(aK _ _).alloc (aD _) _;have hcm:=hc2;unfold maxLen at hc2;by_cases h0:0≤p
 ·obtain⟨k,rfl⟩:∃k:Nat,p=k:=⟨p.toNat,by omega⟩;have CR:Hid (∀W,Calls aA 159 #[.slice ov n cx,.int .i64 (k:Int),.int .i64 26] W fun e w'=>e=.returned (.bool (decide ((26:Int)≤(n:Int)-k)))∧w'=W):=Rc ov n cx (by omega) k 26 h0 hp;by_cases hr:k+26≤n
  ·have hd:decide ((26:Int)≤(n:Int)-k)=true:=by simp;omega
   rw[hd] at CR;obtain⟨g,off,c,rfl,_,_⟩:=HL.out.at k (by omega);obtain⟨V,hV⟩:=eX (nI ((L.drop k).take 13));obtain⟨M,hM⟩:=eX (nI ((L.drop (k+13)).take 13));have hVb:AK V:=by rw[hV];exact JV _ (by simp;rw[←HN.out];omega)
   have hMb:AK M:=by rw[hM];exact JV _ (by simp;rw[←HN.out];omega)
   have HT:Hid (Gf L k=if (V==AZ V M)=true then (V,M,0) else (Z,Z,12)):=by
    show _=_;unfold Gf;rw[if_pos h0,if_pos (by rw[←HN.out];omega),hV,hM,aP]
   have HVM:Hid (V=nI ((L.drop k).take 13)∧M=nI ((L.drop (k+13)).take 13)):=⟨hV,hM⟩;have CQ:Hid (∀W,Calls aA 160 #[.agg (cv V M)] W fun e w'=>e=.returned (.bool (V==AZ V M))∧Below W.heap.size W w'):=Si V M hVb hMb;have hVl:=hVb.1;have hMl:=hMb.1
   have HP1:Hid (∀W,Below w.heap.size w W→Br W (.slice (some ⟨g,off+k,none⟩) (n-k) (cx-k)) (L.drop k)):=fun W hW=>by
    have:=(HL.out.below hW).part g off k (n-k) (cx-k) rfl (by omega) (by omega) (by omega);rw[aI (by rw[aG, ←HN.out];exact aD _)] at this;exact this
   have HP2:Hid (∀W,Below w.heap.size w W→Br W (.slice (some ⟨g,off+(k+13),none⟩) (n-(k+13)) (cx-(k+13))) (L.drop (k+13))):=fun W hW=>by
    have:=(HL.out.below hW).part g off (k+13) (n-(k+13)) (cx-(k+13)) rfl (by omega) (by omega) (by omega);rw[aI (by rw[aG, ←HN.out];exact aD _)] at this;exact this
   clear hV hM hVb hMb hd hcm;go_enter bB,aY;go_wp2_with (go_at_call 159;refine(CR.out _).mono ?_;rintro e w1 ⟨rfl,rfl⟩);have B1:Below w.heap.size w ((w.alloc (.cells AE 37)).alloc (.cells AE 37)):=B0.alloc B0.size _;have k0:=Ah (w.alloc (.cells AE 37)) (.cells AE 37) _ _ g0;have k1:=Ab (w.alloc (.cells AE 37)) (.cells AE 37) (w.heap.size+1) (by simp);obtain⟨W1,hW1⟩:∃W,W=(w.alloc (.cells AE 37)).alloc (.cells AE 37):=⟨_,rfl⟩;rw[←hW1] at B1 k0 k1;rw[J7] at k1;show Code.wp aA _ _ _ ((w.alloc (.cells AE 37)).alloc (.cells AE 37));rw[←hW1];clear hW1 g0 B0;refine EZ (fun a a' w'=> ∃y15 y16 y17 y18 y19 y20,a'=((((((a.put (some 15) y15).put (some 16) y16).put (some 17) y17).put (some 18) y18).put (some 19) y19).put (some 20) y20)∧w'=W1.drew.setRow (w.heap.size+1) (cv V Z)) ?_ ?_
   ·refine B8 (fun _=>True) 6 rfl (by kernel_rfl) ?_;refine rE 0 5 1 trivial ?_;simp only[aN,aL,aM]
    iterate 5 (go_big_quiet_step (fail))
    refine wpQuiet_nil ?_;refine rO 5 ?_;refine JZ rfl ?_;refine Wh rfl _ _ rfl (w.heap.size+1) 0 Z Z hzl hzl (.inl rfl) rfl (.slice (some ⟨g,off+k,none⟩) (n-k) (cx-k)) rfl (L.drop k) (HP1.out _ B1.drew) (by simp;rw[←HN.out];omega) k1 ?_;refine⟨trivial,?_⟩;refine rD ?_;rw[if_pos rfl, ←HVM.out.1];exact⟨rfl,_,_,_,_,_,_,rfl,rfl⟩
   rintro a' w2 ⟨y15,y16,y17,y18,y19,y20,rfl,hw2⟩;have B2:Below w.heap.size w w2:=by rw[hw2];exact Aj B1.drew (by omega) _
   have j0:w2.heap[w.heap.size]?=some (.cells AE 37 (0,0)):=by rw[hw2];exact(setRow_other _ _ _ _ (by omega)).trans k0
   have j1:w2.heap[w.heap.size+1]?=some (.cells (cv V Z) 37 (0,0)):=by rw[hw2];exact setRow_heap _ _ _ _ _ _ k1
   clear hw2 k0 k1 B1;simp only[pU];go_wp2_with fail;refine EZ (fun a a' w'=> ∃y21 y22 y23 y24 y25 y26 y27,a'=(((((((a.put (some 21) y21).put (some 22) y22).put (some 23) y23).put (some 24) y24).put (some 25) y25).put (some 26) y26).put (some 27) y27)∧w'=w2.drew.setRow (w.heap.size+1) (cv V M)) ?_ ?_
   ·refine B8 (fun _=>True) 7 rfl (by kernel_rfl) ?_;refine rE 0 6 1 trivial ?_;simp only[aN,aL,aM]
    iterate 6 (go_big_quiet_step (fail))
    refine wpQuiet_nil ?_;refine rO 6 ?_;refine JZ rfl ?_;refine Wh rfl _ _ rfl (w.heap.size+1) 13 V Z hVl hzl (.inr rfl) rfl (.slice (some ⟨g,off+(k+13),none⟩) (n-(k+13)) (cx-(k+13))) rfl (L.drop (k+13)) (HP2.out _ B2.drew) (by simp;rw[←HN.out];omega) j1 ?_;refine⟨trivial,?_⟩;refine rD ?_;rw[if_neg (by decide), ←HVM.out.2];exact⟨rfl,_,_,_,_,_,_,_,rfl,rfl⟩
   rintro a' w3 ⟨y21,y22,y23,y24,y25,y26,y27,rfl,hw3⟩;have B3:Below w.heap.size w w3:=by rw[hw3];exact Aj B2.drew (by omega) _
   have l0:w3.heap[w.heap.size]?=some (.cells AE 37 (0,0)):=by rw[hw3];exact(setRow_other _ _ _ _ (by omega)).trans j0
   have l1:w3.heap[w.heap.size+1]?=some (.cells (cv V M) 37 (0,0)):=by rw[hw3];exact setRow_heap _ _ _ _ _ _ j1
   have hsz:=(gS l1);clear hw3 j0 j1 B2;simp only[pU];go_wp2_with (refine De rfl _ rfl (w.heap.size+1) rfl V M l1 hVl hMl ?_);refine(CQ.out _).mono ?_;rintro e w4 ⟨rfl,hb4⟩;have m0:w4.heap[w.heap.size]?=some (.cells AE 37 (0,0)):=(hb4.block _ (by omega)).trans l0;have m1:w4.heap[w.heap.size+1]?=some (.cells (cv V M) 37 (0,0)):=(hb4.block _ hsz).trans l1;have B4:Below w.heap.size w w4:=B3.trans (hb4.mono B3.size);clear l0 l1 B3 hb4;by_cases hq:(V==AZ V M)=true
   ·rw[if_pos hq] at HT;obtain⟨b,hb⟩:=eX ((V==AZ V M));rw[←hb] at hq ⊢;subst hq;clear hb
    go_wp2_with (first
     | (refine De rfl _ rfl (w.heap.size+1) rfl V M m1 hVl hMl ?_)
     | (refine BQ rfl _ _ rfl w.heap.size V M rfl rfl _ m0 rfl hVl hMl _ rfl ?_))
    refine J0 (p:=4) (u:=5) rfl rfl w.heap.size rfl V M hVl hMl (setRow_heap _ _ _ _ _ _ m0) _ rfl ⟨?_,Aj B4 (aD _) _⟩;rw[HT.out];rfl
   ·rw[if_neg hq] at HT;have hq':(V==AZ V M)=false:=by simpa using hq
    obtain⟨b,hb⟩:=eX ((V==AZ V M));rw[←hb] at hq' ⊢;subst hq';clear hb hq
    go_wp2_with (first
     | (refine Hr rfl rfl ?_)
     | (refine BQ rfl _ _ rfl w.heap.size Z Z rfl rfl _ m0 rfl hzl hzl _ rfl ?_))
    refine J0 (p:=4) (u:=5) rfl rfl w.heap.size rfl Z Z hzl hzl (setRow_heap _ _ _ _ _ _ m0) _ rfl ⟨?_,Aj B4 (aD _) _⟩;rw[HT.out];rfl
  ·have hd:decide ((26:Int)≤(n:Int)-k)=false:=by simp;omega
   rw[hd] at CR;have HT:Hid (Gf L k=(Z,Z,12)):=by show _=_;unfold Gf;rw[if_pos h0,if_neg (by rw[←HN.out];omega)]
   clear hd hcm;go_enter bB,aY
   go_wp2_with (first
    | (go_at_call 159;refine(CR.out _).mono ?_;rintro e w1 ⟨rfl,rfl⟩)
    | (refine Hr rfl rfl ?_)
    | (refine BQ rfl _ _ rfl w.heap.size Z Z rfl rfl _ g0 rfl hzl hzl _ rfl ?_))
   refine J0 (p:=4) (u:=5) rfl rfl w.heap.size rfl Z Z hzl hzl (setRow_heap _ _ _ _ _ _ g0) _ rfl ⟨?_,Aj B0 (aD _) _⟩;rw[HT.out];rfl
 ·have HT:Hid (Gf L p=(Z,Z,1)):=by show _=_;unfold Gf;rw[if_neg h0]
  have hp0:p<0:=by omega
  go_enter bB,aY
  go_wp2_with (first
   | (refine Hr rfl rfl ?_)
   | (refine BQ rfl _ _ rfl w.heap.size Z Z rfl rfl _ g0 rfl hzl hzl _ rfl ?_))
  refine J0 (p:=4) (u:=5) rfl rfl w.heap.size rfl Z Z hzl hzl (setRow_heap _ _ _ _ _ _ g0) _ rfl ⟨?_,Aj B0 (aD _) _⟩;rw[HT.out];rfl
end
section
open Go.Lib Go.RowKit
def E4:List Nat→List UInt8→An→An
 | [],_,m=>m
 | j::ns,bs,m=>E4 ns (bs.drop 6) (AR m j (Dv (bs.take 6):Nat))
theorem Ww{m:An}{j:Nat}(hj:j<13)(bs:List UInt8):GV m j bs=AR m j (Dv bs:Nat):=by
 unfold GV AR;rw[if_neg (by omega),if_neg (by omega)]
theorem LN{j:Nat}(hj:j<13):Cm j=6:=by
 unfold Cm;rw[if_neg (by omega),if_neg (by omega)]
theorem Pj(tl:List Nat):∀(ns:List Nat) (bs:List UInt8) (m:An),(∀j∈ns,j<13)→Iq (ns++tl) bs m=Iq tl (bs.drop (ns.length*6)) (E4 ns bs m)
 | [],bs,m,_=>by simp[E4]
 | j::ns,bs,m,h=>by
  have hj:=h j bC
  rw[bJ,Iq,LN hj]
  have:(decide (j=13)&& !(F7 (GV m j (bs.take 6))))=false:=by
   rw[decide_eq_false (by omega)];rfl
  rw[this,Ww hj];simp only[Bool.false_eq_true,if_false];rw[Pj tl ns _ _ (fun x hx=>h x (aX _ hx)),aV,E4,bK];congr 2;omega
theorem Ts(j:Nat):∀(ns:List Nat) (bs:List UInt8) (m:An),E4 (ns++[j]) bs m=AR (E4 ns bs m) j (Dv ((bs.drop (ns.length*6)).take 6):Nat)
 | [],bs,m=>by simp[E4]
 | x::ns,bs,m=>by
  have e:6+ns.length*6=(ns.length+1)*6:=by omega
  rw[bJ,E4,Ts j ns,E4,aV,bK,e]
structure Yo(g:Nat)(o:Obj) where
 world:World
 k1:world.heap[g]?=some o
abbrev UA(g:Nat)(o:Obj)(w:World):Prop:=∃z:Yo g o,w=z.world
theorem UA.of{g:Nat}{o:Obj}{w:World}(h:w.heap[g]?=some o):UA g o w:=⟨⟨w,h⟩,rfl⟩
def Gv(n:Nat)(c d:Bool):Nat:=n*6+(if c then 26 else 0)+(if d then 13 else 0)
def tlF(c d:Bool):List Nat:=(if c then [13] else [])++(if d then [14] else [])
def H6(ns:List Nat)(c d:Bool)(L:List UInt8)(m:An):Option An:=if L.length=Gv ns.length c d then Iq (ns++tlF c d) L m else none
def Ar0(g:Nat)(ns:List Nat)(c d:Bool)(m:An)(L:List UInt8)(w:World)(e:Ending)(w':World):Prop:=
 ∃m',w.grownBy w' (some g)∧BB m'∧w'.heap[g]?=some (.cells (Ae m') 39 (0,0))∧((H6 ns c d L m=some m'∧e=.returned (.bool true))∨(H6 ns c d L m=none∧e=.returned (.bool false)))
theorem Abw{ns:List Nat}{c d:Bool}{L:List UInt8}{m:An}(h:L.length≠Gv ns.length c d):H6 ns c d L m=none:=by unfold H6;rw[if_neg h]
theorem Ak0{ns:List Nat}{L:List UInt8}{m:An}(hn:∀j∈ns,j<13)(h:L.length=Gv ns.length false false):H6 ns false false L m=some (E4 ns L m):=by
 unfold H6;rw[if_pos h,Pj _ ns L m hn];rfl
theorem Ajz{ns:List Nat}{L:List UInt8}{m:An}(hn:∀j∈ns,j<13)(h:L.length=Gv ns.length false true):H6 ns false true L m=some (GA (E4 ns L m) (nI (L.drop (ns.length*6)))):=by
 unfold H6;rw[if_pos h,Pj _ ns L m hn];have hl:(L.drop (ns.length*6)).length=13:=by rw[aG,h];unfold Gv;simp
 show Iq [14] _ _=_;rw[Iq];have e:(L.drop (ns.length*6)).take (Cm 14)=L.drop (ns.length*6):=aI (by rw[hl];decide);rw[e];rfl
theorem Wr{L:List UInt8}{p:Nat}(h:L.length=p+26):Gf L p=if (nI ((L.drop p).take 13)==AZ (nI ((L.drop p).take 13)) (nI (L.drop (p+13))))=true then (nI ((L.drop p).take 13),nI (L.drop (p+13)),0) else (Z,Z,12):=by
 unfold Gf;rw[if_pos (by omega),if_pos (by omega),aP,aI (l:=L.drop (p+13)) (by rw[aG];omega)]
theorem Ajy{ns:List Nat}{L:List UInt8}{m:An}(hn:∀j∈ns,j<13)(h:L.length=Gv ns.length true false):
  H6 ns true false L m=if (Gf L ((ns.length*6:Nat):Int)).2.2=0 then some (EG (E4 ns L m) (Gf L ((ns.length*6:Nat):Int)).1 (Gf L ((ns.length*6:Nat):Int)).2.1) else none:=by
 have hl:L.length=ns.length*6+26:=by rw[h];unfold Gv;simp
 unfold H6;rw[if_pos h,Pj _ ns L m hn,Wr hl];have hl2:(L.drop (ns.length*6)).length=26:=by rw[aG,hl];omega
 show Iq [13] _ _=_;rw[Iq];have e:(L.drop (ns.length*6)).take (Cm 13)=L.drop (ns.length*6):=aI (by rw[hl2];decide);rw[e]
 have e2:GV (E4 ns L m) 13 (L.drop (ns.length*6))=EG (E4 ns L m) (nI ((L.drop (ns.length*6)).take 13)) (nI (L.drop (ns.length*6+13))):=by
  unfold GV EG;rw[if_pos rfl,aV]
 rw[e2];have e3:F7 (EG (E4 ns L m) (nI ((L.drop (ns.length*6)).take 13)) (nI (L.drop (ns.length*6+13))))=(nI ((L.drop (ns.length*6)).take 13)==AZ (nI ((L.drop (ns.length*6)).take 13)) (nI (L.drop (ns.length*6+13)))):=rfl;rw[e3]
 cases (nI ((L.drop (ns.length*6)).take 13)==AZ (nI ((L.drop (ns.length*6)).take 13)) (nI (L.drop (ns.length*6+13))))
 ·simp
 ·simp[Iq]
theorem UQ{L:List UInt8}{p:Nat}(h:L.length=p+26):AK (Gf L p).1∧AK (Gf L p).2.1:=by
 rw[Wr h];split
 ·exact⟨JV _ (by rw[aR,aG];omega),JV _ (by rw[aG];omega)⟩
 ·exact⟨BO,BO⟩
theorem Ah6{ops:Array Oper}{rest:List Oper}{o:Oper}{a:Act}{w:World}{Q:Exit→Act→World→Prop}(hgd:o.guard=none)(d s:Operand)(ho:o.op=.call {callee:=.builtin .copy,args:=#[d,s],argTypes:=#[70,70]})
  (g:Nat) (m:An) (hm:BB m) (hd:a.eval d=.slice (some ⟨g,40,none⟩) 13 13) (u:Value) (hs:a.eval s=u) (L:List UInt8) (hL:Br w u L) (hl:L.length=13) (hg:w.heap[g]?=some (.cells (Ae m) 39 (0,0)))
  (h:wpList aA ops Q rest (a.put o.dst (.int .i64 13)) (w.setRow g (Ae (GA m (nI L))))):wpList aA ops Q (o::rest) a w:=by
 obtain⟨oa,cap,rfl,h1,h2,h3,h4⟩:=hL;obtain⟨gs,os,_,_,_,rfl,_⟩:=h4 0 (by omega);have e:(aB L)=(hv (nI L)).toList:=by unfold aB nI hv;rw[bA];rfl
 refine wpList_copy_own hgd d s 70 70 ho 5 bG (by kernel_rfl) g 40 13 13 ⟨gs,os,none⟩ L.length cap hd hs (Ae m) 39 hg (aB L) ?_ ?_ ?_ ?_ ?_
 ·rw[aC,hl];rfl
 ·intro j v hj
  have hjl:j<13:=by
   have:=(aQ.1 hj).1;rw[aC,hl] at this;exact this
  obtain⟨g',off',cur,t,fr,e,h5,h6⟩:=h4 j (by omega);simp only[Option.some.injEq,Addr.mk.injEq,and_true] at e;obtain⟨rfl,rfl⟩:=e;rw[Se,cell_of_row _ _ _ _ _ _ h5,h6, ←hj,NJ _ j (by omega)]
 ·rw[aC,hl,BG hm];decide
 ·intro v hv;unfold aB at hv;obtain⟨b,_,rfl⟩:=List.mem_map.1 hv;rfl
 ·have e2:((Ae m).toList.take 40++(aB L++(Ae m).toList.drop (40+(aB L).length))).toArray=Ae (GA m (nI L)):=by
   rw[aC,hl,e, ←List.append_assoc];exact Ue hm (nI L)
  rw[e2,show goInt ((aB L).length:Nat)=.int .i64 13 by rw[aC,hl];rfl];exact h
theorem Ag4(h g:Nat)(ns:List Nat)(c d:Bool)(m:An)(w:World)(H:G3 w h g ns m)(hl:ns.length≤7)(hne:h≠g)(hcd:¬(c=true∧d=true))(v:Value)(L:List UInt8)(hL:Br w v L)(hv:v.ownBlock≠some g):
  Calls aA 81 #[.agg (Df h g ns.length c d),v] w fun e w'=>Ar0 g ns c d m L w e w':=by
 obtain⟨ov,cap,hvv,hc1,hc2⟩:=hL.slice;subst hvv;obtain⟨nl,hnl⟩:∃nl,nl=L.length:=⟨_,rfl⟩;have HNL:Hid (nl=L.length):=hnl;rw[←hnl] at hL hc1 hv ⊢;clear hnl;have hcm:=hc2;unfold maxLen at hc2;obtain⟨n,hn⟩:∃n,n=ns.length:=⟨_,rfl⟩;have HN:Hid (n=ns.length):=hn;rw[←hn] at hl ⊢;clear hn;have HNS:Hid (∀j∈ns,j<13):=H.hn;have hgl:=(aH.1 H.hg).1;have hhl:=(aH.1 H.hh).1;have HV:Hid (Value.ownBlock (.slice ov nl cap)≠some g):=hv;obtain⟨w1,hw1⟩:∃w1,w1=w.alloc (.cells (Df h g n c d) 140):=⟨_,rfl⟩;have HI:Hid (G3 w1 h g ns m):=by rw[hw1];exact H.alloc _
 have HL:Hid (Br w1 (.slice ov nl cap) L):=by rw[hw1];exact hL.alloc _
 have HF:Hid (w1.heap[w.heap.size]?=some (.cells (Df h g n c d) 140 (0,0))):=by rw[hw1];exact Ab _ _ _ rfl
 have HB:Hid (w.grownBy w1 (some g)):=by rw[hw1];exact Gs (Ih _ _) ((aK _ _).alloc (aD _) _)
 have g0:=HF.out;have hsz1:=(aH.1 g0).1;have CS:Hid (∀W,Calls aA 126 #[.agg (Df h g n c d)] W fun e w'=>e=.returned (.int .i64 ((Gv n c d:Nat):Int))∧Below W.heap.size W w'):=fun W=>Afz h g n c d W hl;clear H hL hv;have hle:Gv n c d≤81:=by unfold Gv;split <;> split <;> omega
 obtain⟨q,hq⟩:∃q,q=Gv n c d:=⟨_,rfl⟩;have HQ:Hid (q=Gv n c d):=hq;rw[←hq] at CS hle;clear hq;have g00:(w.alloc (.cells (Df h g n c d) 140)).heap[w.heap.size]?=some (.cells (Df h g n c d) 140 (0,0)):=Ab _ _ _ rfl;by_cases hlen:nl=q
 ·have HLN:Hid (nl=q):=hlen;have hq0:((nl:Int)==(q:Int))=true:=by rw[hlen];simp
  have hq1:(nl==q)=true:=by rw[hlen];simp
  have hq2:((nl:Int) !=(q:Int))=false:=by rw[hlen];simp
  clear hlen;go_enter Tryz.func81,Tryz.ntmps81;go_wp2_with ((with_reducible refine Aw 140 _ rfl ?_);refine AH I8 rfl _ rfl w.heap.size 0 rfl _ _ _ (Df h g n c d) rfl g00 (Ar _ _) ?_);rw[←hw1];clear hw1 g00;refine(CS.out _).mono ?_;rintro e w2 ⟨rfl,hb2⟩;have HI2:Hid (G3 w2 h g ns (E4 (ns.take 0) L m)):=HI.out.below hb2;have HL2:Hid (Br w2 (.slice ov nl cap) L):=HL.out.below hb2;have HF2:Hid (w2.heap[w.heap.size]?=some (.cells (Df h g n c d) 140 (0,0))):=(hb2.block _ hsz1).trans g0;have HB2:Hid (w.grownBy w2 (some g)):=Gs HB.out hb2;have c0:w2.cell? ⟨w.heap.size,0,none⟩=some (.slice (some ⟨h,0,none⟩) n n):=cell_of_row _ _ _ _ _ _ HF2.out;clear hb2 HI HL HF HB g0 hsz1 CS;go_wp2_with fail;clear c0 hq0 hq1 hq2;go_loopw [5,20] (fun x i W=> ∃k:Nat,k≤n∧i=.int .i64 k∧x=.int .i64 ((k*6:Nat):Int)∧G3 W h g ns (E4 (ns.take k) L m)∧Br W (.slice ov nl cap) L∧W.heap[w.heap.size]?=some (.cells (Df h g n c d) 140 (0,0))∧w.grownBy W (some g)) (fun _ i _=>n-(intOf i).toNat)
  case atStart=>exact⟨0,Nat.zero_le _,rfl,rfl,HI2.out,HL2.out,HF2.out,HB2.out⟩
  case round=>
   clear HI2 HL2 HF2 HB2;obtain⟨k,hk,rfl,rfl,hI,hLL,hF,hB⟩:=hrel;have HI:Hid (G3 wr h g ns (E4 (ns.take k) L m)):=hI;have HL:Hid (Br wr (.slice ov nl cap) L):=hLL;have HF:Hid (wr.heap[w.heap.size]?=some (.cells (Df h g n c d) 140 (0,0))):=hF;have HB:Hid (w.grownBy wr (some g)):=hB;have hsz:=(aH.1 hF).1;clear hI hLL hF hB;by_cases hlt:k<n
   ·have hfit:k*6+6≤nl:=by
     rw[HLN.out,HQ.out];unfold Gv;omega
    obtain⟨j,hj⟩:∃j,ns[k]?=some j:=⟨_,List.getElem?_eq_getElem (by rw[←HN.out];exact hlt)⟩;obtain⟨e1,e2,hj13⟩:=HI.out.at hj;have f2:wr.frozen? ⟨g,j+1,none⟩=false:=frozen_of_row _ _ _ _ _ HI.out.hg;obtain⟨y,hy⟩:∃y:Nat,y=Dv ((L.drop (k*6)).take 6):=⟨_,rfl⟩
    have hy2:y<281474976710656:=by
     have h1:=My ((L.drop (k*6)).take 6);have h2:((L.drop (k*6)).take 6).length=6:=by rw[aR,aG, ←HNL.out];omega
     rw[h2, ←hy] at h1;omega
    have HT:Hid (E4 (ns.take (k+1)) L m=AR (E4 (ns.take k) L m) j (y:Int)):=by
     show _=_;rw[List.take_add_one,hj];show E4 (ns.take k++[j]) L m=_;rw[Ts,aR,hy,Nat.min_eq_left (by rw[←HN.out];omega)]
    have CT:Hid (∀W,W=wr→Calls aA 127 #[.slice ov nl cap,.int .i64 ((k*6:Nat):Int),.int .i64 6] W fun e w'=>e=.returned (.tuple #[.int .u64 (y:Int),.int .i64 0])∧w'=W):=fun W hW=>by
     subst hW
     have hq:Fg L ((k*6:Nat):Int) 6=(y,0):=by
      unfold Fg;rw[if_pos ⟨by decide,by omega⟩,if_pos (by rw[←HNL.out];omega),aP,hy];rfl
     have:=Ahh (.slice ov nl cap) L ((k*6:Nat):Int) 6 W HL.out (by omega);rw[hq] at this;exact this
    obtain⟨x,hx⟩:∃x,x=Ad (E4 (ns.take k) L m) j:=⟨_,rfl⟩;rw[←hx] at e2;clear hj hx hy;obtain⟨p,hp⟩:∃p,p=k*6:=⟨_,rfl⟩;have HP:Hid (p=k*6):=hp;rw[←hp] at CT hfit ⊢;clear hp;have hpp:p≤100:=by have:=HP.out;omega
    go_wp2_with fail;refine(CT.out _ rfl).mono ?_;rintro e w2 ⟨rfl,hw2⟩;obtain rfl:=hw2.symm;go_wp2_with fail;go_roundw
    case rel=>
     refine⟨k+1,by omega,by go_num,?_,⟨?_,?_,?_,HNS.out⟩,?_,?_,K8 HB.out _ _⟩
     ·have:=HP.out;congr 1;omega
     ·rw[HT.out, ←FK HI.out.hm j hj13 (y:Int)];exact heap_setCell_same _ _ _ _ _ _ HI.out.hg
     ·exact(heap_setCell_other _ ⟨g,j+1,none⟩ h _ (by simpa using hne)).trans HI.out.hh
     ·rw[HT.out];exact EU HI.out.hm j _
     ·exact HL.out.grown (K8 (Ih _ _) _ _) (fun q hq e=>HV.out (hq.trans e.symm))
     ·exact(heap_setCell_other _ ⟨g,j+1,none⟩ w.heap.size _ (by simp;omega)).trans HF.out
    case measure=>simp[intOf];omega
   ·obtain rfl:k=n:=by omega
    obtain⟨p,hp⟩:∃p,p=k*6:=⟨_,rfl⟩;have HP:Hid (p=k*6):=hp;rw[←hp];clear hp;have hpp:p≤42:=by have:=HP.out;omega
    have hI2:G3 wr h g ns (E4 ns L m):=by
     have:=HI.out;rw[HN.out,List.take_length] at this;exact this
    obtain⟨m1,hm1⟩:∃m1,m1=E4 ns L m:=⟨_,rfl⟩;have HM1:Hid (m1=E4 ns L m):=hm1;rw[←hm1] at hI2;clear hm1 HI;have hgm:=hI2.hg;have hmm:=hI2.hm;have hms:=BG hmm;clear hI2;have c1:wr.cell? ⟨w.heap.size,1,none⟩=some (PZ g c):=cell_of_row _ _ _ _ _ _ HF.out;have c2:wr.cell? ⟨w.heap.size,2,none⟩=some (PY g d):=cell_of_row _ _ _ _ _ _ HF.out;have HLE:Hid (L.length=Gv ns.length c d):=by show _=_;rw[←HNL.out, ←HN.out,HLN.out,HQ.out]
    cases c with
    | false=>
     have c1':wr.cell? ⟨w.heap.size,1,none⟩=some (.pointer none):=c1;clear c1
     cases d with
     | false=>
      have c2':wr.cell? ⟨w.heap.size,2,none⟩=some (.pointer none):=c2;clear c2;go_wp2_with fail;go_ret;exact⟨m1,HB.out,hmm,hgm,.inl ⟨by rw[Ak0 HNS.out HLE.out,HM1.out],rfl⟩⟩
     | true=>
      have c2':wr.cell? ⟨w.heap.size,2,none⟩=some (.pointer (some ⟨g,40,none⟩)):=c2;clear c2
      have HFI:Hid (nl=p+13):=by
       show _=_;rw[HLN.out,HQ.out,HP.out];rfl
      have hfi1:p<nl:=by have:=HFI.out;omega
      go_wp2_with fail;have hms2:BB (GA m1 (nI (L.drop p))):=QH hmm (JV _ (by rw[aG, ←HNL.out,HFI.out];omega));obtain⟨gv,ofv,_,rfl,_,_⟩:=HL.out.at p (by rw[HFI.out];omega)
      have HP1:Hid (∀W:World,wr.grownBy W none→Br W (.slice (some ⟨gv,ofv+p,none⟩) (nl-p) (cap-p)) (L.drop p)):=fun W hW=>by
       have:=(HL.out.grown hW (fun _ _=>by simp)).part gv ofv p (nl-p) (cap-p) rfl (by omega) (by omega) (by omega);rw[aI (by rw[aG, ←HNL.out];exact aD _)] at this;exact this
      have CF:∀z:Yo w.heap.size (.cells (Df h g k false true) 140 (0,0)),z.world.cell? ⟨w.heap.size,2,none⟩=some (.pointer (some ⟨g,40,none⟩)):=fun z=>cell_of_row _ _ _ _ _ _ z.k1;refine EZ (fun a a' w'=> ∃y55 y56 y57 y58 y59 y60 y61 y62,a'=((((((((a.put (some 55) y55).put (some 56) y56).put (some 57) y57).put (some 58) y58).put (some 59) y59).put (some 60) y60).put (some 61) y61).put (some 62) y62)∧w'=wr.drew.setRow g (Ae (GA m1 (nI (L.drop p))))) ?_ ?_
      ·have S0:UA w.heap.size (.cells (Df h g k false true) 140 (0,0)) wr.drew:=UA.of HF.out;have ne1:Nonempty (Yo w.heap.size (.cells (Df h g k false true) 140 (0,0))):=⟨⟨wr.drew,HF.out⟩⟩;refine B8 (UA w.heap.size (.cells (Df h g k false true) 140 (0,0))) 8 rfl (by kernel_rfl) ?_;refine rE 0 7 1 S0 ?_;simp only[aN,aL,aM];go_big_quiet_step (fail);go_big_quiet_step (fail);go_big_quiet_step (rfl)
       iterate 4 (go_big_quiet_step (fail))
       refine wpQuiet_nil ?_;refine rO 7 ?_;refine JZ rfl ?_;refine Ah6 rfl _ _ rfl g m1 hmm rfl (.slice (some ⟨gv,ofv+p,none⟩) (nl-p) (cap-p)) rfl (L.drop p) (HP1.out _ ⟨rfl,rfl,rfl,aD _,fun _ _ _=>rfl⟩) (by rw[aG, ←HNL.out,HFI.out];omega) hgm ?_;refine⟨UA.of ((setRow_other _ _ _ _ (by omega)).trans HF.out),?_⟩;refine wpAnyH_done (by kernel_rfl) ?_ _;simp only[Act.put,aO,bD,bE];exact⟨trivial,_,_,_,_,_,_,_,_,rfl,trivial⟩
      rintro a' w3 ⟨y55,y56,y57,y58,y59,y60,y61,y62,rfl,hw3⟩;have HG3:Hid (w3.heap[g]?=some (.cells (Ae (GA m1 (nI (L.drop p)))) 39 (0,0))):=by rw[hw3];exact setRow_heap _ _ _ _ _ _ hgm
      have HB3:Hid (w.grownBy w3 (some g)):=by rw[hw3];exact Hu (w:=wr.drew) (HB.out.trans ⟨rfl,rfl,rfl,aD _,fun _ _ _=>rfl⟩) _
      clear hw3;simp only[Act.put,aO,bD,bE];go_wp2_with fail;go_ret;exact⟨_,HB3.out,hms2,HG3.out,.inl ⟨by rw[Ajz HNS.out HLE.out,HM1.out,HP.out,HN.out],rfl⟩⟩
    | true=>
     have c1':wr.cell? ⟨w.heap.size,1,none⟩=some (.pointer (some ⟨g,14,none⟩)):=c1
     cases d with
     | true=>exact absurd ⟨rfl,rfl⟩ hcd
     | false=>
      have c2':wr.cell? ⟨w.heap.size,2,none⟩=some (.pointer none):=c2;clear c1 c2
      have HFI:Hid (nl=p+26):=by
       show _=_;rw[HLN.out,HQ.out,HP.out];rfl
      obtain⟨V,hV⟩:∃V,V=(Gf L (p:Int)).1:=⟨_,rfl⟩;obtain⟨M,hM⟩:∃M,M=(Gf L (p:Int)).2.1:=⟨_,rfl⟩;obtain⟨ec,hec⟩:∃ec,ec=(Gf L (p:Int)).2.2:=⟨_,rfl⟩;have hVM:=UQ (L:=L) (p:=p) (by rw[←HNL.out];exact HFI.out);rw[←hV, ←hM] at hVM
      have HG:Hid (H6 ns true false L m=if ec=0 then some (EG m1 V M) else none):=by
       show _=_;rw[Ajy HNS.out HLE.out,HM1.out,hV,hM,hec,HP.out,HN.out]
      have CT:Hid (∀W,W=wr→Calls aA 128 #[.slice ov nl cap,.int .i64 (p:Int)] W fun e w'=>e=.returned (.tuple #[.agg (cv V M),.int .i64 ec])∧Below W.heap.size W w'):=fun W hW=>by
       subst hW;have:=Ws (.slice ov nl cap) L (p:Int) W HL.out (by omega);rw[←hV, ←hM, ←hec] at this;exact this
      clear hV hM hec;have hVl:=hVM.1.1;have hMl:=hVM.2.1;go_wp2_with fail;refine(CT.out _ rfl).mono ?_;rintro e w2 ⟨rfl,hb2⟩;have HB2:Hid (w.grownBy w2 (some g)):=Gs HB.out hb2;have hg2:w2.heap[g]?=some (.cells (Ae m1) 39 (0,0)):=(hb2.block _ (aH.1 hgm).1).trans hgm;have HF2:Hid (w2.heap[w.heap.size]?=some (.cells (Df h g k true false) 140 (0,0))):=(hb2.block _ hsz).trans HF.out;have hs2:=(aH.1 HF2.out).1;clear hb2 hgm c1' c2';have n0:=Ab w2 (.cells AE 37) _ rfl;have HN0:Hid ((w2.alloc (.cells AE 37)).heap[w.heap.size]?=some (.cells (Df h g k true false) 140 (0,0))):=Ah _ _ _ _ HF2.out;have hg20:(w2.alloc (.cells AE 37)).heap[g]?=some (.cells (Ae m1) 39 (0,0)):=Ah _ _ _ _ hg2;have n1:=setRow_heap _ _ _ (cv V M) _ _ n0;have hg3:((w2.alloc (.cells AE 37)).setRow w2.heap.size (cv V M)).heap[g]?=some (.cells (Ae m1) 39 (0,0)):=(setRow_other _ _ _ _ (by omega)).trans hg20;have HF3:Hid (((w2.alloc (.cells AE 37)).setRow w2.heap.size (cv V M)).heap[w.heap.size]?=some (.cells (Df h g k true false) 140 (0,0))):=(setRow_other _ _ _ _ (by omega)).trans HN0.out;have HB3:Hid (w.grownBy ((w2.alloc (.cells AE 37)).setRow w2.heap.size (cv V M)) (some g)):=Gs HB2.out (Aj ((aK _ _).alloc (aD _) _) (aD _) _)
      have c1:((w2.alloc (.cells AE 37)).setRow w2.heap.size (cv V M)).cell? ⟨w.heap.size,1,none⟩=some (.pointer (some ⟨g,14,none⟩)):=cell_of_row _ _ _ _ _ _ HF3.out;by_cases he:ec=0
      ·rw[if_pos he] at HG;subst he;have c2:(((w2.alloc (.cells AE 37)).setRow w2.heap.size (cv V M)).setRow g (Ae (EG m1 V M))).cell? ⟨w.heap.size,2,none⟩=some (.pointer none):=cell_of_row _ _ _ _ _ _ ((setRow_other _ _ _ _ (by omega)).trans HF3.out)
       go_wp2_with (first
        | ((with_reducible refine Aw 37 _ rfl ?_);refine De rfl _ rfl w2.heap.size rfl V M n1 hVl hMl ?_)
        | ((with_reducible refine Bu 37 _ _ rfl ?_);refine BQ rfl _ _ rfl w2.heap.size V M rfl rfl _ n0 rfl hVl hMl _ rfl ?_)
        | ((with_reducible refine Bu 37 _ _ rfl ?_);refine Jw Es rfl _ _ rfl g 14 rfl (cv V M) ⟨Bq _ _ hVl hMl,Ii _ _⟩ rfl _ _ hg3 (by rw[hms];decide) _ (QN hmm V M) ?_))
       try simp only[Act.put]
       go_wp2_with fail;go_ret;exact⟨_,Hu HB3.out _,LO hmm hVM.1 hVM.2,setRow_heap _ _ _ _ _ _ hg3,.inl ⟨HG.out,rfl⟩⟩
      ·rw[if_neg he] at HG;have he1:(ec==0)=false:=by simpa using he
       have he2:(ec !=0)=true:=by simp[he]
       go_wp2_with ((with_reducible refine Bu 37 _ _ rfl ?_);refine BQ rfl _ _ rfl w2.heap.size V M rfl rfl _ n0 rfl hVl hMl _ rfl ?_)
       try simp only[Act.put]
       go_wp2_with fail;go_ret;exact⟨m1,HB3.out,hmm,hg3,.inr ⟨HG.out,rfl⟩⟩
 ·have HG:Hid (H6 ns c d L m=none):=Abw (by rw[←HNL.out, ←HN.out, ←HQ.out];exact hlen);have hq0:((nl:Int)==(q:Int))=false:=by simp;omega
  have hq1:(nl==q)=false:=by simp;omega
  go_enter Tryz.func81,Tryz.ntmps81;go_wp2_with ((with_reducible refine Aw 140 _ rfl ?_);refine AH I8 rfl _ rfl w.heap.size 0 rfl _ _ _ (Df h g n c d) rfl g00 (Ar _ _) ?_);rw[←hw1];clear hw1 g00;refine(CS.out _).mono ?_;rintro e w2 ⟨rfl,hb2⟩;have HI2:Hid (G3 w2 h g ns m):=HI.out.below hb2;have HB2:Hid (w.grownBy w2 (some g)):=Gs HB.out hb2;clear hb2;go_wp2_with fail;go_ret;exact⟨m,HB2.out,HI2.out.hm,HI2.out.hg,.inr ⟨HG.out,rfl⟩⟩
theorem Qr(k:Int):AQ k=Li k++tlF (K7 k) (NA k):=
 Hi (P:=fun l=>l=l.filter (fun f=>decide (f<13))++tlF (l.contains 13) (l.contains 14)) (by decide) (by decide) (by decide) (by decide) (by decide) (by decide) (by decide) (by decide) k
theorem S5(k:Int):∀j∈Li k,j<13:=fun j hj=>by
 unfold Li at hj
 rw[bS] at hj
 exact of_decide_eq_true hj.2
theorem Ub(k:Int):(Li k).length≤7:=
 Hi (P:=fun l=>(l.filter (fun f=>decide (f<13))).length≤7) (by decide) (by decide) (by decide) (by decide) (by decide) (by decide) (by decide) (by decide) k
theorem Ar9(k:Int):¬(K7 k=true∧NA k=true):=
 Hi (P:=fun l=> ¬(l.contains 13=true∧l.contains 14=true)) (by decide) (by decide) (by decide) (by decide) (by decide) (by decide) (by decide) (by decide) k
theorem SD(k:Int):Hc k=Gv (Li k).length (K7 k) (NA k):=
 Hi (P:=fun l=>(l.map Cm).sum=Gv (l.filter (fun f=>decide (f<13))).length (l.contains 13) (l.contains 14)) (by decide) (by decide) (by decide) (by decide) (by decide) (by decide) (by decide) (by decide) k
theorem Aez(k:Int){j:Nat}(hj:j<13):j∈Li k↔j∈AQ k:=by
 unfold Li;rw[bS];simp[hj]
theorem ZO(k:Int):K7 k=true↔13∈AQ k:=by unfold K7;rw[aW]
theorem ZN(k:Int):NA k=true↔14∈AQ k:=by unfold NA;rw[aW]
theorem Acj(m:An):LY m (Li m.kind) (K7 m.kind) (NA m.kind)=G5 m:=by
 unfold LY G5;rw[Qr m.kind,aZ];congr 1;unfold tlF;rw[aZ]
 cases K7 m.kind <;> cases NA m.kind <;> simp[Bt]
theorem Ahm{m:An}(h:BB m)(j:Nat)(x:Int){i:Nat}(hi:i<13):Ad (AR m j x) i=if i=j then x else Ad m i:=by
 unfold Ad AR;dsimp only;by_cases e:i=j
 ·subst e;rw[if_pos rfl,aJ,List.getElem?_set_self (by rw[h.1];exact hi)];rfl
 ·rw[if_neg e,aJ,List.getElem?_set_ne (fun e'=>e e'.symm), ←aJ]
theorem RY:∀(ns:List Nat) {m:An},BB m→∀i,i<13→Ad (Hx m ns) i=if i∈ns then 0 else Ad m i
 | [],m,_,i,_=>by simp[Hx]
 | j::ns,m,h,i,hi=>by
  rw[Hx,RY ns (EU h j 0) i hi,Ahm h j 0 hi]
  by_cases e1:i∈ns
  ·rw[if_pos e1,if_pos (aX _ e1)]
  ·rw[if_neg e1]
   by_cases e2:i=j
   ·rw[if_pos e2,if_pos (by rw[e2];exact bC)]
   ·rw[if_neg e2,if_neg (by simp[e1,e2])]
theorem VA:∀(ns:List Nat) (m:An),(Hx m ns).kind=m.kind∧(Hx m ns).cube=m.cube∧(Hx m ns).head=m.head
 | [],_=>⟨rfl,rfl,rfl⟩
 | j::ns,m=>VA ns (AR m j 0)
theorem VB(m:An)(ns:List Nat)(c d:Bool):(G7 m ns c d).kind=m.kind∧(G7 m ns c d).num=(Hx m ns).num∧(G7 m ns c d).cube=(if c then (Z,Z) else m.cube)∧(G7 m ns c d).head=(if d then Z else m.head):=by
 have h:=VA ns m;unfold G7
 cases c <;> cases d <;> simp[EG,GA,h]
theorem Uq{m:An}(h:BB m)(ns:List Nat)(c d:Bool):BB (G7 m ns c d):=by
 have h1:=ZW ns h;unfold G7
 cases c <;> cases d
 ·exact h1
 ·exact QH h1 BO
 ·exact LO h1 BO BO
 ·exact QH (LO h1 BO BO) BO
theorem Wf(k:Int)(j:Nat):Ad (Bk k) j=0:=by
 unfold Ad Bk;rw[aJ,List.getElem?_replicate];split <;> rfl
theorem Du(k:Int):BB (Bk k):=(TQ k).1
theorem Akb{m:An}(h:BB m)(ns:List Nat)(c d:Bool):G7 m ns c d=Bk m.kind↔(∀j,j<13→j∉ns→Ad m j=0)∧(c=false→m.cube=(Z,Z))∧(d=false→m.head=Z):=by
 obtain⟨e1,e2,e3,e4⟩:=VB m ns c d;constructor
 ·intro e;refine⟨fun j hj hn=> ?_,fun hc=> ?_,fun hd=> ?_⟩
  ·have h1:Ad (G7 m ns c d) j=0:=by rw[e,Wf]
   have h2:Ad (G7 m ns c d) j=Ad (Hx m ns) j:=by unfold Ad;rw[e2]
   rw[h2,RY ns h j hj,if_neg hn] at h1;exact h1
  ·rw[e,hc] at e3;exact e3.symm
  ·rw[e,hd] at e4;exact e4.symm
 ·rintro⟨h1,h2,h3⟩
  have hn:(G7 m ns c d).num=(Bk m.kind).num:=Zy (Uq h ns c d) (Du _) fun j hj=>by
   rw[Wf];have h4:Ad (G7 m ns c d) j=Ad (Hx m ns) j:=by unfold Ad;rw[e2]
   rw[h4,RY ns h j hj];by_cases e:j∈ns
   ·rw[if_pos e]
   ·rw[if_neg e,h1 j hj e]
  have hc:(G7 m ns c d).cube=(Z,Z):=by
   rw[e3]
   cases c with
   | true=>rfl
   | false=>exact h2 rfl
  have hd:(G7 m ns c d).head=Z:=by
   rw[e4]
   cases d with
   | true=>rfl
   | false=>exact h3 rfl
  cases hx:G7 m ns c d with
  | mk k n cu hd'=>
   rw[hx] at e1 hn hc hd;dsimp only at e1 hn hc hd;rw[e1,hn,hc,hd];rfl
theorem Zr{m:An}(hr:Ca m=true):E9 m (Li m.kind) (K7 m.kind)=true:=by
 obtain⟨_,h2,h3,_,_⟩:=(GI m).1 hr;unfold E9 Ng;rw[Bool.and_eq_true,bO,h3,Bool.or_true];refine⟨fun j hj=> ?_,rfl⟩;have:=h2 j (S5 _ j hj);rw[QW];omega
theorem Aeb{m:An}(h:BB m)(hk:AQ m.kind≠[])(hF:E9 m (Li m.kind) (K7 m.kind)=true):NF (G7 m (Li m.kind) (K7 m.kind) (NA m.kind)) (Bk m.kind)=Ca m:=by
 rw[Bool.eq_iff_iff,Ag7 (Uq h _ _ _) (Du _),Akb h,GI];unfold E9 Ng at hF;rw[Bool.and_eq_true,bO] at hF
 have hne:(AQ m.kind).isEmpty=false:=by
  cases e:AQ m.kind with
  | nil=>exact absurd e hk
  | cons a l=>rfl
 constructor
 ·rintro⟨h1,h2,h3⟩;have hcz:K7 m.kind=false→m.cube.1=Z∧m.cube.2=Z:=fun hc=>by rw[h2 hc];exact⟨rfl,rfl⟩
  refine⟨hne,fun j hj=> ?_,?_,fun hn=> ?_,fun hn=> ?_⟩
  ·by_cases e:j∈Li m.kind
   ·have:=(QW _).1 (hF.1 j e);exact⟨this.1,by omega,fun hn=>absurd ((Aez _ hj).1 e) hn⟩
   ·have:=h1 j hj e;rw[this];exact⟨by omega,by omega,fun _=>rfl⟩
  ·cases hc:K7 m.kind with
   | true=>
    have:=hF.2;rw[hc] at this;simpa using this
   | false=>
    have:=hcz hc;unfold F7;rw[this.1,this.2,show AZ Z Z=Z by kernel_rfl];simp
  ·exact hcz (by cases hc:K7 m.kind with | false=>rfl | true=>exact absurd ((ZO _).1 hc) hn)
  ·exact h3 (by cases hc:NA m.kind with | false=>rfl | true=>exact absurd ((ZN _).1 hc) hn)
 ·rintro⟨_,h2,_,h4,h5⟩;refine⟨fun j hj hn=>(h2 j hj).2.2 (fun e=>hn ((Aez _ hj).2 e)),fun hc=> ?_,fun hc=> ?_⟩
  ·have:=h4 (fun e=>by rw[(ZO _).2 e] at hc;cases hc);exact Prod.ext this.1 this.2
  ·exact h5 (fun e=>by rw[(ZN _).2 e] at hc;cases hc)
theorem OM{m:An}(hk:AQ m.kind=[]):Ca m=false:=by
 cases e:Ca m with
 | false=>rfl
 | true=>
  have:=((GI m).1 e).1;rw[hk] at this
  cases this
theorem Aea{m:An}(hF:E9 m (Li m.kind) (K7 m.kind)=false):Ca m=false:=by
 cases e:Ca m with
 | false=>rfl
 | true=>rw[Zr e] at hF;cases hF
theorem Adv{m:An}(h:BB m)(hr:Ca m=true):Fh m.kind (G5 m)=(Fb m,0):=by
 have hk:=RU ((GI m).1 hr).1;have hbl:(G5 m).length=Hc m.kind:=Pw h _;have hsz:=TY m.kind;unfold Fh;rw[if_pos (by omega),if_pos (by omega)];rfl
theorem XQ{L:List UInt8}{k:Nat}{body:List UInt8}(ho:H5 L=some (k,body))(hk:AQ (k:Int)≠[]):DQ L=H6 (Li (k:Int)) (K7 (k:Int)) (NA (k:Int)) body (Bk (k:Int)):=by
 have hne:(AQ (k:Int)).isEmpty=false:=by
  cases e:AQ (k:Int) with
  | nil=>exact absurd e hk
  | cons a l=>rfl
 unfold DQ H6;rw[ho, ←SD, ←Qr];dsimp only;rw[hne,Bool.false_or];by_cases e:body.length=Hc (k:Int)
 ·rw[if_pos e,if_neg (by simp[e])]
 ·rw[if_neg e,if_pos (by simpa using e)]
theorem XP{L:List UInt8}{k:Nat}{body:List UInt8}(ho:H5 L=some (k,body))(hk:AQ (k:Int)=[]):DQ L=none:=by
 unfold DQ;rw[ho];dsimp only;rw[hk];rfl
abbrev LV:Array Value:=#[.slice none 0 0,.pointer none,.pointer none]
theorem Nn{ops:Array Oper}{rest:List Oper}{o:Oper}{a:Act}{w:World}{Q:Exit→Act→World→Prop}(hgd:o.guard=none)(x:Operand)(ho:o.op=.build 39 #[(0,x)])(k:Int)
  (hx:a.eval x=.int .i64 k) (h:wpList aA ops Q rest (a.put o.dst (.agg (Ae (Bk k)))) w):wpList aA ops Q (o::rest) a w:=by
 refine wpList_plain hgd fun _ hK=> ?_;unfold Oper.wp execOp;simp only[ho,Sem.run_bind,bP,List.map_cons,List.map_nil,hx,Akg k,Result.andThen_ok,Sem.run_pure];exact hK _ _ h
theorem Iw{ops:Array Oper}{rest:List Oper}{o:Oper}{a:Act}{w:World}{Q:Exit→Act→World→Prop}(hgd:o.guard=none)(ho:o.op=.build 39 #[])
  (h:wpList aA ops Q rest (a.put o.dst (.agg (Ae (Bk 0)))) w):wpList aA ops Q (o::rest) a w:=by
 refine wpList_plain hgd fun _ hK=> ?_;unfold Oper.wp execOp;simp only[ho,Sem.run_bind,bP,List.map_nil,Agk,Result.andThen_ok,Sem.run_pure];exact hK _ _ h
theorem egM(op:BinOp)(x y:Operand)(xs ys:Array Value)(w:World):(eqGuard op 39 x y (.agg xs) (.agg ys)).run aA w=.ok () w:=
 run_eqGuard_agg w op 39 x y xs ys (by kernel_rfl)
theorem Ab0(m:An)(hm:BB m)(w:World):Calls aA 171 #[.agg (Ae m)] w fun e w'=>e=.returned (.bool (Ca m))∧Below w.heap.size w w':=by
 obtain⟨w1,hw1⟩:=eX (w.alloc (.cells (Ae m) 39));have g1:w1.heap[w.heap.size]?=some (.cells (Ae m) 39 (0,0)):=by rw[hw1];exact Ab _ _ _ rfl
 have B1:Below w.heap.size w w1:=by rw[hw1];exact(aK _ _).alloc (aD _) _
 have hs1:=(gS g1);by_cases hk:AQ m.kind=[]
 ·have HR:Hid (Ca m=false):=OM hk
  have CF:Hid (∀W,W=w1→Calls aA 80 #[.pointer (some ⟨w.heap.size,0,none⟩)] W fun e w'=>e=.returned (.tuple #[.agg LV,.bool false])∧Below W.heap.size W w'):=fun W hW=>by
   subst hW;exact ZR w.heap.size m hk W g1
  go_enter Tryz.func171,Tryz.ntmps171;go_wp2_with fail;rw[←hw1];clear hw1;refine(CF.out _ rfl).mono ?_;rintro e w2 ⟨rfl,hb2⟩;have HB2:Hid (Below w.heap.size w w2):=B1.trans (hb2.mono B1.size);have hs2:=HB2.out.size;clear hb2;have n0:=Ab w2 (.cells LV 140) _ rfl
  go_wp2_with (first
   | go_skip
   | ((with_reducible refine Bu 140 _ _ rfl ?_);refine BP I8 rfl _ _ rfl w2.heap.size LV ⟨rfl,rfl⟩ rfl rfl _ n0 rfl _ rfl ?_))
  go_ret;rw[HR.out];exact⟨rfl,HB2.out.alloc hs2 _⟩
 ·obtain⟨ns,hns⟩:=eX (Li m.kind);obtain⟨c,hc⟩:=eX (K7 m.kind);obtain⟨d,hd⟩:=eX (NA m.kind);have hlt:∀j∈ns,j<13:=by rw[hns];exact S5 _
  have hl7:ns.length≤7:=by rw[hns];exact Ub _
  have CF:Hid (∀W,W=w1→Calls aA 80 #[.pointer (some ⟨w.heap.size,0,none⟩)] W fun e w'=>Nk w.heap.size ns c d W e w'):=fun W hW=>by
   subst hW;rw[hns,hc,hd];exact Po w.heap.size m hk W g1
  have HNOT:Hid (E9 m ns c=false→Ca m=false):=by rw[hns,hc];exact Aea
  have HCLR:Hid (E9 m ns c=true→NF (G7 m ns c d) (Bk m.kind)=Ca m):=by rw[hns,hc,hd];exact Aeb hm hk
  clear hns hc hd hk;obtain⟨n,hn⟩:=eX ns.length;have HN:Hid _:=hn;clear hn;go_enter Tryz.func171,Tryz.ntmps171;go_wp2_with fail;rw[←hw1];clear hw1;refine(CF.out _ rfl).mono ?_;rintro e w2 ⟨h,rfl,hh1,hh2,hb2⟩;rw[←HN.out];have B2:Below w.heap.size w w2:=B1.trans (hb2.mono B1.size);have HI2:Hid (G3 w2 h w.heap.size ns m):=⟨(hb2.block _ hs1).trans g1,hh2,hm,hlt⟩;have hs2:=B2.size;have n0:=Ab w2 (.cells LV 140) _ rfl;have n1:=setRow_heap _ _ _ (Df h w.heap.size n c d) _ _ n0;have B3:Below w2.heap.size w2 ((w2.alloc (.cells LV 140)).setRow w2.heap.size (Df h w.heap.size n c d)):=Aj ((aK _ _).alloc (aD _) _) (aD _) _;have HI3:Hid _:=HI2.out.below B3;have HB3:Hid (Below w.heap.size w ((w2.alloc (.cells LV 140)).setRow w2.heap.size (Df h w.heap.size n c d))):=B2.trans (B3.mono hs2);have hne:h≠w.heap.size:=by omega
  clear hb2 hh2
  go_wp2_with (first
   | go_skip
   | ((with_reducible refine Bu 140 _ _ rfl ?_);refine BP I8 rfl _ _ rfl w2.heap.size (Df h w.heap.size n c d) (RT _ _ _ _ _) rfl rfl _ n0 rfl _ rfl ?_)
   | ((with_reducible refine Aw 140 _ rfl ?_);refine AH I8 rfl _ rfl w2.heap.size 0 rfl _ _ _ (Df h w.heap.size n c d) rfl n1 (Ar _ _) ?_))
  obtain⟨w3,hw3⟩:=eX ((w2.alloc (.cells LV 140)).setRow w2.heap.size (Df h w.heap.size n c d));rw[←hw3] at HI3 HB3 n1 ⊢;clear hw3 n0 B3;have CR:=Abo h w.heap.size ns c d m w3 HI3.out hl7;rw[←HN.out] at CR;refine CR.mono ?_;rintro e w4 ⟨rfl,hb4⟩;have hs3:=(gS n1);have n4:w4.heap[w2.heap.size]?=some (.cells (Df h w.heap.size n c d) 140 (0,0)):=(hb4.block _ hs3).trans n1;have HI4:Hid _:=HI3.out.below hb4;have HB4:Hid _:=HB3.out.trans (hb4.mono HB3.out.size);clear CR hb4 n1 HI3 HB3;by_cases hF:E9 m ns c=true
  ·rw[hF];have HE:Hid (NF (G7 m ns c d) (Bk m.kind)=Ca m):=HCLR.out hF;have CC:=Aby h w.heap.size ns c d m w4 HI4.out hl7 hne;rw[←HN.out] at CC;have HCC:Hid (∀W,W=w4→Calls aA 193 #[.agg (Df h w.heap.size n c d)] W fun e w'=>e=.returned (.tuple #[])∧w'.heap[w.heap.size]?=some (.cells (Ae (G7 m ns c d)) 39 (0,0))∧W.grownBy w' (some w.heap.size)):=fun W hW=>by rw[hW];exact CC
   clear CC hF
   go_wp2_with (first
    | go_skip
    | ((with_reducible refine Aw 140 _ rfl ?_);refine AH I8 rfl _ rfl w2.heap.size 0 rfl _ _ _ (Df h w.heap.size n c d) rfl n4 (Ar _ _) ?_))
   refine(HCC.out _ rfl).mono ?_;rintro e w5 ⟨rfl,g5,hgr5⟩;have HB5:Hid (Below w.heap.size w w5):=Ma HB4.out hgr5 (aD _) HB4.out.size;clear hgr5;obtain⟨m5,hm5⟩:=eX (G7 m ns c d);have ok5:BB m5:=by rw[hm5];exact Uq hm _ _ _
   have k5:m5.kind=m.kind:=by rw[hm5];exact(VB m ns c d).1
   rw[←hm5] at HE g5;clear hm5;have c5:w5.cell? ⟨w.heap.size,0,none⟩=some (.int .i64 m.kind):=by rw[cell_of_row _ _ _ _ _ _ g5,DB,k5]
   have eM:∀W,(Op.equalIn 10000 39 (.agg (Ae m5)) (.agg (Ae (Bk m.kind)))).run aA W=.ok (NF m5 (Bk m.kind)) W:=fun W=>Aqw ok5 (Du _) W;have eg:∀op x y (xs ys:Array Value) w,(eqGuard op 39 x y (.agg xs) (.agg ys)).run aA w=.ok () w:=egM
   go_wp2_with (first
    | ((with_reducible refine Aw 39 _ rfl ?_);refine AH BD rfl _ rfl w.heap.size 0 rfl _ _ _ (Ae m5) (BG ok5) g5 (Ar _ _) ?_)
    | ((with_reducible refine Cy 39 _ rfl ?_);refine Nn rfl _ rfl m.kind rfl ?_))
   go_ret;rw[HE.out];exact⟨rfl,HB5.out⟩
  ·have hF':E9 m ns c=false:=by simpa using hF
   rw[hF'];have HR:Hid (Ca m=false):=HNOT.out hF';go_wp2_with fail;go_ret;rw[HR.out];exact⟨rfl,HB4.out⟩
theorem Ain(m:An)(hm:BB m)(w:World):Calls aA 145 #[.agg (Ae m)] w fun e w'=> ∃u,e=.returned (.tuple #[u,.int .i64 (FM m).2])∧AB w.heap.size w' u (FM m).1∧Below w.heap.size w w':=by
 obtain⟨w1,hw1⟩:=eX (w.alloc (.cells (Ae m) 39));have g1:w1.heap[w.heap.size]?=some (.cells (Ae m) 39 (0,0)):=by rw[hw1];exact Ab _ _ _ rfl
 have B1:Below w.heap.size w w1:=by rw[hw1];exact(aK _ _).alloc (aD _) _
 have hs1:=(gS g1);have g10:(w.alloc (.cells (Ae m) 39)).heap[w.heap.size]?=some (.cells (Ae m) 39 (0,0)):=Ab _ _ _ rfl;have hms:=BG hm;have CR:Hid (∀W,Calls aA 171 #[.agg (Ae m)] W fun e w'=>e=.returned (.bool (Ca m))∧Below W.heap.size W w'):=Ab0 m hm;by_cases hr:Ca m=true
 ·have HE:Hid (FM m=(Fb m,0)):=by show _=_;unfold FM;rw[if_pos hr]
  have HS:Hid (Fh m.kind (G5 m)=(Fb m,0)):=Adv hm hr;have hk:AQ m.kind≠[]:=fun e=>by rw[OM e] at hr;cases hr
  rw[hr] at CR;obtain⟨ns,hns⟩:=eX (Li m.kind);obtain⟨c,hc⟩:=eX (K7 m.kind);obtain⟨d,hd⟩:=eX (NA m.kind);have hlt:∀j∈ns,j<13:=by rw[hns];exact S5 _
  have hl7:ns.length≤7:=by rw[hns];exact Ub _
  have CF:Hid (∀W,W.heap[w.heap.size]?=some (.cells (Ae m) 39 (0,0))→Calls aA 80 #[.pointer (some ⟨w.heap.size,0,none⟩)] W fun e w'=>Nk w.heap.size ns c d W e w'):=fun W hW=>by
   rw[hns,hc,hd];exact Po w.heap.size m hk W hW
  have HRF:Hid (E9 m ns c=true):=by rw[hns,hc];exact Zr hr
  have HBY:Hid (LY m ns c d=G5 m):=by rw[hns,hc,hd];exact Acj m
  clear hns hc hd hk hr;obtain⟨n,hn⟩:=eX ns.length;have HN:Hid _:=hn;clear hn;go_enter Tryz.func145,Tryz.ntmps145;go_wp2_with ((with_reducible refine Aw 39 _ rfl ?_);refine AH BD rfl _ rfl w.heap.size 0 rfl _ _ _ (Ae m) hms g10 (Ar _ _) ?_);rw[←hw1];clear hw1 g10;refine(CR.out _).mono ?_;rintro e w2 ⟨rfl,hb2⟩;have g2:w2.heap[w.heap.size]?=some (.cells (Ae m) 39 (0,0)):=(hb2.block _ hs1).trans g1;have B2:Below w.heap.size w w2:=B1.trans (hb2.mono B1.size);have hs2:=(gS g2);clear hb2 g1 B1 hs1;go_wp2_with fail;refine(CF.out _ g2).mono ?_;rintro e w3 ⟨h,rfl,hh1,hh2,hb3⟩;rw[←HN.out];have B3:Below w.heap.size w w3:=B2.trans (hb3.mono B2.size);have hI3:G3 w3 h w.heap.size ns m:=⟨(hb3.block _ hs2).trans g2,hh2,hm,hlt⟩;have n0:=Ab w3 (.cells LV 140) _ rfl;have n1:=setRow_heap _ _ _ (Df h w.heap.size n c d) _ _ n0;have Bx:Below w3.heap.size w3 ((w3.alloc (.cells LV 140)).setRow w3.heap.size (Df h w.heap.size n c d)):=Aj ((aK _ _).alloc (aD _) _) (aD _) _;have HI4:Hid (G3 ((w3.alloc (.cells LV 140)).setRow w3.heap.size (Df h w.heap.size n c d)) h w.heap.size ns m):=hI3.below Bx;have HB4:Hid (Below w.heap.size w ((w3.alloc (.cells LV 140)).setRow w3.heap.size (Df h w.heap.size n c d))):=B3.trans (Bx.mono B3.size);clear hb3 hh2 g2 hI3
  go_wp2_with ((with_reducible refine Bu 140 _ _ rfl ?_);refine BP I8 rfl _ _ rfl w3.heap.size (Df h w.heap.size n c d) (RT _ _ _ _ _) rfl rfl _ n0 rfl _ rfl ?_);obtain⟨W,hW⟩:=eX ((w3.alloc (.cells LV 140)).setRow w3.heap.size (Df h w.heap.size n c d));rw[←hW] at HI4 HB4 n1 ⊢;clear hW n0 Bx;have hgs:=(gS n1);have hgm:=(gS HI4.out.hg);have ne1:=Am.ne W
  have c0:∀u:Am W,u.world.cell? ⟨w.heap.size,0,none⟩=some (.int .i64 m.kind):=fun u=>by
   rw[cell_of_row _ _ _ _ _ _ ((u.below.block _ hgm).trans HI4.out.hg),DB]
  have HBB:Hid (∀u:Am W,Calls aA 173 #[.agg (Df h w.heap.size n c d)] u.world fun e w'=> ∃x,e=.returned x∧AB u.world.heap.size w' x (G5 m)∧Below u.world.heap.size u.world w'):=fun u=>by
   have:=Abz h w.heap.size ns c d m u.world (HI4.out.below u.below) hl7 HRF.out;rw[←HN.out,HBY.out] at this;exact this
  have HSE:Hid (∀(v:Value) (W':World),Br W' v (G5 m)→Calls aA 172 #[.int .i64 m.kind,v] W' fun e w'=> ∃u,e=.returned (.tuple #[u,.int .i64 0])∧AB W'.heap.size w' u (Fb m)∧Below W'.heap.size W' w'):=fun v W' hv=>by
   have:=Ahp m.kind v (G5 m) W' hv;rw[HS.out] at this;exact this
  try simp only[Act.put]
  refine EZ (fun a a' w'=> ∃u y13 y14 y15 y16 y17 y18 y19,a'=(((((((((a.put (some 13) y13).put (some 14) y14).put (some 15) y15).put (some 16) y16).put (some 17) y17).put (some 18) y18).put (some 19) y19).put (some 2) u).put (some 3) (.int .i64 0))∧AB w.heap.size w' u (Fb m)∧Below W.heap.size W w') ?_ ?_
  ·refine Jj 9 rfl (by kernel_rfl) ?_;refine rE 0 3 6 ⟨⟨W.drew,(aK _ _).drew⟩,rfl⟩ ?_;simp only[aN,aL,aM];go_big_quiet_step (fail);go_big_quiet_step (fail);refine JJ I8 rfl _ rfl w3.heap.size 0 rfl _ _ _ (Df h w.heap.size n c d) rfl (fun w' hw'=>by obtain⟨u,rfl⟩:=hw';exact(u.below.block _ hgs).trans n1) (Ar _ _) ?_;simp only[pU];refine wpQuiet_nil ?_;refine rO 3 ?_;refine Bm rfl rfl 173 #[.tmp 15] (by intro b w;have hf:=Tryz.func173;simp[go_sem]) #[.agg (Df h w.heap.size n c d)] rfl (fun v w'=>AB W.heap.size w' v (G5 m)∧Below W.heap.size W w') ((HBB.out ⟨W.drew,(aK _ _).drew⟩).mono fun e w' ⟨v,h1,h2,h3⟩=>⟨v,h1,h2,((aK _ _).drew).trans h3⟩) (some 16) rfl ?_;rintro z w4 ⟨ho4,hb4⟩;refine⟨⟨⟨w4,hb4⟩,rfl⟩,?_⟩;simp only[pU];refine rO 4 ?_
   refine Bm rfl rfl 172 #[.tmp 14,.tmp 16] (by intro b w;have hf:=Tryz.func172;simp[go_sem]) #[.int .i64 m.kind,z] rfl (fun v w'=> ∃u,v=.tuple #[u,.int .i64 0]∧AB w.heap.size w' u (Fb m)∧Below W.heap.size W w') ((HSE.out z w4 ho4.sl).mono fun e w' ⟨v,h1,h2,h3⟩=>⟨_,h1,v,rfl,h2.base (Nat.le_trans HB4.out.size hb4.size),hb4.trans (h3.mono hb4.size)⟩) (some 17) rfl ?_;rintro z5 w5 ⟨u5,rfl,ho5,hb5⟩;refine⟨⟨⟨w5,hb5⟩,rfl⟩,?_⟩;simp only[pU];refine rE 5 4 0 ⟨⟨w5,hb5⟩,rfl⟩ ?_;simp only[List.drop_succ_cons,aN,aL,aM]
   iterate 4 (go_big_quiet_step (fail))
   refine wpQuiet_nil ?_;refine rD ?_;exact⟨rfl,_,_,_,_,_,_,_,_,rfl,ho5,hb5⟩
  rintro a' w5 ⟨u5,y13,y14,y15,y16,y17,y18,y19,rfl,ho5,hb5⟩;have HO5:Hid _:=ho5;have HB5:Hid _:=HB4.out.trans (hb5.mono HB4.out.size);clear ho5 hb5;simp only[pU];go_wp2_with fail;go_ret2;rw[HE.out];exact⟨_,rfl,HO5.out,HB5.out⟩
 ·have hr':Ca m=false:=by simpa using hr
  have HE:Hid (FM m=([],12)):=by show _=_;unfold FM;rw[if_neg hr]
  rw[hr'] at CR;go_enter Tryz.func145,Tryz.ntmps145;go_wp2_with ((with_reducible refine Aw 39 _ rfl ?_);refine AH BD rfl _ rfl w.heap.size 0 rfl _ _ _ (Ae m) hms g10 (Ar _ _) ?_);rw[←hw1];clear hw1 g10;refine(CR.out _).mono ?_;rintro e w2 ⟨rfl,hb2⟩;have HB2:Hid (Below w.heap.size w w2):=B1.trans (hb2.mono B1.size);clear hb2;go_wp2_with fail;go_ret2;rw[HE.out];exact⟨_,rfl,AB.nil _ _,HB2.out⟩
end
end Go.Proofs.YtbhkoipcpcoooaaGreat
