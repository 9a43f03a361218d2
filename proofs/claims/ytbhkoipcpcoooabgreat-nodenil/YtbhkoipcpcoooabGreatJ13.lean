import Derived.Test.YtbhkoipcpcoooabGreatJ12
import Derived.Test.YtbhkoipcpcoooabGreatJ4
import Derived.Test.YtbhkoipcpcoooabGreatJ2
import Derived.Test.YtbhkoipcpcoooabGreatJ3
import Derived.Laws.CopyOwn
import Derived.Test.YtbhkoipcpcoooabGreatJ9
import Derived.BigRegion
import Derived.Lib.Hide
namespace Go.Proofs.YtbhkoipcpcoooabGreat
set_option maxRecDepth 20000
set_option maxHeartbeats 64000000
open Go
open Go.Proofs.Tryz renaming prog → aA, underlying3 → aG, ntmps55 → aM, func55 → aN, underlying27 → aX, ntmps78 → bB, ntmps99 → bC, func78 → bE, func99 → bF, underlying23 → bO
open _root_.Nat renaming le_refl → aB, le_succ → aQ, add_sub_cancel_left → bD
open Go.Value renaming int → aC, oneCell' → bU
open _root_.List renaming length_map → aD, getElem?_eq_getElem → aH, length_append → aJ, getD_eq_getElem?_getD → aK, getElem?_toArray → aL, setIfInBounds_toArray → aO, getElem?_append_right → aP, take_succ_cons → aR, getElem?_cons_succ → aV, set_cons_succ → aW, getElem?_append_left → bA, getElem?_eq_none → bG, mem_of_getElem? → bH, drop_succ_cons → bI, set_cons_zero → bK, getElem?_map → bN, append_assoc → bP, take_left' → bR, take_zero → bS, drop_zero → bT
open Go.RowKit.Below renaming refl → aI
open Go.Sem renaming run_bind → aT
open Go.Result renaming andThen_ok → aY
open Go.Op renaming equalIn → aZ
section
open Go.RowKit
theorem Yn(v:Value)(L:List UInt8)(p s:Int)(w:World)(hL:Be w v L)(hp:p≤9223372036854775807):
  Calls aA 78 #[v,.int .i64 p,.int .i64 s] w fun e w'=>e=.returned (.tuple #[.int .u64 ((G9 L p s).1:Int),.int .i64 (G9 L p s).2])∧w'=w:=by
 have C1:Hid (∀W,Calls aA 101 #[.int .i64 s] W fun e w'=>e=.returned (.bool (Gp s))∧w'=W):=QX s;have HL:Hid (Be w v L):=hL;obtain⟨ov,cv,hv,hc1,hc2⟩:=hL.slice;subst hv;clear hL;obtain⟨n,hn⟩:=eX L.length;have HN:Hid (n=L.length):=hn;rw[←hn] at HL hc1 ⊢;clear hn;by_cases hc:Gp s=true
 ·rw[hc] at C1;have hs:=(LA s).1 hc;obtain⟨m,rfl⟩:∃m:Nat,s=m:=⟨s.toNat,by omega⟩;have hs1:1≤(m:Int):=hs.1;have hs2:(m:Int)≤8:=hs.2;by_cases h0:0≤p
  ·obtain⟨k,rfl⟩:∃k:Nat,p=k:=⟨p.toNat,by omega⟩;have CR:Hid (∀W,Calls aA 102 #[.slice ov n cv,.int .i64 (k:Int),.int .i64 (m:Int)] W fun e w'=>e=.returned (.bool (decide ((m:Int)≤(n:Int)-k)))∧w'=W):=M8 ov n cv (by omega) k m h0 hp;have hcm:=hc2;unfold maxLen at hc2;by_cases hr:k+m≤n
   ·have HP:Hid (G9 L k m=(CY ((L.drop k).take m),0)):=by
     show _=_;unfold G9;rw[if_pos ⟨hc,h0⟩,if_pos (by rw[←HN.out];omega)];simp
    have hd:decide ((m:Int)≤(n:Int)-k)=true:=by simp;omega
    rw[hd] at CR;obtain⟨g,off,c,rfl,_,_⟩:=HL.out.at k (by omega)
    have CN:Hid (∀W,W=w→Calls aA 75 #[.slice (some ⟨g,off+k,none⟩) m (cv-k)] W fun e w'=>e=.returned (.int .u64 (CY ((L.drop k).take m):Int))∧w'=W):=fun W hW=>by
     subst hW;exact Lg _ _ W (HL.out.part g off k m (cv-k) rfl hr (by omega) (by omega)) (by simp;omega)
    clear hc hs hd hcm;go_enter bE,bB
    go_wp2_with (first
     | (go_at_call 101;refine(C1.out _).mono ?_;rintro e w1 ⟨rfl,rfl⟩)
     | (go_at_call 102;refine(CR.out _).mono ?_;rintro e w2 ⟨rfl,rfl⟩))
    refine(CN.out _ rfl).mono ?_;rintro e w3 ⟨rfl,rfl⟩;go_wp2_with fail;go_ret2;rw[HP.out];exact⟨rfl,rfl⟩
   ·have HP:Hid (G9 L k m=(0,12)):=by
     show _=_;unfold G9;rw[if_pos ⟨hc,h0⟩,if_neg (by rw[←HN.out];omega)]
    have hd:decide ((m:Int)≤(n:Int)-k)=false:=by simp;omega
    rw[hd] at CR;clear hc hs hd hcm;go_enter bE,bB
    go_wp2_with (first
     | (go_at_call 101;refine(C1.out _).mono ?_;rintro e w1 ⟨rfl,rfl⟩)
     | (go_at_call 102;refine(CR.out _).mono ?_;rintro e w2 ⟨rfl,rfl⟩))
    go_ret2;rw[HP.out];exact⟨rfl,rfl⟩
  ·have HP:Hid (G9 L p m=(0,1)):=by
    show _=_;unfold G9;rw[if_neg (fun h=>h0 h.2)]
   clear hc hs;have h0':p<0:=by omega
   go_enter bE,bB
   go_wp2_with (first
    | (go_at_call 101;refine(C1.out _).mono ?_;rintro e w1 ⟨rfl,rfl⟩))
   go_ret2;rw[HP.out];exact⟨rfl,rfl⟩
 ·have HP:Hid (G9 L p s=(0,1)):=by
   show _=_;unfold G9;rw[if_neg (fun h=>hc h.1)]
  have hc':Gp s=false:=by simpa using hc
  rw[hc'] at C1;clear hc hc';go_enter bE,bB
  go_wp2_with (first
   | (go_at_call 101;refine(C1.out _).mono ?_;rintro e w1 ⟨rfl,rfl⟩))
  go_ret2;rw[HP.out];exact⟨rfl,rfl⟩
theorem TB(k:Nat)(h:k<256):BY 1 k=[UInt8.ofNat k]:=by
 simp[BY,Nat.mod_eq_of_lt h]
theorem Wx(k:Nat)(h:k<256)(L:List UInt8):[BY 2 L.length,BY 1 k,L].flatten=FA k L:=by
 rw[TB k h];simp[FA]
def DX(k:Int)(L:List UInt8):List UInt8×Int:=if 0≤k∧k≤255 then if L.length≤65535 then (FA k.toNat L,0) else ([],5) else ([],1)
theorem Yw(k:Int)(v:Value)(L:List UInt8)(w:World)(hL:Be w v L):
  Calls aA 99 #[.int .i64 k,v] w fun e w'=> ∃u,e=.returned (.tuple #[u,.int .i64 (DX k L).2])∧Au w.heap.size w' u (DX k L).1∧Below w.heap.size w w':=by
 have HL:Hid (Be w v L):=hL;obtain⟨ov,cv,hv,hc1,hc2⟩:=hL.slice;subst hv;clear hL;obtain⟨n,hn⟩:=eX L.length;have HN:Hid (n=L.length):=hn;rw[←hn] at HL hc1 ⊢;clear hn;unfold maxLen at hc2;by_cases h0:0≤k
 ·by_cases h1:k≤255
  ·obtain⟨q,rfl⟩:∃q:Nat,k=q:=⟨k.toNat,by omega⟩;by_cases h2:n≤65535
   ·have HP:Hid (DX q L=(FA q L,0)):=by show _=_;unfold DX;rw[if_pos ⟨h0,h1⟩,if_pos (by rw[←HN.out];exact h2)];simp
    have CD:Hid (∀W,Calls aA 125 #[.int .u64 (n:Int),.int .i64 2] W fun e w'=> ∃v,e=.returned v∧Au W.heap.size w' v (BY 2 n)∧Below W.heap.size W w'):=Lz n 2 (by decide);have CE:Hid (∀W,Calls aA 125 #[.int .u64 (q:Int),.int .i64 1] W fun e w'=> ∃v,e=.returned v∧Au W.heap.size w' v (BY 1 q)∧Below W.heap.size W w'):=Lz q 1 (by decide)
    have HJ:Hid (∀(g:Nat) (u x:Value) (W:World),W.heap[g]?=some (.cells #[u,x,.slice ov n cv] 85 (0,0))→Be W u (BY 2 n)→Be W x (BY 1 q)→Be W (.slice ov n cv) L→Calls aA 76 #[.slice (some ⟨g,0,none⟩) 3 3] W fun e w'=> ∃v,e=.returned v∧Au W.heap.size w' v (FA q L)∧Below W.heap.size W w'):=fun g u x W g1 g2 g3 g4=>by
     refine(JN g [u,x,.slice ov n cv] [BY 2 n,BY 1 q,L] W g1 (by simp) ⟨g2,g3,g4,trivial⟩ ?_).mono ?_
     ·simp[E9];rw[←HN.out];omega
     ·rintro e w' ⟨u,rfl,h4,h5⟩;rw[HN.out,Wx q (by omega)] at h4;exact⟨u,rfl,h4,h5⟩
    have hn:¬(65535:Int)<(n:Int):=by omega
    go_enter bF,bC;go_wp2_with fail;refine(CD.out _).mono ?_;rintro e w1 ⟨u,rfl,ho1,hb1⟩;have HU:Hid (Be w1 u (BY 2 n)):=ho1.sl;obtain⟨ou,nu,cu,rfl⟩:∃o n c,u=.slice o n c:=by obtain⟨o,c,h,_⟩:=ho1.sl.slice;exact⟨o,_,c,h⟩
    have HB1:Hid (Below w.heap.size w w1):=hb1;clear ho1 hb1;go_wp2_with fail;refine(CE.out _).mono ?_;rintro e w2 ⟨x,rfl,ho2,hb2⟩;have HX:Hid (Be w2 x (BY 1 q)):=ho2.sl;obtain⟨ox,nx,cx,rfl⟩:∃o n c,x=.slice o n c:=by obtain⟨o,c,h,_⟩:=ho2.sl.slice;exact⟨o,_,c,h⟩
    have HU2:Hid (Be w2 (.slice ou nu cu) (BY 2 n)):=HU.out.below hb2;have HB2:Hid (Below w.heap.size w w2):=HB1.out.trans (hb2.mono HB1.out.size);have HL2:Hid (Be w2 (.slice ov n cv) L):=HL.out.below HB2.out;have hsz:=HB2.out.size;clear ho2 hb2;go_wp2_with (refine JB rfl 3 _ rfl #[.slice ou nu cu,.slice ox nx cx,.slice ov n cv] (by decide) (by decide) rfl ?_);refine(HJ.out w2.heap.size _ _ _ (Ac _ _ _ rfl) (HU2.out.alloc _) (HX.out.alloc _) (HL2.out.alloc _)).mono ?_;rintro e w3 ⟨y,rfl,ho,hb⟩;have HO:Hid (Au w.heap.size w3 y (FA q L)):=ho.base (by simp;omega);have HB3:Hid (Below w.heap.size w w3):=(HB2.out.alloc hsz _).trans (hb.mono (by simp;omega));clear ho hb;go_wp2_with fail;go_ret2;rw[HP.out];exact⟨y,rfl,HO.out,HB3.out⟩
   ·have HP:Hid (DX q L=([],5)):=by show _=_;unfold DX;rw[if_pos ⟨h0,h1⟩,if_neg (by rw[←HN.out];exact h2)]
    have hn:(65535:Int)<(n:Int):=by omega
    go_enter bF,bC;go_wp2_with fail;go_ret2;rw[HP.out];exact⟨_,rfl,Au.nil _ _,aI _ _⟩
  ·have HP:Hid (DX k L=([],1)):=by show _=_;unfold DX;rw[if_neg (fun h=>h1 h.2)]
   have hn:(255:Int)<k:=by omega
   go_enter bF,bC;go_wp2_with fail;go_ret2;rw[HP.out];exact⟨_,rfl,Au.nil _ _,aI _ _⟩
 ·have HP:Hid (DX k L=([],1)):=by show _=_;unfold DX;rw[if_neg (fun h=>h0 h.1)]
  have hn:k<0:=by omega
  go_enter bF,bC;go_wp2_with fail;go_ret2;rw[HP.out];exact⟨_,rfl,Au.nil _ _,aI _ _⟩
def DZ(L:List UInt8):Int×List UInt8×Int:=match Gu L with
 | some (k,body)=>((k:Int),body,0)
 | none=>(0,[],12)
theorem UX(L:List UInt8)(h:3≤L.length):Gu L=if CY (L.take 2)=L.length-3 then some (CY ((L.drop 2).take 1),L.drop 3) else none:=by
 match L,h with
 | a::b::c::body,_=>
  show(if a.toNat*256+b.toNat=body.length then some (c.toNat,body) else none)=_;have e1:CY ((a::b::c::body).take 2)=a.toNat*256+b.toNat:=by simp[CY]
  have e2:CY (((a::b::c::body).drop 2).take 1)=c.toNat:=by simp[CY]
  have e3:(a::b::c::body).length-3=body.length:=by simp
  rw[e1,e2,e3];rfl
theorem Tl(L:List UInt8)(h:¬3≤L.length):Gu L=none:=by
 match L,h with
 | [],_=>rfl
 | [_],_=>rfl
 | [_,_],_=>rfl
 | a::b::c::body,h=>exact absurd (by simp) h
theorem NW(V M:List Int)(hV:Ax V)(hM:Ax M)(w:World):
  Calls aA 103 #[.agg (cv V M)] w fun e w'=>e=.returned (.bool (V==AH V M))∧Below w.heap.size w w':=by
 have hVl:=hV.1;have hMl:=hM.1;have hCl:=(Dj V M).1;have C1:Hid (∀W,Calls aA 112 #[.agg (cv V M)] W fun e w'=>e=.returned (.agg (cv (AH V M) M))∧Below W.heap.size W w'):=FP V M hV hM;have eC:∀w,(aZ 10000 25 (.agg (cv V M)) (.agg (cv (AH V M) M))).run aA w=.ok (V==AH V M) w:=fun w=>by rw[eqC V M (AH V M) M hVl hMl hCl hMl];simp
 have eg:∀op x y (xs ys:Array Value) w,(eqGuard op 25 x y (.agg xs) (.agg ys)).run aA w=.ok () w:=egC;clear hV hM;go_enter Tryz.func103,Tryz.ntmps103;go_wp2_with fail;have g0:=Ac w (.cells (cv V M) 25) _ rfl;have hb:=(aI w.heap.size w).alloc (aB _) (.cells (cv V M) 25);obtain⟨W,hW⟩:=eX (w.alloc (.cells (cv V M) 25));rw[←hW] at g0 hb ⊢;clear hW;have ne1:=Al.ne W;refine rL ?_;refine RT rfl _ rfl w.heap.size rfl V M g0 hVl hMl ?_;simp only[pU];refine RT rfl _ rfl w.heap.size rfl V M g0 hVl hMl ?_;simp only[pU];go_big_quiet_want;go_big_quiet_op;refine⟨_,fun u=>Calls.later_of (C1.out u.world),?_⟩;go_big_quiet_on
 repeat go_big_quiet_step (fail)
 refine wpQuiet_nil ?_;rintro w' ⟨u,rfl⟩;go_wp2;go_ret;exact⟨rfl,hb.trans (u.below.mono hb.size)⟩
theorem Hj{ops:Array Oper}{rest:List Oper}{o:Oper}{a:Act}{w:World}{Q:Exit→Act→World→Prop}(hg:o.guard=none)(ho:o.op=.build 25 #[])
  (h:wpList aA ops Q rest (a.put o.dst (.agg (cv Z Z))) w):wpList aA ops Q (o::rest) a w:=
 wpList_plain hg fun _ hK=>by
  unfold Oper.wp execOp
  have e:((#[]:Array (Nat×Operand)).map (fun(i,x)=>(i,a.eval x)))=#[]:=by simp
  have hb:(Instr.build 25 #[]).run aA w=.ok (.agg (cv Z Z)) w:=by
   rw[←Hh];kernel_rfl
  simp only[ho,aT];rw[e,hb];exact hK _ _ h
theorem Oq(V M:List Int)(hV:Ax V)(hM:Ax M)(w:World):
  Calls aA 92 #[.agg (cv V M)] w fun e w'=>e=.returned (.agg (cv (AH V M) M))∧Below w.heap.size w w':=by
 have hVl:=hV.1;have hMl:=hM.1;have hzl:=AX.1;obtain⟨fV,hfV⟩:∃f:Nat→Bool,f=fun i=>bt V i&&bt M i:=⟨_,rfl⟩;obtain⟨fM,hfM⟩:∃f:Nat→Bool,f=bt M:=⟨_,rfl⟩;have CA:Hid (∀k:Nat,k<104→∀W,Calls aA 121 #[.agg (cv V M),.int .i64 (k:Int)] W fun e w'=>e=.returned (.int .i64 (Mu V M k))∧Below W.heap.size W w'):=fun k hk=>Af8 V M hV hM k hk
 have CS:Hid (∀k:Nat,k<104→∀W,Calls aA 120 #[.agg (cv (EQ k fV) (EQ k fM)),.int .i64 (k:Int),.int .i64 (Mu V M k)] W fun e w'=>e=.returned (.agg (cv (EQ (k+1) fV) (EQ (k+1) fM)))∧Below W.heap.size W w'):=fun k hk=>by
  have:=Yz _ _ (KZ k fV) (KZ k fM) k hk (Mu V M k);rwa [Af6,Af7,show(bt V k&&bt M k)=fV k by rw[hfV],show bt M k=fM k by rw[hfM],Qb,Qb] at this
 have HE:Hid (EQ 104 fV=AH V M∧EQ 104 fM=M):=by
  show _∧_;rw[Ry,Ry,hfV,hfM];exact⟨rfl,Ag0 M hM⟩
 clear hV hM hfV hfM;have lV:∀k,(EQ k fV).length=13:=fun k=>(KZ k fV).1;have lM:∀k,(EQ k fM).length=13:=fun k=>(KZ k fM).1;go_enter Tryz.func92,Tryz.ntmps92
 go_wp2_with (first
  | (refine Hj rfl rfl ?_)
  | (refine Bq rfl _ _ rfl (w.heap.size+2) Z Z rfl rfl _ (Ac _ _ _ (by simp)) rfl hzl hzl _ (BD _ _ _ _ _ (by simp)) ?_))
 go_loopw [4] (fun i wr=> ∃k:Nat,k≤104∧i=.int .i64 k∧wr.heap[w.heap.size]?=some (.cells (cv V M) 25 (0,0))∧wr.heap[w.heap.size+1]?=some (.cells Az 25 (0,0))∧wr.heap[w.heap.size+2]?=some (.cells (cv (EQ k fV) (EQ k fM)) 25 (0,0))∧Below w.heap.size w wr) (fun i _=>104-(intOf i).toNat)
 case atStart=>exact⟨0,Nat.zero_le _,rfl,Af _ _ _ _ (Af _ _ _ _ (Ac _ _ _ rfl)),Af _ _ _ _ (Ac _ _ _ (by simp)),by rw[Qa,Qa];exact Ac _ _ _ (by simp),(((aI _ _).alloc (aB _) _).alloc (by simp) _).alloc (by simp;omega) _⟩
 case round=>
  obtain⟨k,hk,rfl,g0,g1,g2,hb⟩:=hrel;have l1:=lV k;have l2:=lM k;have l3:=lV (k+1);have l4:=lM (k+1);by_cases hlt:k<104
  ·have C1:Hid (∀W,Calls aA 121 #[.agg (cv V M),.int .i64 (k:Int)] W fun e w'=>e=.returned (.int .i64 (Mu V M k))∧Below W.heap.size W w'):=CA.out k hlt;have C2:Hid (∀W,Calls aA 120 #[.agg (cv (EQ k fV) (EQ k fM)),.int .i64 (k:Int),.int .i64 (Mu V M k)] W fun e w'=>e=.returned (.agg (cv (EQ (k+1) fV) (EQ (k+1) fM)))∧Below W.heap.size W w'):=CS.out k hlt;go_wp2_with fail;have ne1:=Al.ne wr;refine Ca 6 (by kernel_rfl) (by kernel_rfl) ?_;simp only[aR,bS,bI,bT];refine RT rfl _ rfl (w.heap.size+2) rfl (EQ k fV) (EQ k fM) g2 l1 l2 ?_;simp only[pU];go_big_quiet_step (fail);refine RT rfl _ rfl w.heap.size rfl V M g0 hVl hMl ?_;simp only[pU];go_big_quiet_step (fail);go_big_quiet_want;go_big_quiet_op;refine⟨_,fun u=>Calls.later_of (C1.out u.world),?_⟩;go_big_quiet_on;go_big_quiet_want;go_big_quiet_op;refine⟨_,fun u=>Calls.later_of (C2.out u.world),?_⟩;go_big_quiet_on;refine wpQuiet_nil ?_;rintro w' ⟨u,rfl⟩;have k0:=Ai g0 _ ⟨u,rfl⟩;have k1:=Ai g1 _ ⟨u,rfl⟩;have k2:=Ai g2 _ ⟨u,rfl⟩;have hb2:=hb.trans (u.below.mono hb.size);clear g0 g1 g2 hb ne1 C1 C2
   go_wp2_with (first
    | (refine Bq rfl _ _ rfl (w.heap.size+2) (EQ (k+1) fV) (EQ (k+1) fM) rfl rfl _ k2 (AO _ _ l1 l2) l3 l4 _ rfl ?_))
   go_roundw
   case rel=>
    exact⟨k+1,by omega,by go_num,(setRow_other _ _ _ _ (by omega)).trans k0,(setRow_other _ _ _ _ (by omega)).trans k1,setRow_heap _ _ _ _ _ _ k2,Ak hb2 (by omega) _⟩
   case measure=>simp[intOf];omega
  ·obtain rfl:k=104:=by omega
   rw[HE.out.1,HE.out.2] at g2;have hCl:=(Dj V M).1
   go_wp2_with (first
    | (refine Cl rfl _ rfl (w.heap.size+2) rfl (AH V M) M g2 hCl hMl ?_)
    | (refine Bq rfl _ _ rfl (w.heap.size+1) (AH V M) M rfl rfl _ g1 rfl hCl hMl _ rfl ?_))
   refine RO (p:=2) rfl rfl (w.heap.size+1) rfl (AH V M) M hCl hMl (setRow_heap _ _ _ _ _ _ g1) ⟨rfl,?_⟩;exact Ak hb (by omega) _
theorem G8{P:Program}{ops:Array Oper}{Q:Exit→Act→World→Prop}{i:Nat}{o:Oper}{K:Act→World→Prop}{a:Act}{w:World}(hi:ops[i]?=some o)
  (h:wpList P ops (fun e a' w'=>match e with | .normal=>K a' w' | e=>Q e a' w') [o] a w):wpOp P ops Q i K a w:=by
 unfold Go.wpOp;simp only[hi];unfold wpList at h;by_cases hw:Region.wanted o (yielded ops a.tmps)=true
 ·rw[if_pos hw] at h ⊢;rcases h with h | h
  ·refine .inl ?_;unfold Oper.wp at h ⊢;revert h;generalize (execOp a.eval o).run P w=r;intro h;unfold Oper.upon at h ⊢;split at h
   ·exact h
   ·exact h
   ·exact h
   ·refine h.mono ?_;intro e w1 h1
    cases e <;> exact h1
   ·exact h
   ·exact h
   ·exact h.elim
  ·exact .inr h
 ·rw[if_neg hw] at h ⊢;exact h
theorem Adm{w:World}{g:Nat}{V M:List Int}(hV:Ax V)(h:w.heap[g]?=some (.cells (cv V M) 25 (0,0))):Be w (.slice (some ⟨g,0,none⟩) 13 13) (Cm V):=by
 have hl:(Cm V).length=13:=by rw[Db,hV.1]
 refine⟨_,13,by rw[hl],by rw[hl];exact aB _,by unfold maxLen;omega,(fun e=>by cases e),fun i hi=>⟨g,0,_,_,_,rfl,h,?_⟩⟩;rw[hl] at hi;rw[Nat.zero_add,IU V M hV.1 i hi, ←(JW hV i hi).2,aK,aH (by omega)];rfl
theorem Aad{w:World}{g:Nat}{V M:List Int}(hV:Ax V)(hM:Ax M)(h:w.heap[g]?=some (.cells (cv V M) 25 (0,0))):Be w (.slice (some ⟨g,13,none⟩) 13 13) (Cm M):=by
 have hl:(Cm M).length=13:=by rw[Db,hM.1]
 refine⟨_,13,by rw[hl],by rw[hl];exact aB _,by unfold maxLen;omega,(fun e=>by cases e),fun i hi=>⟨g,13,_,_,_,rfl,h,?_⟩⟩;rw[hl] at hi;rw[Gj V M hV.1 hM.1 i hi, ←(JW hM i hi).2,aK,aH (by omega)];rfl
theorem Tk(v:Value)(L:List UInt8)(V M:List Int)(hV:Ax V)(hM:Ax M)(w:World)(hL:Be w v L)(hl:L.length≤140737488351232):
  Calls aA 127 #[v,.agg (cv V M)] w fun e w'=> ∃u,e=.returned u∧Au w.heap.size w' u (L++Ep (AH V M) M)∧Below w.heap.size w w':=by
 have HL:Hid (Be w v L):=hL;obtain⟨ov,nv,cx,rfl⟩:∃o n c,v=.slice o n c:=by obtain⟨o,c,h,_⟩:=hL.slice;exact⟨o,_,c,h⟩
 have hVl:=hV.1;have hMl:=hM.1;have hC:=Dj V M;have hCl:=hC.1;have CC:Hid (∀W,Calls aA 112 #[.agg (cv V M)] W fun e w'=>e=.returned (.agg (cv (AH V M) M))∧Below W.heap.size W w'):=FP V M hV hM;have HC:Hid (Ax (AH V M)∧Ax M):=⟨hC,hM⟩
 have HJ:Hid (∀(g2 g:Nat) (W:World),W.heap[g2]?=some (.cells #[.slice ov nv cx,.slice (some ⟨g,0,none⟩) 13 13,.slice (some ⟨g,13,none⟩) 13 13] 85 (0,0))→Be W (.slice ov nv cx) L→W.heap[g]?=some (.cells (cv (AH V M) M) 25 (0,0))→Calls aA 76 #[.slice (some ⟨g2,0,none⟩) 3 3] W fun e w'=> ∃v,e=.returned v∧Au W.heap.size w' v (L++Ep (AH V M) M)∧Below W.heap.size W w'):=fun g2 g W h1 h2 h3=>by
  refine(JN g2 [.slice ov nv cx,.slice (some ⟨g,0,none⟩) 13 13,.slice (some ⟨g,13,none⟩) 13 13] [L,Cm (AH V M),Cm M] W h1 (by simp) ⟨h2,Adm hC h3,Aad hC hM h3,trivial⟩ ?_).mono ?_
  ·simp[Db,hCl,hMl];omega
  ·rintro e w' ⟨u,rfl,h4,h5⟩;exact⟨u,rfl,by simpa[Ep] using h4,h5⟩
 have g0:=Ac w (.cells (cv V M) 25) _ rfl;have B0:Below w.heap.size w (w.alloc (.cells (cv V M) 25)):=(aI _ _).alloc (aB _) _;clear hL hl hV hM hC;go_enter Tryz.func127,Tryz.ntmps127
 go_wp2_with (first
  | (refine Cl rfl _ rfl w.heap.size rfl V M g0 hVl hMl ?_))
 refine(CC.out _).mono ?_;rintro e w1 ⟨rfl,hb1⟩;have g1:w1.heap[w.heap.size]?=some (.cells (cv V M) 25 (0,0)):=(hb1.block _ (by simp)).trans g0;have B1:Below w.heap.size w w1:=B0.trans (hb1.mono (by simp));clear g0 B0 hb1
 go_wp2_with (first
  | (refine Bq rfl _ _ rfl w.heap.size (AH V M) M rfl rfl _ g1 (AO V M hVl hMl) hCl hMl _ rfl ?_))
 have g2:=setRow_heap w1 w.heap.size _ (cv (AH V M) M) _ _ g1;have B2:=Ak B1 (aB w.heap.size) (cv (AH V M) M);obtain⟨W,hW⟩:∃W,W=w1.setRow w.heap.size (cv (AH V M) M):=⟨_,rfl⟩;rw[←hW] at g2 B2 ⊢;clear hW g1 B1;have hgs:=(Array.getElem?_eq_some_iff.1 g2).1;have ne1:=Al.ne W;have HLW:Hid (∀u:Al W,Be u.world (.slice ov nv cx) L):=fun u=>HL.out.below (B2.trans (u.below.mono B2.size));have HG:Hid (∀u:Al W,u.world.heap[w.heap.size]?=some (.cells (cv (AH V M) M) 25 (0,0))):=fun u=>(u.below.block _ hgs).trans g2;simp only[Act.put];refine En (fun a a' w'=> ∃u y7 y8 y9 y10 y11 y12 y13,a'=((((((((a.put (some 7) y7).put (some 8) y8).put (some 9) y9).put (some 10) y10).put (some 11) y11).put (some 12) y12).put (some 13) y13).put (some 4) u)∧Au w.heap.size w' u (L++Ep (AH V M) M)∧Below W.heap.size W w') ?_ ?_
 ·refine JH 8 rfl (by kernel_rfl) ?_;refine rE 0 5 3 ⟨⟨W.drew,(aI _ _).drew⟩,rfl⟩ ?_;simp only[bT,aR,bS]
  iterate 5 (go_big_quiet_step (fail))
  refine wpQuiet_nil ?_;refine rO 5 ?_;refine G8 rfl ?_;refine JB rfl 3 _ rfl #[.slice ov nv cx,.slice (some ⟨w.heap.size,0,none⟩) 13 13,.slice (some ⟨w.heap.size,13,none⟩) 13 13] (by decide) (by decide) (by first | rfl | kernel_rfl|(simp[Instr.fill,Act.eval,Value.cells];done)) ?_;have hB3:Below W.heap.size W (W.drew.alloc (.cells #[.slice ov nv cx,.slice (some ⟨w.heap.size,0,none⟩) 13 13,.slice (some ⟨w.heap.size,13,none⟩) 13 13] 85)):=(aI _ _).drew.alloc (aB _) _;refine⟨⟨⟨_,hB3⟩,rfl⟩,?_⟩;simp only[Act.put,aO,aW,bK];refine rO 6 ?_;refine Bp rfl rfl 76 #[.tmp 12] (by intro b w;have hf:=Tryz.func76;simp[go_sem]) #[.slice (some ⟨W.drew.heap.size,0,none⟩) 3 3] rfl (fun v w'=>Au w.heap.size w' v (L++Ep (AH V M) M)∧Below W.heap.size W w') ((HJ.out W.drew.heap.size w.heap.size _ (Ac _ _ _ rfl) (HLW.out ⟨_,hB3⟩) (HG.out ⟨_,hB3⟩)).mono fun e w' ⟨v,h1,h2,h3⟩=>⟨v,h1,h2.base (Nat.le_trans B2.size hB3.size),hB3.trans (h3.mono hB3.size)⟩) (some 13) rfl ?_;rintro z w4 ⟨ho4,hb4⟩;refine⟨⟨⟨w4,hb4⟩,rfl⟩,?_⟩;refine rO 7 ?_
  refine Kt rfl rfl _ rfl z rfl (some 4) rfl ?_;refine⟨⟨⟨w4,hb4⟩,rfl⟩,?_⟩;refine wpAnyH_done (by kernel_rfl) ?_ _;exact⟨rfl,_,_,_,_,_,_,_,_,rfl,ho4,hb4⟩
 ·rintro a' w4 ⟨z,y7,y8,y9,y10,y11,y12,y13,rfl,ho4,hb4⟩;simp only[Act.put,aO,aW,bK];go_wp2_with fail;go_ret;exact⟨z,rfl,ho4,B2.trans (hb4.mono B2.size)⟩
end
section
open Go.Lib Go.RowKit
def KL(m:Aj):List Value:=.int .i64 m.kind::(m.num.map (aC .i64)++((m.cube.1++m.cube.2).map (aC .u8)++m.head.map (aC .u8)))
def Ah(m:Aj):Array Value:=(KL m).toArray
theorem MO{m:Aj}(h:Bj m):(KL m).length=53:=by
 unfold KL;simp only[List.length_cons,aJ,aD,h.1,h.2.1.1,h.2.2.1.1,h.2.2.2.1]
theorem Ch{m:Aj}(h:Bj m):(Ah m).size=53:=by
 unfold Ah;rw[List.size_toArray,MO h]
theorem Aen(m:Aj):(Ah m).all (·.oneCell')=true:=by
 unfold Ah KL;simp[bU]
theorem Hy{m:Aj}(h:Bj m):(Ah m).size=53∧(Ah m).all (·.oneCell')=true:=⟨Ch h,Aen m⟩
theorem Cx(m:Aj):(Ah m)[0]?=some (.int .i64 m.kind):=by
 unfold Ah KL;simp
theorem BC{m:Aj}(h:Bj m)(j:Nat)(hj:j<13):(Ah m)[j+1]?=some (.int .i64 (Ad m j)):=by
 unfold Ah KL Ad;rw[aL,aV,bA (by rw[aD,h.1];exact hj),bN,aK,aH (by rw[h.1];exact hj)];rfl
theorem Hz{m:Aj}(h:Bj m)(j:Nat)(hj:j<26):(Ah m)[14+j]?=(cv m.cube.1 m.cube.2)[j]?:=by
 unfold Ah KL cv hv;rw[aL,show 14+j=(13+j)+1 by omega,aV,aP (by rw[aD,h.1];omega),aD,h.1,bD,bA (by rw[aD,aJ,h.2.1.1,h.2.2.1.1];exact hj),aL]
theorem Js{m:Aj}(h:Bj m)(j:Nat)(hj:j<13):(Ah m)[40+j]?=(hv m.head)[j]?:=by
 unfold Ah KL hv;rw[aL,show 40+j=(39+j)+1 by omega,aV,aP (by rw[aD,h.1];omega),aD,h.1,show 39+j-13=26+j by omega,aP (by rw[aD,aJ,h.2.1.1,h.2.2.1.1];omega),aD,aJ,h.2.1.1,h.2.2.1.1,bD,aL]
def MsG:Ag:=⟨27,53⟩
theorem DJ:MsG.Ok:=⟨⟨_,aX,rfl⟩,by kernel_rfl⟩
def CuG:Ag:=⟨25,26⟩
theorem Ds:CuG.Ok:=⟨⟨_,Tryz.underlying25,rfl⟩,by kernel_rfl⟩
def HeG:Ag:=⟨23,13⟩
theorem Iw:HeG.Ok:=⟨⟨_,bO,rfl⟩,by kernel_rfl⟩
def Hk(m:Aj)(j:Nat)(x:Int):Aj:={m with num:=m.num.set j x}
def Es(m:Aj)(V M:List Int):Aj:={m with cube:=(V,M)}
def IZ(m:Aj)(L:List Int):Aj:={m with head:=L}
theorem MF{m:Aj}(h:Bj m)(j:Nat)(x:Int):Bj (Hk m j x):=⟨by unfold Hk;simp[h.1],h.2⟩
theorem Kb{m:Aj}(h:Bj m){V M:List Int}(hV:Ax V)(hM:Ax M):Bj (Es m V M):=⟨h.1,hV,hM,h.2.2.2⟩
theorem Px{m:Aj}(h:Bj m){L:List Int}(hL:Ax L):Bj (IZ m L):=⟨h.1,h.2.1,h.2.2.1,hL⟩
theorem Uc{m:Aj}(h:Bj m)(j:Nat)(hj:j<13)(x:Int):(Ah m).setIfInBounds (j+1) (.int .i64 x)=Ah (Hk m j x):=by
 unfold Ah KL Hk;rw[aO,aW,List.set_append_left _ _ (by rw[aD,h.1];exact hj),List.map_set]
theorem MN{m:Aj}(h:Bj m)(V M:List Int):((Ah m).toList.take 14++(cv V M).toList++(Ah m).toList.drop (14+26)).toArray=Ah (Es m V M):=by
 obtain⟨k,ns,⟨V0,M0⟩,H⟩:=m;have h1:ns.length=13:=h.1;have h2:V0.length=13:=h.2.1.1;have h3:M0.length=13:=h.2.2.1.1;unfold Ah KL Es cv hv;dsimp only;congr 1
 have e1:(aC .i64 k::(ns.map (aC .i64)++((V0++M0).map (aC .u8)++H.map (aC .u8)))).take 14=aC .i64 k::ns.map (aC .i64):=by
  rw[aR,bR (by rw[aD,h1])]
 have e2:(aC .i64 k::(ns.map (aC .i64)++((V0++M0).map (aC .u8)++H.map (aC .u8)))).drop (14+26)=H.map (aC .u8):=by
  rw[show 14+26=(13+26)+1 from rfl,bI, ←bP,List.drop_left' (by rw[aJ,aD,aD,aJ,h1,h2,h3])]
 rw[e1,e2];simp
theorem MM{m:Aj}(h:Bj m)(L:List Int):((Ah m).toList.take 40++(hv L).toList++(Ah m).toList.drop (40+13)).toArray=Ah (IZ m L):=by
 obtain⟨k,ns,⟨V0,M0⟩,H⟩:=m;have h1:ns.length=13:=h.1;have h2:V0.length=13:=h.2.1.1;have h3:M0.length=13:=h.2.2.1.1;have h4:H.length=13:=h.2.2.2.1;unfold Ah KL IZ hv;dsimp only;congr 1
 have e1:(aC .i64 k::(ns.map (aC .i64)++((V0++M0).map (aC .u8)++H.map (aC .u8)))).take 40=aC .i64 k::(ns.map (aC .i64)++(V0++M0).map (aC .u8)):=by
  rw[aR, ←bP,bR (by rw[aJ,aD,aD,aJ,h1,h2,h3])]
 have e2:(aC .i64 k::(ns.map (aC .i64)++((V0++M0).map (aC .u8)++H.map (aC .u8)))).drop (40+13)=[]:=by
  rw[List.drop_of_length_le];simp[h1,h2,h3,h4]
 rw[e1,e2];simp
set_option maxRecDepth 100000 in
theorem Aa7(k:Int)(W:World):(Instr.build 27 #[(0,.int .i64 k)]).run aA W=.ok (.agg (Ah (Bk k))) W:=by
 unfold Bk;rw[Hr];kernel_rfl
set_option maxRecDepth 100000 in
theorem XT(W:World):(Instr.build 27 #[]).run aA W=.ok (.agg (Ah (Bk 0))) W:=by
 unfold Bk;rw[Hr];kernel_rfl
theorem MH{E:Ag}(H:E.Ok)(A cs:Array Value)(off:Nat)(hcs:cs.size=E.size)(hA:∀j,j<E.size→A[off+j]?=cs[j]?)(hs:off+E.size≤A.size)(w:World):(part E.elem A off).run aA w=.ok (.agg cs) w:=by
 obtain⟨i,hq,hz⟩:∃i,aA.info? E.elem=some i∧i.size=E.size:=by
  have h1:=H.hi
  cases h:aA.info? E.elem with
  | none=>rw[h] at h1;simp at h1
  | some i=>rw[h] at h1;exact⟨i,rfl,by simpa using h1⟩
 have hagg:(isAgg E.elem).run aA w=.ok true w:=by
  obtain⟨d,hd,hm⟩:=H.hu;unfold isAgg;rw[aT,run_underlying hd w];revert hm
  cases d <;> simp[go_sem]
 have e:A.extract off (off+E.size)=cs:=by
  apply Array.ext_getElem?;intro k;rw[Array.getElem?_extract];split
  ·rename_i hk;exact hA k (by omega)
  ·rename_i hk;rw[Array.getElem?_eq_none (by omega)]
 simp[part,hagg,sizeOf,typeInfo,hq,hz,aT,e]
theorem NJ(d:Nat)(A B:List Int)(hA:A.length=13)(hB:B.length=13)(w:World):(aZ (d+2) 23 (.agg (hv A)) (.agg (hv B))).run aA w=.ok (A==B) w:=by
 have z5:(sizeOf 5).run aA w=.ok 1 w:=by kernel_rfl
 rw[show d+2=(d+1)+1 from rfl,aZ];simp only[aT,run_underlying bO,aY,z5];simp only[Std.Legacy.Range.forIn_eq_forIn_range',Std.Legacy.Range.size,Nat.sub_zero,Nat.add_sub_cancel,Nat.div_one];rw[←Mw A B hA hB];exact Ri d A B hA hB w _ rfl rfl (List.range' 0 13) (fun i hi=>by simp at hi;omega)
theorem ZR(V M V' M':List Int)(hV:V.length=13)(hM:M.length=13)(hV':V'.length=13)(hM':M'.length=13)(w:World):
  (aZ 9999 25 (.agg (cv V M)) (.agg (cv V' M'))).run aA w=.ok (V==V'&&M==M') w:=by
 rw [show (9999 : Nat) = 9998 + 1 from rfl, run_equalIn_struct w 9998 25 _ _ (by kernel_rfl) (by kernel_rfl)]; rw [show (aA.fieldsOf 25).toList = [{ name := "Value", type := 23, offset := 0, embedded := false, tag := "", pkgPath := "", byteOffset := 0 }, { name := "Mask", type := 23, offset := 13, embedded := false, tag := "", pkgPath := "", byteOffset := 13 }] from by kernel_rfl]; simp only [Op.eqFields, ne_eq, String.reduceEq, not_false_eq_true, if_true, aT]; simp only [GD V M hV, GD V' M' hV', aY, NJ 9996 V V' hV hV']
 cases hA:(V==V')
 ·simp
 ·simp only[Bool.not_true,Bool.false_eq_true,if_false,aT,FN V M hV hM,FN V' M' hV' hM',aY,NJ 9996 M M' hM hM']
  cases hB:(M==M') <;> simp
def Kj(m n:Aj):Bool:=(m.kind==n.kind)&&((Ad m 0==Ad n 0)&&((Ad m 1==Ad n 1)&&((Ad m 2==Ad n 2)&&((Ad m 3==Ad n 3)&&((Ad m 4==Ad n 4)&&((Ad m 5==Ad n 5)&&((Ad m 6==Ad n 6)&&((Ad m 7==Ad n 7)&&((Ad m 8==Ad n 8)&&((Ad m 9==Ad n 9)&&((Ad m 10==Ad n 10)&&((Ad m 11==Ad n 11)&&((Ad m 12==Ad n 12)&&((m.cube.1==n.cube.1&&m.cube.2==n.cube.2)&&((m.head==n.head)&&true)))))))))))))))
set_option maxRecDepth 100000 in
theorem Ag6{m n:Aj}(h:Bj m)(h':Bj n)(w:World):(aZ 10000 27 (.agg (Ah m)) (.agg (Ah n))).run aA w=.ok (Kj m n) w:=by
 have a3:(isAgg 3).run aA w=.ok false w:=by kernel_rfl
 rw[run_equalIn_struct w 9999 27 _ _ aX (by kernel_rfl)];simp only[Program.fieldsOf,aX];refine Bu w (by decide) (Bi w a3 (Cx m)) (Bi w a3 (Cx n)) (run_equalIn_int w _ 3 .i64 .i64 _ _ aG) ?_;refine Bu w (by decide) (Bi w a3 (BC h 0 (by decide))) (Bi w a3 (BC h' 0 (by decide))) (run_equalIn_int w _ 3 .i64 .i64 _ _ aG) ?_;refine Bu w (by decide) (Bi w a3 (BC h 1 (by decide))) (Bi w a3 (BC h' 1 (by decide))) (run_equalIn_int w _ 3 .i64 .i64 _ _ aG) ?_;refine Bu w (by decide) (Bi w a3 (BC h 2 (by decide))) (Bi w a3 (BC h' 2 (by decide))) (run_equalIn_int w _ 3 .i64 .i64 _ _ aG) ?_;refine Bu w (by decide) (Bi w a3 (BC h 3 (by decide))) (Bi w a3 (BC h' 3 (by decide))) (run_equalIn_int w _ 3 .i64 .i64 _ _ aG) ?_;refine Bu w (by decide) (Bi w a3 (BC h 4 (by decide))) (Bi w a3 (BC h' 4 (by decide))) (run_equalIn_int w _ 3 .i64 .i64 _ _ aG) ?_;refine Bu w (by decide) (Bi w a3 (BC h 5 (by decide))) (Bi w a3 (BC h' 5 (by decide))) (run_equalIn_int w _ 3 .i64 .i64 _ _ aG) ?_
 refine Bu w (by decide) (Bi w a3 (BC h 6 (by decide))) (Bi w a3 (BC h' 6 (by decide))) (run_equalIn_int w _ 3 .i64 .i64 _ _ aG) ?_;refine Bu w (by decide) (Bi w a3 (BC h 7 (by decide))) (Bi w a3 (BC h' 7 (by decide))) (run_equalIn_int w _ 3 .i64 .i64 _ _ aG) ?_;refine Bu w (by decide) (Bi w a3 (BC h 8 (by decide))) (Bi w a3 (BC h' 8 (by decide))) (run_equalIn_int w _ 3 .i64 .i64 _ _ aG) ?_;refine Bu w (by decide) (Bi w a3 (BC h 9 (by decide))) (Bi w a3 (BC h' 9 (by decide))) (run_equalIn_int w _ 3 .i64 .i64 _ _ aG) ?_;refine Bu w (by decide) (Bi w a3 (BC h 10 (by decide))) (Bi w a3 (BC h' 10 (by decide))) (run_equalIn_int w _ 3 .i64 .i64 _ _ aG) ?_;refine Bu w (by decide) (Bi w a3 (BC h 11 (by decide))) (Bi w a3 (BC h' 11 (by decide))) (run_equalIn_int w _ 3 .i64 .i64 _ _ aG) ?_;refine Bu w (by decide) (Bi w a3 (BC h 12 (by decide))) (Bi w a3 (BC h' 12 (by decide))) (run_equalIn_int w _ 3 .i64 .i64 _ _ aG) ?_
 refine Bu w (by decide) (MH Ds _ (cv m.cube.1 m.cube.2) 14 (AO _ _ h.2.1.1 h.2.2.1.1) (Hz h) (by rw[Ch h];decide) w) (MH Ds _ (cv n.cube.1 n.cube.2) 14 (AO _ _ h'.2.1.1 h'.2.2.1.1) (Hz h') (by rw[Ch h'];decide) w) (ZR _ _ _ _ h.2.1.1 h.2.2.1.1 h'.2.1.1 h'.2.2.1.1 w) ?_;refine Bu w (by decide) (MH Iw _ (hv m.head) 40 (by rw[DE,h.2.2.2.1];rfl) (Js h) (by rw[Ch h];decide) w) (MH Iw _ (hv n.head) 40 (by rw[DE,h'.2.2.2.1];rfl) (Js h') (by rw[Ch h'];decide) w) (NJ 9997 _ _ h.2.2.2.1 h'.2.2.2.1 w) ?_;rfl
theorem T7{m n:Aj}(h:Bj m)(h':Bj n)(hn:∀j,j<13→Ad m j=Ad n j):m.num=n.num:=by
 apply List.ext_getElem?;intro j;by_cases hj:j<13
 ·have h2:=hn j hj;unfold Ad at h2;rw[aK,aK,aH (by rw[h.1];exact hj),aH (by rw[h'.1];exact hj)] at h2;rw[aH (by rw[h.1];exact hj),aH (by rw[h'.1];exact hj)];exact congrArg some h2
 ·rw[bG (by rw[h.1];omega),bG (by rw[h'.1];omega)]
theorem XM{m n:Aj}(h:Bj m)(h':Bj n):Kj m n=true↔m=n:=by
 constructor
 ·intro e;unfold Kj at e;simp only[Bool.and_eq_true,beq_iff_eq] at e;obtain⟨e0,f0,f1,f2,f3,f4,f5,f6,f7,f8,f9,f10,f11,f12,⟨c1,c2⟩,c3,_⟩:=e
  have hn:m.num=n.num:=T7 h h' fun j hj=>by
   match j,hj with
   | 0,_=>exact f0
   | 1,_=>exact f1
   | 2,_=>exact f2
   | 3,_=>exact f3
   | 4,_=>exact f4
   | 5,_=>exact f5
   | 6,_=>exact f6
   | 7,_=>exact f7
   | 8,_=>exact f8
   | 9,_=>exact f9
   | 10,_=>exact f10
   | 11,_=>exact f11
   | 12,_=>exact f12
   | j+13,hj=>omega
  obtain⟨k,nm,⟨a,b⟩,hd⟩:=m;obtain⟨k',nm',⟨a',b'⟩,hd'⟩:=n;dsimp only at e0 hn c1 c2 c3;rw[e0,hn,c1,c2,c3]
 ·rintro rfl;unfold Kj;simp
def UT(g:Nat)(ns:List Nat):Array Value:=(ns.map fun j=>Value.pointer (some ⟨g,j+1,none⟩)).toArray
def Md(g:Nat)(c:Bool):Value:=if c then .pointer (some ⟨g,14,none⟩) else .pointer none
def Mc(g:Nat)(d:Bool):Value:=if d then .pointer (some ⟨g,40,none⟩) else .pointer none
def Cc(h g n:Nat)(c d:Bool):Array Value:=#[.slice (some ⟨h,0,none⟩) n n,Md g c,Mc g d]
def J6(g:Nat)(ns:List Nat)(c d:Bool)(w:World)(e:Ending)(w':World):Prop:=
 ∃h,e=.returned (.tuple #[.agg (Cc h g ns.length c d),.bool true])∧w.heap.size≤h∧w'.heap[h]?=some (.cells (UT g ns) 144 (0,0))∧Below w.heap.size w w'
def FvG:Ag:=⟨118,3⟩
theorem Gq:FvG.Ok:=⟨⟨_,Tryz.underlying118,rfl⟩,by kernel_rfl⟩
theorem NF(h g n:Nat)(c d:Bool):(Cc h g n c d).size=3∧(Cc h g n c d).all (·.oneCell')=true:=by
 refine⟨rfl,?_⟩;unfold Cc Md Mc
 cases c <;> cases d <;> simp[bU]
theorem Nn{w:World}{g:Nat}{a b c x y z:Value}{t:TypeId}(h:w.heap[g]?=some (.cells #[a,b,c] t (0,0))):(((w.setCell ⟨g,0,none⟩ x).setCell ⟨g,1,none⟩ y).setCell ⟨g,2,none⟩ z).heap[g]?=some (.cells #[x,y,z] t (0,0)):=
 heap_setCell_same _ _ _ _ _ _ (heap_setCell_same _ _ _ _ _ _ (heap_setCell_same _ _ _ _ _ _ h))
theorem FZ{B g:Nat}{u w:World}(hB:Below B u w)(hg:B≤g)(x y z:Value):Below B u (((w.setCell ⟨g,0,none⟩ x).setCell ⟨g,1,none⟩ y).setCell ⟨g,2,none⟩ z):=
 ((hB.setCell (by simpa using hg) x).setCell (by simpa using hg) y).setCell (by simpa using hg) z
theorem Adj(g:Nat)(m:Aj)(hk:m.kind=1)(w:World)(hg:w.heap[g]?=some (.cells (Ah m) 27 (0,0))):
  Calls aA 55 #[.pointer (some ⟨g,0,none⟩)] w fun e w'=>J6 g [0,1,2,3,4,7,8] true false w e w':=by
 have hc:∀o,(w.alloc o).cell? ⟨g,0,none⟩=some (.int .i64 1):=fun o=>by
  rw[cell_of_row _ _ _ _ _ _ (Af _ _ _ _ hg),Cx,hk]
 clear hk hg;go_enter aN,aM;go_wp2_with fail;obtain⟨w1,hw1⟩:=eX (w.alloc (.cells (#[.slice none 0 0,.pointer none,.pointer none]) 118));rw[←hw1];have h1:w1.heap[w.heap.size]?=some (.cells #[.slice none 0 0,.pointer none,.pointer none] 118 (0,0)):=by rw[hw1];exact Ac _ _ _ rfl
 have B1:Below w.heap.size w w1:=by rw[hw1];exact(aI _ _).alloc (aB _) _
 have hs1:w1.heap.size=w.heap.size+1:=by rw[hw1];simp
 clear hw1 hc;have c0:w1.cell? ⟨w.heap.size,0,none⟩=some (.slice none 0 0):=cell_of_row _ _ _ _ _ _ h1;have c1:w1.cell? ⟨w.heap.size,1,none⟩=some (.pointer none):=cell_of_row _ _ _ _ _ _ h1;have c2:w1.cell? ⟨w.heap.size,2,none⟩=some (.pointer none):=cell_of_row _ _ _ _ _ _ h1;have f0:w1.frozen? ⟨w.heap.size,0,none⟩=false:=frozen_of_row _ _ _ _ _ h1;have f1:w1.frozen? ⟨w.heap.size,1,none⟩=false:=frozen_of_row _ _ _ _ _ h1;have f2:w1.frozen? ⟨w.heap.size,2,none⟩=false:=frozen_of_row _ _ _ _ _ h1;go_region;go_wp2_with fail;have hh:=Nn (x:=.slice (some ⟨w.heap.size+1,0,none⟩) 7 7) (y:=.pointer (some ⟨g,14,none⟩)) (z:=.pointer none) h1;have hB:=FZ B1 (aB w.heap.size) (.slice (some ⟨w.heap.size+1,0,none⟩) 7 7) (.pointer (some ⟨g,14,none⟩)) (.pointer none);refine Gt Gq (p:=2) (u:=3) rfl rfl w.heap.size rfl (Cc (w.heap.size+1) g 7 true false) rfl ?_ _ rfl ⟨w.heap.size+1,rfl,aQ _,?_,?_⟩
 ·exact Af _ _ _ _ hh
 ·exact Ac _ _ _ (by simp[hs1])
 ·exact(hB.alloc (by simp[hs1]) _).drew
theorem Adi(g:Nat)(m:Aj)(hk:m.kind=2)(w:World)(hg:w.heap[g]?=some (.cells (Ah m) 27 (0,0))):
  Calls aA 55 #[.pointer (some ⟨g,0,none⟩)] w fun e w'=>J6 g [0,1,2,3,4,5,6] true false w e w':=by
 have hc:∀o,(w.alloc o).cell? ⟨g,0,none⟩=some (.int .i64 2):=fun o=>by
  rw[cell_of_row _ _ _ _ _ _ (Af _ _ _ _ hg),Cx,hk]
 clear hk hg;go_enter aN,aM;go_wp2_with fail;obtain⟨w1,hw1⟩:=eX (w.alloc (.cells (#[.slice none 0 0,.pointer none,.pointer none]) 118));rw[←hw1];have h1:w1.heap[w.heap.size]?=some (.cells #[.slice none 0 0,.pointer none,.pointer none] 118 (0,0)):=by rw[hw1];exact Ac _ _ _ rfl
 have B1:Below w.heap.size w w1:=by rw[hw1];exact(aI _ _).alloc (aB _) _
 have hs1:w1.heap.size=w.heap.size+1:=by rw[hw1];simp
 clear hw1 hc;have c0:w1.cell? ⟨w.heap.size,0,none⟩=some (.slice none 0 0):=cell_of_row _ _ _ _ _ _ h1;have c1:w1.cell? ⟨w.heap.size,1,none⟩=some (.pointer none):=cell_of_row _ _ _ _ _ _ h1;have c2:w1.cell? ⟨w.heap.size,2,none⟩=some (.pointer none):=cell_of_row _ _ _ _ _ _ h1;have f0:w1.frozen? ⟨w.heap.size,0,none⟩=false:=frozen_of_row _ _ _ _ _ h1;have f1:w1.frozen? ⟨w.heap.size,1,none⟩=false:=frozen_of_row _ _ _ _ _ h1;have f2:w1.frozen? ⟨w.heap.size,2,none⟩=false:=frozen_of_row _ _ _ _ _ h1;go_region;go_wp2_with fail;have hh:=Nn (x:=.slice (some ⟨w.heap.size+1,0,none⟩) 7 7) (y:=.pointer (some ⟨g,14,none⟩)) (z:=.pointer none) h1;have hB:=FZ B1 (aB w.heap.size) (.slice (some ⟨w.heap.size+1,0,none⟩) 7 7) (.pointer (some ⟨g,14,none⟩)) (.pointer none);refine Gt Gq (p:=2) (u:=3) rfl rfl w.heap.size rfl (Cc (w.heap.size+1) g 7 true false) rfl ?_ _ rfl ⟨w.heap.size+1,rfl,aQ _,?_,?_⟩
 ·exact Af _ _ _ _ hh
 ·exact Ac _ _ _ (by simp[hs1])
 ·exact(hB.alloc (by simp[hs1]) _).drew
theorem Adh(g:Nat)(m:Aj)(hk:m.kind=3)(w:World)(hg:w.heap[g]?=some (.cells (Ah m) 27 (0,0))):
  Calls aA 55 #[.pointer (some ⟨g,0,none⟩)] w fun e w'=>J6 g [0,9,10,2] false false w e w':=by
 have hc:∀o,(w.alloc o).cell? ⟨g,0,none⟩=some (.int .i64 3):=fun o=>by
  rw[cell_of_row _ _ _ _ _ _ (Af _ _ _ _ hg),Cx,hk]
 clear hk hg;go_enter aN,aM;go_wp2_with fail;obtain⟨w1,hw1⟩:=eX (w.alloc (.cells (#[.slice none 0 0,.pointer none,.pointer none]) 118));rw[←hw1];have h1:w1.heap[w.heap.size]?=some (.cells #[.slice none 0 0,.pointer none,.pointer none] 118 (0,0)):=by rw[hw1];exact Ac _ _ _ rfl
 have B1:Below w.heap.size w w1:=by rw[hw1];exact(aI _ _).alloc (aB _) _
 have hs1:w1.heap.size=w.heap.size+1:=by rw[hw1];simp
 clear hw1 hc;have c0:w1.cell? ⟨w.heap.size,0,none⟩=some (.slice none 0 0):=cell_of_row _ _ _ _ _ _ h1;have c1:w1.cell? ⟨w.heap.size,1,none⟩=some (.pointer none):=cell_of_row _ _ _ _ _ _ h1;have c2:w1.cell? ⟨w.heap.size,2,none⟩=some (.pointer none):=cell_of_row _ _ _ _ _ _ h1;have f0:w1.frozen? ⟨w.heap.size,0,none⟩=false:=frozen_of_row _ _ _ _ _ h1;have f1:w1.frozen? ⟨w.heap.size,1,none⟩=false:=frozen_of_row _ _ _ _ _ h1;have f2:w1.frozen? ⟨w.heap.size,2,none⟩=false:=frozen_of_row _ _ _ _ _ h1;go_region;go_wp2_with fail;have hh:=Nn (x:=.slice (some ⟨w.heap.size+1,0,none⟩) 4 4) (y:=.pointer none) (z:=.pointer none) h1;have hB:=FZ B1 (aB w.heap.size) (.slice (some ⟨w.heap.size+1,0,none⟩) 4 4) (.pointer none) (.pointer none);refine Gt Gq (p:=2) (u:=3) rfl rfl w.heap.size rfl (Cc (w.heap.size+1) g 4 false false) rfl ?_ _ rfl ⟨w.heap.size+1,rfl,aQ _,?_,?_⟩
 ·exact Af _ _ _ _ hh
 ·exact Ac _ _ _ (by simp[hs1])
 ·exact(hB.alloc (by simp[hs1]) _).drew
theorem Adg(g:Nat)(m:Aj)(hk:m.kind=4)(w:World)(hg:w.heap[g]?=some (.cells (Ah m) 27 (0,0))):
  Calls aA 55 #[.pointer (some ⟨g,0,none⟩)] w fun e w'=>J6 g [0,1,3] false false w e w':=by
 have hc:∀o,(w.alloc o).cell? ⟨g,0,none⟩=some (.int .i64 4):=fun o=>by
  rw[cell_of_row _ _ _ _ _ _ (Af _ _ _ _ hg),Cx,hk]
 clear hk hg;go_enter aN,aM;go_wp2_with fail;obtain⟨w1,hw1⟩:=eX (w.alloc (.cells (#[.slice none 0 0,.pointer none,.pointer none]) 118));rw[←hw1];have h1:w1.heap[w.heap.size]?=some (.cells #[.slice none 0 0,.pointer none,.pointer none] 118 (0,0)):=by rw[hw1];exact Ac _ _ _ rfl
 have B1:Below w.heap.size w w1:=by rw[hw1];exact(aI _ _).alloc (aB _) _
 have hs1:w1.heap.size=w.heap.size+1:=by rw[hw1];simp
 clear hw1 hc;have c0:w1.cell? ⟨w.heap.size,0,none⟩=some (.slice none 0 0):=cell_of_row _ _ _ _ _ _ h1;have c1:w1.cell? ⟨w.heap.size,1,none⟩=some (.pointer none):=cell_of_row _ _ _ _ _ _ h1;have c2:w1.cell? ⟨w.heap.size,2,none⟩=some (.pointer none):=cell_of_row _ _ _ _ _ _ h1;have f0:w1.frozen? ⟨w.heap.size,0,none⟩=false:=frozen_of_row _ _ _ _ _ h1;have f1:w1.frozen? ⟨w.heap.size,1,none⟩=false:=frozen_of_row _ _ _ _ _ h1;have f2:w1.frozen? ⟨w.heap.size,2,none⟩=false:=frozen_of_row _ _ _ _ _ h1;go_region;go_wp2_with fail;have hh:=Nn (x:=.slice (some ⟨w.heap.size+1,0,none⟩) 3 3) (y:=.pointer none) (z:=.pointer none) h1;have hB:=FZ B1 (aB w.heap.size) (.slice (some ⟨w.heap.size+1,0,none⟩) 3 3) (.pointer none) (.pointer none);refine Gt Gq (p:=2) (u:=3) rfl rfl w.heap.size rfl (Cc (w.heap.size+1) g 3 false false) rfl ?_ _ rfl ⟨w.heap.size+1,rfl,aQ _,?_,?_⟩
 ·exact Af _ _ _ _ hh
 ·exact Ac _ _ _ (by simp[hs1])
 ·exact(hB.alloc (by simp[hs1]) _).drew
theorem Adf(g:Nat)(m:Aj)(hk:m.kind=5)(w:World)(hg:w.heap[g]?=some (.cells (Ah m) 27 (0,0))):
  Calls aA 55 #[.pointer (some ⟨g,0,none⟩)] w fun e w'=>J6 g [0,10,1,3,12] false false w e w':=by
 have hc:∀o,(w.alloc o).cell? ⟨g,0,none⟩=some (.int .i64 5):=fun o=>by
  rw[cell_of_row _ _ _ _ _ _ (Af _ _ _ _ hg),Cx,hk]
 clear hk hg;go_enter aN,aM;go_wp2_with fail;obtain⟨w1,hw1⟩:=eX (w.alloc (.cells (#[.slice none 0 0,.pointer none,.pointer none]) 118));rw[←hw1];have h1:w1.heap[w.heap.size]?=some (.cells #[.slice none 0 0,.pointer none,.pointer none] 118 (0,0)):=by rw[hw1];exact Ac _ _ _ rfl
 have B1:Below w.heap.size w w1:=by rw[hw1];exact(aI _ _).alloc (aB _) _
 have hs1:w1.heap.size=w.heap.size+1:=by rw[hw1];simp
 clear hw1 hc;have c0:w1.cell? ⟨w.heap.size,0,none⟩=some (.slice none 0 0):=cell_of_row _ _ _ _ _ _ h1;have c1:w1.cell? ⟨w.heap.size,1,none⟩=some (.pointer none):=cell_of_row _ _ _ _ _ _ h1;have c2:w1.cell? ⟨w.heap.size,2,none⟩=some (.pointer none):=cell_of_row _ _ _ _ _ _ h1;have f0:w1.frozen? ⟨w.heap.size,0,none⟩=false:=frozen_of_row _ _ _ _ _ h1;have f1:w1.frozen? ⟨w.heap.size,1,none⟩=false:=frozen_of_row _ _ _ _ _ h1;have f2:w1.frozen? ⟨w.heap.size,2,none⟩=false:=frozen_of_row _ _ _ _ _ h1;go_region;go_wp2_with fail;have hh:=Nn (x:=.slice (some ⟨w.heap.size+1,0,none⟩) 5 5) (y:=.pointer none) (z:=.pointer none) h1;have hB:=FZ B1 (aB w.heap.size) (.slice (some ⟨w.heap.size+1,0,none⟩) 5 5) (.pointer none) (.pointer none);refine Gt Gq (p:=2) (u:=3) rfl rfl w.heap.size rfl (Cc (w.heap.size+1) g 5 false false) rfl ?_ _ rfl ⟨w.heap.size+1,rfl,aQ _,?_,?_⟩
 ·exact Af _ _ _ _ hh
 ·exact Ac _ _ _ (by simp[hs1])
 ·exact(hB.alloc (by simp[hs1]) _).drew
theorem Ade(g:Nat)(m:Aj)(hk:m.kind=6)(w:World)(hg:w.heap[g]?=some (.cells (Ah m) 27 (0,0))):
  Calls aA 55 #[.pointer (some ⟨g,0,none⟩)] w fun e w'=>J6 g [0,11,1] false true w e w':=by
 have hc:∀o,(w.alloc o).cell? ⟨g,0,none⟩=some (.int .i64 6):=fun o=>by
  rw[cell_of_row _ _ _ _ _ _ (Af _ _ _ _ hg),Cx,hk]
 clear hk hg;go_enter aN,aM;go_wp2_with fail;obtain⟨w1,hw1⟩:=eX (w.alloc (.cells (#[.slice none 0 0,.pointer none,.pointer none]) 118));rw[←hw1];have h1:w1.heap[w.heap.size]?=some (.cells #[.slice none 0 0,.pointer none,.pointer none] 118 (0,0)):=by rw[hw1];exact Ac _ _ _ rfl
 have B1:Below w.heap.size w w1:=by rw[hw1];exact(aI _ _).alloc (aB _) _
 have hs1:w1.heap.size=w.heap.size+1:=by rw[hw1];simp
 clear hw1 hc;have c0:w1.cell? ⟨w.heap.size,0,none⟩=some (.slice none 0 0):=cell_of_row _ _ _ _ _ _ h1;have c1:w1.cell? ⟨w.heap.size,1,none⟩=some (.pointer none):=cell_of_row _ _ _ _ _ _ h1;have c2:w1.cell? ⟨w.heap.size,2,none⟩=some (.pointer none):=cell_of_row _ _ _ _ _ _ h1;have f0:w1.frozen? ⟨w.heap.size,0,none⟩=false:=frozen_of_row _ _ _ _ _ h1;have f1:w1.frozen? ⟨w.heap.size,1,none⟩=false:=frozen_of_row _ _ _ _ _ h1;have f2:w1.frozen? ⟨w.heap.size,2,none⟩=false:=frozen_of_row _ _ _ _ _ h1;go_region;go_wp2_with fail;have hh:=Nn (x:=.slice (some ⟨w.heap.size+1,0,none⟩) 3 3) (y:=.pointer none) (z:=.pointer (some ⟨g,40,none⟩)) h1;have hB:=FZ B1 (aB w.heap.size) (.slice (some ⟨w.heap.size+1,0,none⟩) 3 3) (.pointer none) (.pointer (some ⟨g,40,none⟩));refine Gt Gq (p:=2) (u:=3) rfl rfl w.heap.size rfl (Cc (w.heap.size+1) g 3 false true) rfl ?_ _ rfl ⟨w.heap.size+1,rfl,aQ _,?_,?_⟩
 ·exact Af _ _ _ _ hh
 ·exact Ac _ _ _ (by simp[hs1])
 ·exact(hB.alloc (by simp[hs1]) _).drew
theorem Add(g:Nat)(m:Aj)(hk:m.kind=7)(w:World)(hg:w.heap[g]?=some (.cells (Ah m) 27 (0,0))):
  Calls aA 55 #[.pointer (some ⟨g,0,none⟩)] w fun e w'=>J6 g [0,11,1,6] true false w e w':=by
 have hc:∀o,(w.alloc o).cell? ⟨g,0,none⟩=some (.int .i64 7):=fun o=>by
  rw[cell_of_row _ _ _ _ _ _ (Af _ _ _ _ hg),Cx,hk]
 clear hk hg;go_enter aN,aM;go_wp2_with fail;obtain⟨w1,hw1⟩:=eX (w.alloc (.cells (#[.slice none 0 0,.pointer none,.pointer none]) 118));rw[←hw1];have h1:w1.heap[w.heap.size]?=some (.cells #[.slice none 0 0,.pointer none,.pointer none] 118 (0,0)):=by rw[hw1];exact Ac _ _ _ rfl
 have B1:Below w.heap.size w w1:=by rw[hw1];exact(aI _ _).alloc (aB _) _
 have hs1:w1.heap.size=w.heap.size+1:=by rw[hw1];simp
 clear hw1 hc;have c0:w1.cell? ⟨w.heap.size,0,none⟩=some (.slice none 0 0):=cell_of_row _ _ _ _ _ _ h1;have c1:w1.cell? ⟨w.heap.size,1,none⟩=some (.pointer none):=cell_of_row _ _ _ _ _ _ h1;have c2:w1.cell? ⟨w.heap.size,2,none⟩=some (.pointer none):=cell_of_row _ _ _ _ _ _ h1;have f0:w1.frozen? ⟨w.heap.size,0,none⟩=false:=frozen_of_row _ _ _ _ _ h1;have f1:w1.frozen? ⟨w.heap.size,1,none⟩=false:=frozen_of_row _ _ _ _ _ h1;have f2:w1.frozen? ⟨w.heap.size,2,none⟩=false:=frozen_of_row _ _ _ _ _ h1;go_region;go_wp2_with fail;have hh:=Nn (x:=.slice (some ⟨w.heap.size+1,0,none⟩) 4 4) (y:=.pointer (some ⟨g,14,none⟩)) (z:=.pointer none) h1;have hB:=FZ B1 (aB w.heap.size) (.slice (some ⟨w.heap.size+1,0,none⟩) 4 4) (.pointer (some ⟨g,14,none⟩)) (.pointer none);refine Gt Gq (p:=2) (u:=3) rfl rfl w.heap.size rfl (Cc (w.heap.size+1) g 4 true false) rfl ?_ _ rfl ⟨w.heap.size+1,rfl,aQ _,?_,?_⟩
 ·exact Af _ _ _ _ hh
 ·exact Ac _ _ _ (by simp[hs1])
 ·exact(hB.alloc (by simp[hs1]) _).drew
theorem Ul(g:Nat)(m:Aj)(hk:AS m.kind=[])(w:World)(hg:w.heap[g]?=some (.cells (Ah m) 27 (0,0))):
  Calls aA 55 #[.pointer (some ⟨g,0,none⟩)] w fun e w'=>e=.returned (.tuple #[.agg #[.slice none 0 0,.pointer none,.pointer none],.bool false])∧Below w.heap.size w w':=by
 have hc:∀o,(w.alloc o).cell? ⟨g,0,none⟩=some (.int .i64 m.kind):=fun o=>by
  rw[cell_of_row _ _ _ _ _ _ (Af _ _ _ _ hg),Cx]
 obtain⟨k,hkk⟩:=eX m.kind;rw[←hkk] at hc hk;have n1:¬k=1:=fun e=>by rw[e] at hk;cases hk
 have n2:¬k=2:=fun e=>by rw[e] at hk;cases hk
 have n3:¬k=3:=fun e=>by rw[e] at hk;cases hk
 have n4:¬k=4:=fun e=>by rw[e] at hk;cases hk
 have n5:¬k=5:=fun e=>by rw[e] at hk;cases hk
 have n6:¬k=6:=fun e=>by rw[e] at hk;cases hk
 have n7:¬k=7:=fun e=>by rw[e] at hk;cases hk
 clear hkk hg hk;go_enter aN,aM;go_wp2_with fail;have h1:(w.alloc (.cells #[.slice none 0 0,.pointer none,.pointer none] 118)).heap[w.heap.size]?=some (.cells #[.slice none 0 0,.pointer none,.pointer none] 118 (0,0)):=Ac _ _ _ rfl;refine Gt Gq (p:=2) (u:=3) rfl rfl w.heap.size rfl _ rfl h1 _ rfl ⟨rfl,(aI _ _).alloc (aB _) _⟩
def Iz(k:Int):List Nat:=(AS k).filter (fun f=>decide (f<13))
def Iq(k:Int):Bool:=(AS k).contains 13
def Ki(k:Int):Bool:=(AS k).contains 14
theorem Lw(g:Nat)(m:Aj)(hk:AS m.kind≠[])(w:World)(hg:w.heap[g]?=some (.cells (Ah m) 27 (0,0))):
  Calls aA 55 #[.pointer (some ⟨g,0,none⟩)] w fun e w'=>J6 g (Iz m.kind) (Iq m.kind) (Ki m.kind) w e w':=by
 have hr:=NH (k:=m.kind) (by cases h:AS m.kind with | nil=>exact absurd h hk | cons a l=>rfl);have hcases:m.kind=1∨m.kind=2∨m.kind=3∨m.kind=4∨m.kind=5∨m.kind=6∨m.kind=7:=by omega
 rcases hcases with h | h | h | h | h | h | h
 ·have:=Adj g m h w hg;rw[h];exact this
 ·have:=Adi g m h w hg;rw[h];exact this
 ·have:=Adh g m h w hg;rw[h];exact this
 ·have:=Adg g m h w hg;rw[h];exact this
 ·have:=Adf g m h w hg;rw[h];exact this
 ·have:=Ade g m h w hg;rw[h];exact this
 ·have:=Add g m h w hg;rw[h];exact this
def inN(x:Int):Bool:=decide (0≤x)&&decide (x≤281474976710655)
theorem MS(x:Int):inN x=true↔0≤x∧x≤281474976710655:=by unfold inN;simp
def J1(m:Aj)(ns:List Nat):Bool:=ns.all fun j=>inN (Ad m j)
def DQ(m:Aj)(ns:List Nat)(c:Bool):Bool:=J1 m ns&&(!c || EJ m)
theorem X0{m:Aj}{ns:List Nat}{k j:Nat}(hj:ns[k]?=some j)(h:J1 m (ns.take k)=true)(hx:inN (Ad m j)=true):J1 m (ns.take (k+1))=true:=by
 unfold J1 at h ⊢;rw[List.take_add_one,hj,List.all_append,h];simp[hx]
theorem SX{m:Aj}{ns:List Nat}{k j:Nat}(hj:ns[k]?=some j)(hx:inN (Ad m j)=false):J1 m ns=false:=by
 cases e:J1 m ns with
 | false=>rfl
 | true=>
  unfold J1 at e;rw[List.all_eq_true] at e;have:=e j (bH hj);rw[hx] at this
  cases this
structure Fi(w:World)(h g:Nat)(ns:List Nat)(m:Aj):Prop where
 hg:w.heap[g]?=some (.cells (Ah m) 27 (0,0))
 hh:w.heap[h]?=some (.cells (UT g ns) 144 (0,0))
 hm:Bj m
 hn:∀j∈ns,j<13
theorem Fi.at{w:World}{h g:Nat}{ns:List Nat}{m:Aj}(H:Fi w h g ns m){k j:Nat}(hj:ns[k]?=some j):w.cell? ⟨h,k,none⟩=some (.pointer (some ⟨g,j+1,none⟩))∧w.cell? ⟨g,j+1,none⟩=some (.int .i64 (Ad m j))∧j<13:=by
 have hl:=H.hn j (bH hj);refine⟨?_,?_,hl⟩
 ·rw[cell_of_row _ _ _ _ _ _ H.hh];unfold UT;rw[aL,bN,hj];rfl
 ·rw[cell_of_row _ _ _ _ _ _ H.hg,BC H.hm j hl]
theorem Fi.below{w w':World}{h g:Nat}{ns:List Nat}{m:Aj}(H:Fi w h g ns m)(hb:Below w.heap.size w w'):Fi w' h g ns m:=
 ⟨(hb.block _ (gS H.hg)).trans H.hg,(hb.block _ (gS H.hh)).trans H.hh,H.hm,H.hn⟩
theorem Fi.alloc{w:World}{h g:Nat}{ns:List Nat}{m:Aj}(H:Fi w h g ns m)(o:Obj):Fi (w.alloc o) h g ns m:=H.below ((aI _ _).alloc (aB _) _)
theorem Hm(w:World)(h g n:Nat)(c d:Bool)(k:Nat):(w.alloc (.cells (Cc h g n c d) 118)).cell? ⟨w.heap.size,k,none⟩=(Cc h g n c d)[k]?:=
 cell_of_row _ _ _ _ _ _ (Ac _ _ _ rfl)
theorem Bf{P:Program}{ops:Array Oper}{Q:Exit→Act→World→Prop}{o:Oper}{rest:List Oper}{a:Act}{w:World}(ty:TypeId)(x:Operand)(_:o.op=.load ty x)(h:wpList P ops Q (o::rest) a w):wpList P ops Q (o::rest) a w:=h
theorem Da{P:Program}{ops:Array Oper}{Q:Exit→Act→World→Prop}{o:Oper}{rest:List Oper}{a:Act}{w:World}(ty:TypeId)(x y:Operand)(_:o.op=.store ty x y)(h:wpList P ops Q (o::rest) a w):wpList P ops Q (o::rest) a w:=h
theorem BP{P:Program}{ops:Array Oper}{Q:Exit→Act→World→Prop}{o:Oper}{rest:List Oper}{a:Act}{w:World}(ty:TypeId)(ps:Array (Nat×Operand))(_:o.op=.build ty ps)(h:wpList P ops Q (o::rest) a w):wpList P ops Q (o::rest) a w:=h
theorem Vo(h g:Nat)(ns:List Nat)(c d:Bool)(m:Aj)(w:World)(H:Fi w h g ns m)(hl:ns.length≤7):
  Calls aA 123 #[.agg (Cc h g ns.length c d)] w fun e w'=>e=.returned (.bool (DQ m ns c))∧Below w.heap.size w w':=by
 obtain⟨n,hn⟩:=eX ns.length;have HN:Hid _:=hn;rw[←hn] at hl ⊢;clear hn;obtain⟨w1,hw1⟩:=eX (w.alloc (.cells (Cc h g n c d) 118));have HI:Hid (Fi w1 h g ns m):=by rw[hw1];exact H.alloc _
 have HB:Hid (Below w.heap.size w w1):=by rw[hw1];exact(aI _ _).alloc (aB _) _
 have c0:w1.cell? ⟨w.heap.size,0,none⟩=some (.slice (some ⟨h,0,none⟩) n n):=by rw[hw1,Hm];rfl
 have c1:w1.cell? ⟨w.heap.size,1,none⟩=some (Md g c):=by rw[hw1,Hm];rfl
 have CQ:Hid (∀W,Calls aA 103 #[.agg (cv m.cube.1 m.cube.2)] W fun e w'=>e=.returned (.bool (EJ m))∧Below W.heap.size W w'):=NW _ _ H.hm.2.1 H.hm.2.2.1;rw[hw1] at c0 c1;go_enter Tryz.func123,Tryz.ntmps123;go_wp2_with fail;rw[←hw1] at c0 c1 ⊢;clear hw1;go_loop [8] (fun i=> ∃k:Nat,k≤n∧i=.int .i64 k∧J1 m (ns.take k)=true) (fun i=>n-(intOf i).toNat)
 case atStart=>exact⟨0,Nat.zero_le _,rfl,rfl⟩
 case round=>
  obtain⟨k,hk,rfl,ha⟩:=hrel;have HA:Hid _:=ha;clear ha;by_cases hlt:k<n
  ·obtain⟨j,hj⟩:∃j,ns[k]?=some j:=⟨_,aH (by rw[←HN.out];exact hlt)⟩;obtain⟨e1,e2,hj13⟩:=HI.out.at hj;have HJ:Hid _:=hj;obtain⟨x,hx⟩:=eX (Ad m j);have HX:Hid _:=hx;rw[←hx] at e2;clear hj hx;by_cases h0:x<0
   ·have HF:Hid (DQ m ns c=false):=by
     show _=_;unfold DQ;rw[SX HJ.out (by rw[←HX.out];unfold inN;simp;omega)];rfl
    go_wp2_with fail;go_ret;rw[HF.out];exact⟨rfl,HB.out⟩
   ·by_cases h1:281474976710655<x
    ·have HF:Hid (DQ m ns c=false):=by
      show _=_;unfold DQ;rw[SX HJ.out (by rw[←HX.out];unfold inN;simp;omega)];rfl
     go_wp2_with fail;go_ret;rw[HF.out];exact⟨rfl,HB.out⟩
    ·have HA2:Hid (J1 m (ns.take (k+1))=true):=X0 HJ.out HA.out (by rw[←HX.out,MS];omega);go_wp2_with fail;exact⟨⟨k+1,by omega,by go_num,HA2.out⟩,by simp[intOf];omega⟩
  ·obtain rfl:k=n:=by omega
   have HA2:Hid (DQ m ns c=(!c || EJ m)):=by
    show _=_;have:=HA.out;rw[HN.out,List.take_length] at this;unfold DQ;rw[this];rfl
   cases c with
   | false=>
    have c1':w1.cell? ⟨w.heap.size,1,none⟩=some (.pointer none):=c1;clear c1;go_wp2_with go_skip;go_ret;rw[HA2.out];exact⟨rfl,HB.out⟩
   | true=>
    have c1':w1.cell? ⟨w.heap.size,1,none⟩=some (.pointer (some ⟨g,14,none⟩)):=c1;clear c1;have hgm:=HI.out.hg;have hmm:=HI.out.hm;go_wp2_with (first | go_skip|((with_reducible refine Bf 25 _ rfl ?_);refine Bc Ds rfl _ rfl g 14 rfl _ _ _ (cv m.cube.1 m.cube.2) (AO _ _ hmm.2.1.1 hmm.2.2.1.1) hgm (Hz hmm) ?_));refine(CQ.out _).mono ?_;rintro e w2 ⟨rfl,hb2⟩;have HB2:Hid _:=HB.out.trans (hb2.mono HB.out.size);clear hb2;go_wp2_with fail;go_ret;rw[HA2.out];exact⟨rfl,HB2.out⟩
end
end Go.Proofs.YtbhkoipcpcoooabGreat
