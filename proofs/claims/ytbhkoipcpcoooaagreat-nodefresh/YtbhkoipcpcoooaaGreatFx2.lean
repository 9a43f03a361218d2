import Derived.Test.YtbhkoipcpcoooaaGreatJ25
import Derived.Test.YtbhkoipcpcoooaaGreatJ15
import Derived.Test.YtbhkoipcpcoooaaGreatJ13
import Derived.Test.YtbhkoipcpcoooaaGreatJ12
import Derived.Test.YtbhkoipcpcoooaaGreatJ1
import Derived.Test.YtbhkoipcpcoooaaGreatProg
import Derived.WalkKit
import Derived.WalkSpells
import Derived.WalkLawsBesides
import Derived.BigQuiet
import Derived.KernelRfl
import Derived.Laws.StructEq
import Derived.Laws.Tables
import Derived.Laws.Rows
import Derived.Test.YtbhkoipcpcoooaaGreatJ2
import Derived.Lib.UnsafeStr
import Derived.Laws.AppendOwn
import Derived.Laws.OwnMore
import Derived.Laws.AppendOwnNone
import Derived.Laws.BytesArg
import Derived.Maps.AppendAt
import Derived.Laws.Bits64b
import Derived.Great.BuildSlice
import Derived.StillTailTactics
import Derived.StillTail
import Derived.Test.YtbhkoipcpcoooaaGreatJ3
import Derived.OrdersHeld
import Derived.Test.YtbhkoipcpcoooaaGreatJ4
import Derived.Laws.CopyRow
import Derived.Lib.BitFns
import Derived.WalkMore
import Derived.Laws.CopyOwn
import Derived.Test.YtbhkoipcpcoooaaGreatFx1
import Derived.Test.YtbhkoipcpcoooaaGreatJ24
import Derived.Test.YtbhkoipcpcoooaaGreatJ9
import Derived.Test.YtbhkoipcpcoooaaGreatJ23
import Derived.Test.YtbhkoipcpcoooaaGreatJ22
import Derived.Test.YtbhkoipcpcoooaaGreatJ20
import Derived.Test.YtbhkoipcpcoooaaGreatJ19
import Derived.Test.YtbhkoipcpcoooaaGreatJ18
import Derived.Test.YtbhkoipcpcoooaaGreatJ17
import Derived.Test.YtbhkoipcpcoooaaGreatJ16
import Derived.Test.YtbhkoipcpcoooaaGreatJ11
import Derived.Sort.LotA
import Derived.Lib.Bytealg
import Derived.Lib.BufferWrite
import Derived.Laws.MakeOwn
import Derived.OwnWalk
import Derived.Test.YtbhkoipcpcoooaaGreatJ7
import Derived.Test.YtbhkoipcpcoooaaGreatJ6
import Derived.Test.YtbhkoipcpcoooaaGreatJ5
import Derived.Deep.QuietTactic
import Derived.Lib.Hide
import Derived.Lib.Walk
import Derived.Shelf.SlSortCmp.KitK
import Derived.Deep.LoopGhost
import Derived.Deep.CutRange
import Derived.Great.Walk
import Derived.Laws.Cover3
import Derived.Test.YtbhkoipcpcoooaaGreatJ8
import Derived.Test.YtbhkoipcpcoooaaGreatJ10
import Derived.BigRegion
import Derived.Deep.RegionLaw
import Derived.Shelf.RegionOpenPlain
import Derived.Test.YtbhkoipcpcoooaaGreatJ14
import Derived.Test.YtbhkoipcpcoooaaGreatRows
import Derived.ProofKit
import Derived.OpenShut
import Derived.Carry
import Derived.Deep.Slices
import Derived.SizedLaws
import Derived.Test.YtbhkoipcpcoooaaGreatJ21
import Derived.Test.YtbhkoipcpcoooaaGreatJ26
namespace Go.Proofs.YtbhkoipcpcoooaaGreat
set_option maxRecDepth 20000
set_option maxHeartbeats 64000000
open Go
open Go.Proofs.Tryz renaming prog → aA, ntmps30 → aV, func30 → aX, ntmps68 → bA, func68 → bF
open _root_.Nat renaming le_refl → aB
open _root_.Array renaming getElem?_eq_some_iff → aC
open _root_.List renaming length_take → aD, set_append_right → aG, getD_eq_getElem?_getD → aH, length_append → aI, getElem?_take_of_lt → aJ, getElem?_eq_getElem → aK, take_of_length_le → aL, length_drop → aM, length_map → aN, getElem?_drop → aO, setIfInBounds_toArray → aP, getElem?_eq_some_iff → aR, drop_eq_getElem_cons → aT, drop_length → aW, length_filter_le → aY, set_cons_zero → bB, set_cons_succ → bC, take_add_one → bD, map_append → bH, drop_drop → bI
section
open Go.RowKit
def Ig(B:List UInt8)(k:Nat):List Int:=nI (B.take k)++List.replicate (13-k) 0
theorem Xe(B:List UInt8)(k:Nat)(hB:B.length=13)(hk:k≤13):(Ig B k).length=13:=by
 unfold Ig;rw[aI,KT,aD,List.length_replicate];omega
theorem U9(B:List UInt8):Ig B 0=Z:=by rw[JR];rfl
theorem Xf(B:List UInt8)(hB:B.length=13):Ig B 13=nI B:=by
 unfold Ig;rw[aL (by omega)];simp
theorem Va(B:List UInt8)(k:Nat)(c:UInt8)(hk:k<13)(hB:B.length=13)(h:B[k]?=some c):Ig B (k+1)=(Ig B k).set k (c.toNat:Int):=by
 unfold Ig;have hl:(nI (B.take k)).length=k:=by rw[KT,aD];omega
 rw[aG _ _ (by omega),hl,Nat.sub_self,bD,h];obtain⟨m,hm⟩:∃m,13-k=m+1:=⟨13-k-1,by omega⟩;rw[hm,show 13-(k+1)=m by omega];simp[List.replicate_succ,nI]
theorem VR(v:Value)(L:List UInt8)(p:Int)(w:World)(hL:Br w v L):
  Calls aA 68 #[v,.int .i64 p] w fun e w'=>e=.returned (.tuple #[.agg (cv (Gf L p).1 (Gf L p).2.1),.int .i64 (Gf L p).2.2])∧Below w.heap.size w w':=by
 have HL:Hid (Br w v L):=hL;obtain⟨ov,cx,hv,hc1,hc2⟩:=hL.slice;subst hv;clear hL;obtain⟨n,hn⟩:=eX L.length;have HN:Hid (n=L.length):=hn;rw[←hn] at HL hc1 ⊢;clear hn;have hzl:=BO.1;have g0:=Ab w (.cells AE 37) _ rfl;have B0:Below w.heap.size w (w.alloc (.cells AE 37)):=(Below.refl _ _).alloc (aB _) _;unfold maxLen at hc2;by_cases h0:0≤p
 ·obtain⟨q,rfl⟩:∃q:Nat,p=q:=⟨p.toNat,by omega⟩;by_cases hr:q+26≤n
  ·obtain⟨BV,hBV⟩:∃B,B=(L.drop q).take 13:=⟨_,rfl⟩;obtain⟨BM,hBM⟩:∃B,B=(L.drop (q+13)).take 13:=⟨_,rfl⟩;have hVl:BV.length=13:=by rw[hBV];simp;rw[←HN.out];omega
   have hMl:BM.length=13:=by rw[hBM];simp;rw[←HN.out];omega
   have HT:Hid (Gf L q=if (nI BV==AZ (nI BV) (nI BM))=true then (nI BV,nI BM,0) else (Z,Z,12)):=by
    show _=_;unfold Gf;rw[if_pos h0,if_pos (by rw[←HN.out];omega),hBV,hBM,Int.toNat_natCast]
   have HE:Hid (∀k,k<13→BV[k]?=L[q+k]?∧BM[k]?=L[q+13+k]?):=fun k hk=>by
    rw[hBV,hBM,aJ hk,aJ hk,aO,aO];exact⟨rfl,rfl⟩
   have hVb:=JV BV hVl;have hMb:=JV BM hMl;have CQ:Hid (∀W,Calls aA 106 #[.agg (cv (nI BV) (nI BM))] W fun e w'=>e=.returned (.agg (cv (AZ (nI BV) (nI BM)) (nI BM)))∧Below W.heap.size W w'):=OQ _ _ hVb hMb;have hg:¬(n:Int)-26<q:=by omega
   clear hBV hBM hVb hMb;have k0:=Ah (w.alloc (.cells AE 37)) (.cells AE 37) _ _ g0;have k1:=Ab (w.alloc (.cells AE 37)) (.cells AE 37) (w.heap.size+1) (by simp);have B1:=B0.alloc B0.size (.cells AE 37);go_enter bF,bA
   go_wp2_with (first
    | (refine Hr rfl rfl ?_)
    | (refine BQ rfl _ _ rfl (w.heap.size+1) Z Z rfl rfl _ k1 rfl hzl hzl _ rfl ?_))
   have j0:((w.alloc (.cells AE 37)).alloc (.cells AE 37)).setRow (w.heap.size+1) (cv Z Z) |>.heap[w.heap.size]? |>(· =some (.cells AE 37 (0,0))):=(setRow_other _ _ _ _ (by omega)).trans k0;have j1:=setRow_heap _ (w.heap.size+1) _ (cv Z Z) _ _ k1;have B2:=Aj B1 (show w.heap.size≤w.heap.size+1 by omega) (cv Z Z);go_loopw [7] (fun i W=> ∃k:Nat,k≤13∧i=.int .i64 k∧W.heap[w.heap.size]?=some (.cells AE 37 (0,0))∧W.heap[w.heap.size+1]?=some (.cells (cv (Ig BV k) (Ig BM k)) 37 (0,0))∧Below w.heap.size w W) (fun i _=>13-(intOf i).toNat)
   case atStart=>exact⟨0,by omega,rfl,j0,by rw[U9,U9];exact j1,B2⟩
   case round=>
    clear j0 j1 B2 k0 k1 B1 g0 B0;obtain⟨k,hk,rfl,k0,k1,hb⟩:=hrel;have lV:=Xe BV k hVl hk;have lM:=Xe BM k hMl hk;by_cases hlt:k<13
    ·obtain⟨g,off,c1,rfl,hc1,hL1⟩:=(HL.out.below hb).at (q+k) (by omega);have hb2:Below w.heap.size w (wr.setCell ⟨w.heap.size+1,k,none⟩ (.int .u8 (c1.toNat:Int))):=hb.setCell (by simp) _;obtain⟨g',off',c2,e,hc3,hL2⟩:=(HL.out.below hb2).at (q+13+k) (by omega);simp only[Option.some.injEq,Addr.mk.injEq,and_true] at e;obtain⟨rfl,rfl⟩:=e;have HV:Hid (Ig BV (k+1)=(Ig BV k).set k (c1.toNat:Int)):=Va BV k c1 hlt hVl ((HE.out k hlt).1.trans hL1);have HM:Hid (Ig BM (k+1)=(Ig BM k).set k (c2.toNat:Int)):=Va BM k c2 hlt hMl ((HE.out k hlt).2.trans hL2);have cV:wr.cell? ⟨w.heap.size+1,k,none⟩=some (.int .u8 ((Ig BV k).getD k 0)):=by rw[cell_of_row wr _ _ _ _ _ k1];exact Lb _ _ lV k hlt
     have fV:wr.frozen? ⟨w.heap.size+1,k,none⟩=false:=frozen_of_row wr _ _ _ _ k1
     have k2:(wr.setCell ⟨w.heap.size+1,k,none⟩ (.int .u8 (c1.toNat:Int))).heap[w.heap.size+1]?=some (.cells (cv ((Ig BV k).set k (c1.toNat:Int)) (Ig BM k)) 37 (0,0)):=by
      rw[←Ps _ _ lV k hlt];exact heap_setCell_same wr _ _ _ _ _ k1
     have z2:(wr.setCell ⟨w.heap.size+1,k,none⟩ (.int .u8 (c1.toNat:Int))).heap[w.heap.size]?=some (.cells AE 37 (0,0)):=(heap_setCell_other wr ⟨w.heap.size+1,k,none⟩ w.heap.size _ (by simp)).trans k0;have lV2:((Ig BV k).set k (c1.toNat:Int)).length=13:=by rw[List.length_set];exact lV
     have cM:wr.cell? ⟨w.heap.size+1,13+k,none⟩=some (.int .u8 ((Ig BM k).getD k 0)):=by rw[cell_of_row wr _ _ _ _ _ k1];exact G8 _ _ lV lM k hlt
     have fM:wr.frozen? ⟨w.heap.size+1,13+k,none⟩=false:=frozen_of_row wr _ _ _ _ k1;have cM2:(wr.setCell ⟨w.heap.size+1,k,none⟩ (.int .u8 (c1.toNat:Int))).cell? ⟨w.heap.size+1,13+k,none⟩=some (.int .u8 ((Ig BM k).getD k 0)):=by rw[cell_of_row _ _ _ _ _ _ k2];exact G8 _ _ lV2 lM k hlt
     have fM2:(wr.setCell ⟨w.heap.size+1,k,none⟩ (.int .u8 (c1.toNat:Int))).frozen? ⟨w.heap.size+1,13+k,none⟩=false:=frozen_of_row _ _ _ _ _ k2;go_wp2_with fail;refine⟨⟨k+1,by omega,by go_num,?_,?_,?_⟩,by simp[intOf];omega⟩
     ·exact(heap_setCell_other _ ⟨w.heap.size+1,13+k,none⟩ w.heap.size _ (by simp)).trans z2
     ·rw[HV.out,HM.out, ←Rp _ _ lV2 k];exact heap_setCell_same _ _ _ _ _ _ k2
     ·exact hb2.setCell (by simp) _
    ·obtain rfl:k=13:=by omega
     rw[Xf BV hVl,Xf BM hMl] at k1;have lV1:(nI BV).length=13:=by rw[KT,hVl]
     have lM1:(nI BM).length=13:=by rw[KT,hMl]
     obtain⟨V,hV⟩:=eX (nI BV);obtain⟨M,hM⟩:=eX (nI BM);rw[←hV] at k1 CQ HT lV1;rw[←hM] at k1 CQ HT lM1;clear hV hM lV lM HE HL;have hCl:=(D7 V M).1
     have eC:∀w,(Op.equalIn 10000 37 (.agg (cv (AZ V M) M)) (.agg (cv V M))).run aA w=.ok (V==AZ V M) w:=fun w=>by
      rw[eqC (AZ V M) M V M hCl lM1 lV1 lM1];congr 1;rw[beq_self_eq_true,Bool.and_true,Bool.eq_iff_iff,beq_iff_eq,beq_iff_eq];exact⟨fun h=>h.symm,fun h=>h.symm⟩
     have eg:∀op x y (xs ys:Array Value) w,(eqGuard op 37 x y (.agg xs) (.agg ys)).run aA w=.ok () w:=egC;go_wp2_with fail;have ne1:=Am.ne wr;have hsz:=(gS k1);refine rL ?_;refine SO rfl _ rfl (w.heap.size+1) rfl V M k1 lV1 lM1 ?_;simp only[pU];go_big_quiet_want;go_big_quiet_op;refine⟨_,fun u=>Calls.later_of (CQ.out u.world),?_⟩;go_big_quiet_on;refine SO rfl _ rfl (w.heap.size+1) rfl V M k1 lV1 lM1 ?_;simp only[pU]
     repeat go_big_quiet_step (fail)
     refine wpQuiet_nil ?_;rintro w4 ⟨u,hu⟩;have m0:w4.heap[w.heap.size]?=some (.cells AE 37 (0,0)):=by rw[hu,u.below.block _ (by omega)];exact k0
     have m1:w4.heap[w.heap.size+1]?=some (.cells (cv V M) 37 (0,0)):=by rw[hu,u.below.block _ hsz];exact k1
     have B4:Below w.heap.size w w4:=by rw[hu];exact hb.trans (u.below.mono hb.size)
     clear hu u k0 k1 hb eC eg;by_cases hq:(V==AZ V M)=true
     ·rw[if_pos hq] at HT;obtain⟨b,hb⟩:=eX ((V==AZ V M));rw[←hb] at hq ⊢;subst hq;clear hb
      go_wp2_with (first
       | (refine De rfl _ rfl (w.heap.size+1) rfl V M m1 lV1 lM1 ?_)
       | (refine BQ rfl _ _ rfl w.heap.size V M rfl rfl _ m0 rfl lV1 lM1 _ rfl ?_))
      refine J0 (p:=4) (u:=5) rfl rfl w.heap.size rfl V M lV1 lM1 (setRow_heap _ _ _ _ _ _ m0) _ rfl ⟨?_,Aj B4 (aB _) _⟩;rw[HT.out];rfl
     ·rw[if_neg hq] at HT;have hq':(V==AZ V M)=false:=by simpa using hq
      obtain⟨b,hb⟩:=eX ((V==AZ V M));rw[←hb] at hq' ⊢;subst hq';clear hb hq
      go_wp2_with (first
       | (refine Hr rfl rfl ?_)
       | (refine BQ rfl _ _ rfl w.heap.size Z Z rfl rfl _ m0 rfl hzl hzl _ rfl ?_))
      refine J0 (p:=4) (u:=5) rfl rfl w.heap.size rfl Z Z hzl hzl (setRow_heap _ _ _ _ _ _ m0) _ rfl ⟨?_,Aj B4 (aB _) _⟩;rw[HT.out];rfl
  ·have HT:Hid (Gf L q=(Z,Z,12)):=by show _=_;unfold Gf;rw[if_pos h0,if_neg (by rw[←HN.out];omega)]
   have hg:(n:Int)-26<q:=by omega
   go_enter bF,bA
   go_wp2_with (first
    | (refine Hr rfl rfl ?_)
    | (refine BQ rfl _ _ rfl w.heap.size Z Z rfl rfl _ g0 rfl hzl hzl _ rfl ?_))
   refine J0 (p:=4) (u:=5) rfl rfl w.heap.size rfl Z Z hzl hzl (setRow_heap _ _ _ _ _ _ g0) _ rfl ⟨?_,Aj B0 (aB _) _⟩;rw[HT.out];rfl
 ·have HT:Hid (Gf L p=(Z,Z,1)):=by show _=_;unfold Gf;rw[if_neg h0]
  have hp0:p<0:=by omega
  go_enter bF,bA
  go_wp2_with (first
   | (refine Hr rfl rfl ?_)
   | (refine BQ rfl _ _ rfl w.heap.size Z Z rfl rfl _ g0 rfl hzl hzl _ rfl ?_))
  refine J0 (p:=4) (u:=5) rfl rfl w.heap.size rfl Z Z hzl hzl (setRow_heap _ _ _ _ _ _ g0) _ rfl ⟨?_,Aj B0 (aB _) _⟩;rw[HT.out];rfl
end
section
open Go.Lib Go.RowKit
theorem Ajp{L:List UInt8}{p:Nat}{m:An}(h:L.length=p+26):Iq [13] (L.drop p) m=if (Gf L (p:Int)).2.2=0 then some (EG m (Gf L (p:Int)).1 (Gf L (p:Int)).2.1) else none:=by
 rw[Wr h];have hl2:(L.drop p).length=26:=by rw[aM,h];omega
 rw[Iq];have e:(L.drop p).take (Cm 13)=L.drop p:=aL (by rw[hl2];decide);rw[e]
 have e2:GV m 13 (L.drop p)=EG m (nI ((L.drop p).take 13)) (nI (L.drop (p+13))):=by
  unfold GV EG;rw[if_pos rfl,bI]
 rw[e2];have e3:F7 (EG m (nI ((L.drop p).take 13)) (nI (L.drop (p+13))))=(nI ((L.drop p).take 13)==AZ (nI ((L.drop p).take 13)) (nI (L.drop (p+13)))):=rfl;rw[e3]
 cases (nI ((L.drop p).take 13)==AZ (nI ((L.drop p).take 13)) (nI (L.drop (p+13))))
 ·simp
 ·simp[Iq]
theorem Vy(k:Int){p:Nat}(h:(AQ k)[p]?=some 13):p+1=(AQ k).length:=by
 have hp:p<8:=Nat.lt_of_lt_of_le (aR.1 h).1 (MF k)
 have key:∀p:Fin 8,(AQ k)[p.1]?=some 13→p.1+1=(AQ k).length:=
  Hi (P:=fun l=> ∀p:Fin 8,l[p.1]?=some 13→p.1+1=l.length) (by decide) (by decide) (by decide) (by decide) (by decide) (by decide) (by decide) (by decide) k
 exact key ⟨p,hp⟩ h
theorem Vt{l:List Nat}{p j:Nat}(h:l[p]?=some j):l.drop p=j::l.drop (p+1):=by
 obtain⟨hp,e⟩:=aR.1 h;rw[aT hp,e]
theorem Ajo{j:Nat}{l:List Nat}{bs:List UInt8}{m:An}(hj:j≠13):Iq (j::l) bs m=Iq l (bs.drop (Cm j)) (GV m j (bs.take (Cm j))):=by
 rw[Iq,decide_eq_false hj];rfl
def GX(B:List UInt8)(H:List Int)(q:Nat):List Int:=nI (B.take q)++H.drop q
theorem Afh(B:List UInt8)(H:List Int):GX B H 0=H:=by unfold GX;simp[nI]
theorem Aj2(B:List UInt8)(H:List Int)(hB:B.length=13)(hH:H.length=13):GX B H 13=nI B:=by
 unfold GX;rw[aL (by omega),List.drop_of_length_le (by omega),List.append_nil]
theorem Afi{B:List UInt8}{H:List Int}(hB:B.length=13)(hH:H.length=13){q:Nat}(hq:q<13){c:UInt8}(hc:B[q]?=some c):(GX B H q).set q (c.toNat:Int)=GX B H (q+1):=by
 unfold GX;have hl:(nI (B.take q)).length=q:=by rw[KT,aD];omega
 rw[aG _ _ (by omega),hl,Nat.sub_self,bD,hc];have e:H.drop q=H[q]::H.drop (q+1):=aT (by omega);rw[e,bB];unfold nI;rw[bH,List.append_assoc];rfl
theorem Xg{B:List UInt8}{H:List Int}(hB:B.length=13)(hH:AK H){q:Nat}(hq:q≤13):AK (GX B H q):=by
 have hl:(GX B H q).length=13:=by unfold GX;rw[aI,KT,aD,aM,hH.1];omega
 refine⟨hl,fun k=> ?_⟩;by_cases hk:k<13
 ·have h1:(GX B H q).getD k 0∈GX B H q:=by
   rw[aH,aK (by omega)];exact List.getElem_mem _
  obtain⟨x,hx⟩:=eX ((GX B H q).getD k 0);rw[←hx] at h1 ⊢;unfold GX at h1;rcases List.mem_append.1 h1 with h | h
  ·unfold nI at h;obtain⟨c,_,hc⟩:=List.mem_map.1 h;have:=c.toNat_lt;rw[←hc];omega
  ·have h2:=List.mem_of_mem_drop h;obtain⟨i,hi,e⟩:=List.getElem_of_mem h2;have:=hH.2 i;rw[aH,aK hi] at this;rw[←e];exact this
 ·rw[aH,List.getElem?_eq_none (by omega)];decide
theorem Ail{m:An}(h:BB m)(q:Nat)(hq:q<13)(x:Int):(Ae m).setIfInBounds (40+q) (.int .u8 x)=Ae (GA m (m.head.set q x)):=by
 unfold Ae Ns GA;rw[aP,show 40+q=(39+q)+1 by omega,bC,aG _ _ (by rw[aN,h.1];omega),aN,h.1,show 39+q-13=26+q by omega,aG _ _ (by rw[aN,aI,h.2.1.1,h.2.2.1.1];omega),aN,aI,h.2.1.1,h.2.2.1.1,Nat.add_sub_cancel_left,List.map_set]
theorem Any(x:Nat)(hx:x<9223372036854775808)(w:World):(convert 127 3 (.int .u64 (x:Int))).run aA w=.ok (.int .i64 (x:Int)) w:=by
 simp[convert,run_underlying Tryz.underlying3,run_underlying Tryz.underlying127,go_sem];rw[IntKind.wrap_i64];omega
def We(k:Int)(body:List UInt8)(p q:Nat)(mp:An)(ec:Int):Prop:=
 (ec=0∧Iq (AQ k) body (Bk k)=Iq ((AQ k).drop p) (body.drop q) mp)∨(ec≠0∧p=(AQ k).length∧Iq (AQ k) body (Bk k)=none)
structure Z8(w:World)(k:Int)(body:List UInt8)(g p:Nat)(vb:Value)(q:Nat)(ec:Int)(W:World):Prop where
 mem:∃mp,BB mp∧W.heap[g]?=some (.cells (Ae mp) 39 (0,0))∧We k body p q mp ec
 out:W.heap[w.heap.size]?=some (.cells Ao 39 (0,0))
 bod:Br W vb body
 bel:Below w.heap.size w W
 sum:q=(((AQ k).take p).map Cm).sum
theorem Alv{k:Int}{p j:Nat}(hj:(AQ k)[p]?=some j):(((AQ k).take p).map Cm).sum+Cm j≤Hc k:=by
 rw[←MR hj];unfold Hc
 conv=>rhs;rw[←List.take_append_drop (p+1) (AQ k)]
 rw[bH,List.sum_append];omega
theorem Api{L:List UInt8}{k:Nat}{body:List UInt8}(ho:H5 L=some (k,body))(hk:AQ (k:Int)≠[])(hl:body.length=Hc (k:Int)):DQ L=Iq (AQ (k:Int)) body (Bk (k:Int)):=by
 rw[XQ ho hk];unfold H6;rw[←SD,if_pos hl, ←Qr]
theorem Anx{L:List UInt8}{k:Nat}{body:List UInt8}(ho:H5 L=some (k,body))(hl:body.length≠Hc (k:Int)):DQ L=none:=by
 unfold DQ;rw[ho];dsimp only;rw[if_pos (by simp[hl])]
theorem Z8.step{w:World}{k:Int}{body:List UInt8}{g p:Nat}{vb:Value}{q:Nat}{W W':World}(h:Z8 w k body g p vb q 0 W){j:Nat}(hj:(AQ k)[p]?=some j)(hne:j≠13)(hg:w.heap.size≤g)(hv:vb.ownBlock≠some g)(hw:w.heap.size≠g)
  (hgr:W.grownBy W' (some g)) (hs:w.heap.size≤W.heap.size) {mp:An} (hm:BB (GV mp j ((body.drop q).take (Cm j)))) (hl:We k body p q mp 0) (hmem:W'.heap[g]?=some (.cells (Ae (GV mp j ((body.drop q).take (Cm j)))) 39 (0,0))):Z8 w k body g (p+1) vb (q+Cm j) 0 W':=by
 refine⟨⟨_,hm,hmem,?_⟩,?_,h.bod.grown hgr (fun y hy e=>hv (hy.trans e.symm)),Ma h.bel hgr hg hs,?_⟩
 ·rcases hl with ⟨_,hl⟩ | ⟨hl,_⟩
  ·refine .inl ⟨rfl,?_⟩;rw[hl,Vt hj,Ajo hne,bI]
  ·exact absurd rfl hl
 ·exact(hgr.block _ (gS h.out) (fun e=>hw (Option.some.inj e))).trans h.out
 ·rw[h.sum,MR hj]
theorem SM(v:Value)(L:List UInt8)(w:World)(hL:Br w v L)(hl:L.length≤140737488355328):Calls aA 30 #[v] w fun e w'=>Yq L w e w':=by
 have HL:Hid (Br w v L):=hL;obtain⟨ov,nv,cx,rfl⟩:∃o n c,v=.slice o n c:=by obtain⟨o,c,h,_⟩:=hL.slice;exact⟨o,_,c,h⟩
 clear hL;obtain⟨w1,hw1⟩:∃w1,w1=w.alloc (.cells Ao 39):=⟨_,rfl⟩;have g1:w1.heap[w.heap.size]?=some (.cells Ao 39 (0,0)):=by rw[hw1];exact Ab _ _ _ rfl
 have B1:Below w.heap.size w w1:=by rw[hw1];exact(Below.refl _ _).alloc (aB _) _
 have hs1:=(aC.1 g1).1;have CO:Hid (Calls aA 65 #[.slice ov nv cx] w1 fun e w'=> ∃u,e=.returned (.tuple #[.int .i64 (DE L).1,u,.int .i64 (DE L).2.2])∧AB w1.heap.size w' u (DE L).2.1∧Below w1.heap.size w1 w'):=Ae9 _ L w1 (HL.out.below B1) hl;clear hl HL;by_cases he:(DE L).2.2=0
 ·obtain⟨k,body,ho,hT⟩:=SU he;rw[hT] at CO;clear he hT;have CF:Hid (∀W,Calls aA 66 #[.int .i64 (k:Int)] W fun e w'=>e=.returned (.string (DI (k:Int)))∧w'=W):=fun W=>IOx (k:Int) W;have CZ:Hid (∀W,Calls aA 67 #[.int .i64 (k:Int)] W fun e w'=>e=.returned (.int .i64 ((Hc (k:Int):Nat):Int))∧w'=W):=fun W=>YE (k:Int) W;have HIX:Hid (∀(i j:Nat),(AQ (k:Int))[i]?=some j→∀W,(Instr.index 9 (.string (DI (k:Int))) (.int .i64 (i:Int))).run aA W=.ok (.int .u8 ((DY j:Nat):Int)) W):=fun i j h W=>Abc h W;by_cases hk:AQ (k:Int)=[]
  ·have HD:Hid (GG L=(Bk 0,12)):=Hj (XP ho hk);have hse:(DI (k:Int)).toList.isEmpty=true:=by rw[ByteArray.toList_eq,(Np _).2 hk];rfl
   obtain⟨s,hs⟩:∃s,s=DI (k:Int):=⟨_,rfl⟩;rw[←hs] at CF hse;clear hs ho hk CZ HIX;go_enter aX,aV;go_wp2_with fail;rw[←hw1];clear hw1;refine CO.out.mono ?_;rintro e w2 ⟨u,rfl,hO,hb2⟩;have g2:w2.heap[w.heap.size]?=some (.cells Ao 39 (0,0)):=(hb2.block _ hs1).trans g1;have B2:Below w.heap.size w w2:=B1.trans (hb2.mono B1.size);clear hO hb2 g1 B1
   go_wp2_with (first
    | go_skip
    | (go_at_call 66;refine(CF.out _).mono ?_;rintro e w3 ⟨rfl,hw3⟩;obtain rfl:=hw3.symm)
    | ((with_reducible refine Cy 39 _ rfl ?_);refine Iw rfl rfl ?_)
    | ((with_reducible refine Bu 39 _ _ rfl ?_);refine BP BD rfl _ _ rfl w.heap.size (Ae (Bk 0)) (CY (Du 0)) rfl rfl _ g2 rfl _ rfl ?_))
   refine GE BD (p:=2) (u:=3) rfl rfl w.heap.size rfl (Ae (Bk 0)) (BG (Du 0)) (setRow_heap _ _ _ _ _ _ g2) _ rfl ⟨?_,Aj B2 (aB _) _⟩;rw[HD.out];rfl
  ·have hse:(DI (k:Int)).toList.isEmpty=false:=by
    rw[ByteArray.toList_eq]
    cases e:(DI (k:Int)).data.toList with
    | nil=>exact absurd ((Np _).1 e) hk
    | cons a l=>rfl
   obtain⟨s,hs⟩:∃s,s=DI (k:Int):=⟨_,rfl⟩;obtain⟨n,hn⟩:∃n,n=(AQ (k:Int)).length:=⟨_,rfl⟩;have HN:Hid (n=(AQ (k:Int)).length):=hn;have hsz:s.size=n:=by rw[hs,hn,LM]
   have hn8:n≤8:=by rw[hn];exact MF _
   obtain⟨sz,hsk⟩:∃sz,sz=Hc (k:Int):=⟨_,rfl⟩;have HSK:Hid (sz=Hc (k:Int)):=hsk;have hsz8:sz≤68:=by rw[hsk];exact TY _
   rw[←hs] at CF hse HIX;rw[←hsk] at CZ;clear hs hn;by_cases hlen:body.length=sz
   ·have HDG:Hid (DQ L=Iq (AQ (k:Int)) body (Bk (k:Int))):=Api ho hk (by rw[←hsk];exact hlen);have hq2:(((body.length:Nat):Int) !=(sz:Int))=false:=by simp;omega
    have hq1:(((body.length:Nat):Int)==(sz:Int))=true:=by simp;omega
    obtain⟨nb,hnb⟩:∃nb,nb=body.length:=⟨_,rfl⟩;rw[←hnb] at hq1 hq2;have HNB:Hid (nb=body.length):=hnb;have HNS:Hid (nb=Hc (k:Int)):=by show _=_;rw[hnb,hlen,hsk]
    have hnb68:nb≤68:=by rw[hnb,hlen];exact hsz8
    clear hnb hlen hsk ho hk;go_enter aX,aV;go_wp2_with fail;rw[←hw1];clear hw1;refine CO.out.mono ?_;rintro e w2 ⟨u,rfl,hO,hb2⟩;obtain⟨ou,cu,hu,hc1,hc2⟩:=hO.sl.slice;rw[←HNB.out] at hu hc1;subst hu;unfold maxLen at hc2;have g2:w2.heap[w.heap.size]?=some (.cells Ao 39 (0,0)):=(hb2.block _ hs1).trans g1;have B2:Below w.heap.size w w2:=B1.trans (hb2.mono B1.size);have hs2:=(aC.1 g2).1;have HO:Hid (AB w1.heap.size w2 (.slice ou nb cu) body):=hO;clear hO hb2 g1 B1;have n0:=Ab w2 (.cells Ao 39) _ rfl;have n1:=setRow_heap _ _ _ (Ae (Bk (k:Int))) _ _ n0;have g3:((w2.alloc (.cells Ao 39)).setRow w2.heap.size (Ae (Bk (k:Int)))).heap[w.heap.size]?=some (.cells Ao 39 (0,0)):=(setRow_other _ _ _ _ (by omega)).trans (Ah _ _ _ _ g2);have Bx:Below w2.heap.size w2 ((w2.alloc (.cells Ao 39)).setRow w2.heap.size (Ae (Bk (k:Int)))):=Aj ((Below.refl _ _).alloc (aB _) _) (aB _) _
    have HST:Hid (Z8 w (k:Int) body w2.heap.size 0 (.slice ou nb cu) 0 0 ((w2.alloc (.cells Ao 39)).setRow w2.heap.size (Ae (Bk (k:Int))))):=
     ⟨⟨_,Du _,n1,.inl ⟨rfl,rfl⟩⟩,g3,HO.out.sl.below Bx,B2.trans (Bx.mono B2.size),rfl⟩
    have HOB:Hid (Value.ownBlock (.slice ou nb cu)≠some w2.heap.size):=fun e=>by have:=(HO.out.ge _ e).2;omega
    go_wp2_with (first
     | go_skip
     | (go_at_call 66;refine(CF.out _).mono ?_;rintro e w3 ⟨rfl,hw3⟩;obtain rfl:=hw3.symm)
     | (go_at_call 67;refine(CZ.out _).mono ?_;rintro e w3 ⟨rfl,hw3⟩;obtain rfl:=hw3.symm)
     | ((with_reducible refine Cy 39 _ rfl ?_);refine Nn rfl _ rfl (k:Int) rfl ?_)
     | ((with_reducible refine Bu 39 _ _ rfl ?_);refine BP BD rfl _ _ rfl w2.heap.size (Ae (Bk (k:Int))) (CY (Du (k:Int))) rfl rfl _ n0 rfl _ rfl ?_))
    obtain⟨gm,hgm⟩:∃gm,gm=w2.heap.size:=⟨_,rfl⟩;rw[←hgm] at HST HOB hs2 ⊢;clear n0 n1 g3 Bx hse hq1 hq2 g2 B2 hgm HO
    try simp only[Act.put]
    go_loopw [6,9,10] (fun e x i W=> ∃(p q:Nat) (ec:Int),p≤n∧i=.int .i64 (p:Int)∧x=.int .i64 (q:Int)∧e=.int .i64 ec∧Z8 w (k:Int) body gm p (.slice ou nb cu) q ec W) (fun _ _ i _=>n-(intOf i).toNat)
    case atStart=>exact⟨0,0,0,Nat.zero_le _,rfl,rfl,rfl,HST.out⟩
    case round=>
     clear HST;obtain⟨p,q,ec,hp,rfl,rfl,rfl,hst⟩:=hrel;have HST:Hid (Z8 w (k:Int) body gm p (.slice ou nb cu) q ec wr):=hst;obtain⟨mp,hmp,hmem,hlink⟩:=hst.mem;have hms:=BG hmp;have hso:=(aC.1 hst.out).1;have hgl:=(aC.1 hmem).1;clear hst;by_cases hlt:p<n
     ·obtain⟨j,hj⟩:∃j,(AQ (k:Int))[p]?=some j:=⟨_,aK (by rw[←HN.out];exact hlt)⟩
      have hec:ec=0:=by
       rcases hlink with ⟨h,_⟩ | ⟨_,h,_⟩
       ·exact h
       ·rw[←HN.out] at h;omega
      subst hec;have hix:=HIX.out p j hj;have HJ:Hid ((AQ (k:Int))[p]?=some j):=hj;have hj15:=MG (k:Int) j (List.mem_of_getElem? hj);have h13:(((DY j:Nat):Int)==67)=decide (j=13):=Ka (j:=13) hj15 (by decide);have h14:(((DY j:Nat):Int)==72)=decide (j=14):=Ka (j:=14) hj15 (by decide);have hfit:q+Cm j≤nb:=by rw[HNS.out,HST.out.sum];exact Alv hj
      have HLK:Hid (We (k:Int) body p q mp 0):=hlink;clear hlink hj;by_cases e13:j=13
      ·rw[decide_eq_true e13] at h13
       have HNL:Hid (nb=q+26):=by
        show _=_;have h1:=Vy (k:Int) (p:=p) (by rw[←e13];exact HJ.out);have h2:=MR HJ.out;rw[h1,List.take_length, ←HST.out.sum,e13] at h2;rw[HNS.out];exact h2
       have HPN:Hid (p+1=(AQ (k:Int)).length):=Vy (k:Int) (by rw[←e13];exact HJ.out);have hq100:q≤68:=by omega
       obtain⟨V,hV⟩:∃V,V=(Gf body (q:Int)).1:=⟨_,rfl⟩;obtain⟨M,hM⟩:∃M,M=(Gf body (q:Int)).2.1:=⟨_,rfl⟩;obtain⟨ec,hec⟩:∃ec,ec=(Gf body (q:Int)).2.2:=⟨_,rfl⟩;have hVM:=UQ (L:=body) (p:=q) (by rw[←HNB.out];exact HNL.out);rw[←hV, ←hM] at hVM;have hVl:=hVM.1.1;have hMl:=hVM.2.1
       have HLK2:Hid (We (k:Int) body (p+1) (q+26) (EG mp V M) ec):=by
        have hg:=Ajp (L:=body) (p:=q) (m:=mp) (by rw[←HNB.out];exact HNL.out);rw[←hV, ←hM, ←hec] at hg
        have hd:(AQ (k:Int)).drop p=[13]:=by
         rw[Vt HJ.out,e13,HPN.out,aW]
        rcases HLK.out with ⟨_,hl⟩ | ⟨hl,_⟩
        ·rw[hd,hg] at hl;by_cases h0:ec=0
         ·rw[if_pos h0] at hl;exact .inl ⟨h0,by rw[hl,HPN.out,aW];rfl⟩
         ·rw[if_neg h0] at hl;exact .inr ⟨h0,HPN.out,hl⟩
        ·exact absurd rfl hl
       have CT:Hid (∀W,Br W (.slice ou nb cu) body→Calls aA 68 #[.slice ou nb cu,.int .i64 (q:Int)] W fun e w'=>e=.returned (.tuple #[.agg (cv V M),.int .i64 ec])∧Below W.heap.size W w'):=fun W hW=>by
        have:=VR (.slice ou nb cu) body (q:Int) W hW;rw[←hV, ←hM, ←hec] at this;exact this
       have HSM:Hid (q+26=(((AQ (k:Int)).take (p+1)).map Cm).sum):=by show _=_;rw[MR HJ.out, ←HST.out.sum,e13];rfl
       clear hV hM hec e13 h14 hfit;go_wp2_with fail;refine(CT.out _ HST.out.bod).mono ?_;rintro e w4 ⟨rfl,hb4⟩;have hm4:w4.heap[gm]?=some (.cells (Ae mp) 39 (0,0)):=(hb4.block _ hgl).trans hmem;have HO4:Hid (w4.heap[w.heap.size]?=some (.cells Ao 39 (0,0))):=(hb4.block _ hso).trans HST.out.out;have HV4:Hid (Br w4 (.slice ou nb cu) body):=HST.out.bod.below hb4;have HB4:Hid (Below w.heap.size w w4):=HST.out.bel.trans (hb4.mono HST.out.bel.size);have hs4:=(aC.1 hm4).1;have hso4:=(aC.1 HO4.out).1;clear hb4 hmem;have n0:=Ab w4 (.cells AE 37) _ rfl;have n1:=setRow_heap _ _ _ (cv V M) _ _ n0;have By:Below w4.heap.size w4 ((w4.alloc (.cells AE 37)).setRow w4.heap.size (cv V M)):=Aj ((Below.refl _ _).alloc (aB _) _) (aB _) _;have hm5:((w4.alloc (.cells AE 37)).setRow w4.heap.size (cv V M)).heap[gm]?=some (.cells (Ae mp) 39 (0,0)):=(By.block _ hs4).trans hm4;have HO5:Hid (((w4.alloc (.cells AE 37)).setRow w4.heap.size (cv V M)).heap[w.heap.size]?=some (.cells Ao 39 (0,0))):=(By.block _ hso4).trans HO4.out;have HV5:Hid (Br ((w4.alloc (.cells AE 37)).setRow w4.heap.size (cv V M)) (.slice ou nb cu) body):=HV4.out.below By;have HB5:Hid (Below w.heap.size w ((w4.alloc (.cells AE 37)).setRow w4.heap.size (cv V M))):=HB4.out.trans (By.mono HB4.out.size)
       go_wp2_with (first
        | ((with_reducible refine Aw 37 _ rfl ?_);refine De rfl _ rfl w4.heap.size rfl V M n1 hVl hMl ?_)
        | ((with_reducible refine Bu 37 _ _ rfl ?_);refine BQ rfl _ _ rfl w4.heap.size V M rfl rfl _ n0 rfl hVl hMl _ rfl ?_)
        | ((with_reducible refine Bu 37 _ _ rfl ?_);refine Jw Es rfl _ _ rfl gm 14 rfl (cv V M) ⟨Bq _ _ hVl hMl,Ii _ _⟩ rfl _ _ hm5 (by rw[hms];decide) _ (QN hmp V M) ?_))
       try simp only[Act.put]
       go_roundw
       case rel=>
        refine⟨p+1,q+26,ec,by omega,by go_num,by go_num,rfl,⟨_,LO hmp hVM.1 hVM.2,setRow_heap _ _ _ _ _ _ hm5,HLK2.out⟩,?_,?_,?_,HSM.out⟩
        ·exact(setRow_other _ _ _ _ (by omega)).trans HO5.out
        ·exact HV5.out.grown (Hu (Ih _ _) _) (fun y hy e=>HOB.out (hy.trans e.symm))
        ·exact Aj HB5.out (by omega) _
       case measure=>simp[intOf];omega
      ·rw[decide_eq_false e13] at h13;by_cases e14:j=14
       ·rw[decide_eq_true e14] at h14;have hs14:Cm j=13:=by rw[e14];rfl
        rw[hs14] at hfit;have hq100:q≤68:=by omega
        obtain⟨B,hBd⟩:∃B,B=(body.drop q).take 13:=⟨_,rfl⟩;have hBl:B.length=13:=by rw[hBd,aD,aM, ←HNB.out];omega
        have HBA:Hid (∀r,r<13→B[r]?=body[q+r]?):=fun r hr=>by rw[hBd,aJ hr,aO]
        have HSF:Hid (GV mp j ((body.drop q).take (Cm j))=GA mp (nI B)):=by
         show _=_;rw[hs14,e14,hBd];rfl
        have HHd:Hid (AK mp.head):=hmp.2.2.2;have hhl:=hmp.2.2.2.1;obtain⟨wo,hwo⟩:∃wo:World,wo=wr:=⟨_,rfl⟩;rw[←hwo] at HST hmem hso hgl ⊢;clear hwo hBd e14;go_wp2_with fail;go_loopw [13] (fun i W=> ∃r:Nat,r≤13∧i=.int .i64 (r:Int)∧W.heap[gm]?=some (.cells (Ae (GA mp (GX B mp.head r))) 39 (0,0))∧wo.grownBy W (some gm)) (fun i _=>13-(intOf i).toNat)
        case atStart=>exact⟨0,by omega,rfl,by rw[Afh];exact hmem,Ih _ _⟩
        case round=>
         obtain⟨r,hr,rfl,hmr,hgr⟩:=hrel;have HGR:Hid (wo.grownBy wr (some gm)):=hgr;have HBO:Hid (Br wr (.slice ou nb cu) body):=HST.out.bod.grown hgr (fun y hy e=>HOB.out (hy.trans e.symm));clear hgr;have hokr:BB (GA mp (GX B mp.head r)):=QH hmp (Xg hBl HHd.out hr);by_cases hlr:r<13
         ·obtain⟨g,off,c,rfl,hc3,hLc⟩:=HBO.out.at (q+r) (by omega);have HC:Hid (B[r]?=some c):=(HBA.out r hlr).trans hLc
          have hcc:wr.cell? ⟨gm,40+r,none⟩=some (.int .u8 ((GX B mp.head r).getD r 0)):=by
           rw[cell_of_row wr _ _ _ _ _ hmr,Lr hokr r hlr];exact K5 _ (Xg hBl HHd.out hr).1 r hlr
          have hff:wr.frozen? ⟨gm,40+r,none⟩=false:=frozen_of_row wr _ _ _ _ hmr
          have HMR:Hid ((wr.setCell ⟨gm,40+r,none⟩ (.int .u8 (c.toNat:Int))).heap[gm]?=some (.cells (Ae (GA mp (GX B mp.head (r+1)))) 39 (0,0))):=by
           have h1:=Ail hokr r hlr (c.toNat:Int)
           have h2:GA (GA mp (GX B mp.head r)) ((GA mp (GX B mp.head r)).head.set r (c.toNat:Int))=GA mp (GX B mp.head (r+1)):=by
            show GA mp ((GX B mp.head r).set r (c.toNat:Int))=_;rw[Afi hBl HHd.out.1 hlr HC.out]
           rw[h2] at h1;show _=_;rw[←h1];exact heap_setCell_same _ _ _ _ _ _ hmr
          obtain⟨old,hold⟩:∃old,old=(GX B mp.head r).getD r 0:=⟨_,rfl⟩;rw[←hold] at hcc;clear hold hLc hmr;go_wp2_with fail;go_roundw
          case rel=>exact⟨r+1,by omega,by go_num,HMR.out,K8 HGR.out _ _⟩
          case measure=>simp[intOf];omega
         ·obtain rfl:r=13:=by omega
          rw[Aj2 B mp.head hBl hhl] at hmr hokr;have HM13:Hid (wr.heap[gm]?=some (.cells (Ae (GA mp (nI B))) 39 (0,0))):=hmr;clear hmr;go_wp2_with fail;go_roundw
          case rel=>
           refine⟨p+1,q+13,0,by omega,by go_num,by go_num,rfl,?_⟩;have:=HST.out.step HJ.out e13 (by omega) HOB.out (by omega) HGR.out HST.out.bel.size (mp:=mp) (by rw[HSF.out];exact hokr) HLK.out (by rw[HSF.out];exact HM13.out);rw[hs14] at this;exact this
          case measure=>simp[intOf];omega
       ·rw[decide_eq_false e14] at h14;have hj13:j<13:=by omega
        rw[LN hj13] at hfit;have hq100:q≤68:=by omega
        obtain⟨y,hy⟩:∃y:Nat,y=Dv ((body.drop q).take 6):=⟨_,rfl⟩
        have hy2:y<281474976710656:=by
         have h1:=My ((body.drop q).take 6);have h2:((body.drop q).take 6).length=6:=by rw[aD,aM, ←HNB.out];omega
         rw[h2, ←hy] at h1;omega
        have CT:Hid (∀W,Br W (.slice ou nb cu) body→Calls aA 69 #[.slice ou nb cu,.int .i64 (q:Int),.int .i64 6] W fun e w'=>e=.returned (.tuple #[.int .u64 (y:Int),.int .i64 0])∧w'=W):=fun W hW=>by
         have hqq:Fg body (q:Int) 6=(y,0):=by
          unfold Fg;rw[if_pos ⟨by decide,by omega⟩,if_pos (by rw[←HNB.out];omega),Int.toNat_natCast,hy];rfl
         have:=Ae3 (.slice ou nb cu) body (q:Int) 6 W hW;rw[hqq] at this;exact this
        have HSF:Hid (GV mp j ((body.drop q).take (Cm j))=AR mp j (y:Int)):=by show _=_;rw[LN hj13,Ww hj13,hy]
        have CSE:Hid (∀W,Calls aA 70 #[.agg (Ae mp),.int .u8 ((DY j:Nat):Int),.int .i64 (y:Int)] W fun e w'=>e=.returned (.agg (Ae (AR mp j (y:Int))))∧Below W.heap.size W w'):=fun W=>Aao mp hmp j hj13 (y:Int) W;obtain⟨lc,hlc⟩:∃lc:Int,lc=((DY j:Nat):Int):=⟨_,rfl⟩;rw[←hlc] at hix h13 h14 CSE;clear hlc hy;have ne1:=Am.ne wr;go_wp2_with fail;refine(CT.out _ HST.out.bod).mono ?_;rintro e w4 ⟨rfl,hw4⟩;obtain rfl:=hw4.symm;have hcv:=Any y (by omega);go_wp2_with fail;refine Cu 7 (by kernel_rfl) (by kernel_rfl) ?_;simp only[List.take_succ_cons,List.take_zero,List.drop_succ_cons,List.drop_zero];refine JJ BD rfl _ rfl gm 0 rfl _ _ _ (Ae mp) hms (Ap hmem) (Ar _ _) ?_;simp only[Act.put,aP,bC,bB]
        iterate 5 (go_big_quiet_step (fail))
        go_big_quiet_want;go_big_quiet_op;refine⟨_,fun u=>Calls.later_of (CSE.out u.world),?_⟩;go_big_quiet_on;refine wpQuiet_nil ?_;rintro w5 ⟨u,hu⟩;have hm5:w5.heap[gm]?=some (.cells (Ae mp) 39 (0,0)):=by rw[hu,u.below.block _ hgl];exact hmem
        have HGR:Hid (wr.grownBy (w5.setRow gm (Ae (AR mp j (y:Int)))) (some gm)):=by rw[hu];exact Hu (Gs (Ih _ _) u.below) _
        clear hu u ne1;have hmn:=EU hmp j (y:Int);go_wp2_with ((with_reducible refine Bu 39 _ _ rfl ?_);refine BP BD rfl _ _ rfl gm (Ae (AR mp j (y:Int))) (CY hmn) rfl rfl _ hm5 hms _ rfl ?_)
        try simp only[Act.put]
        go_roundw
        case rel=>
         refine⟨p+1,q+6,0,by omega,by go_num,by go_num,rfl,?_⟩;have:=HST.out.step HJ.out e13 (by omega) HOB.out (by omega) HGR.out HST.out.bel.size (mp:=mp) (by rw[HSF.out];exact hmn) HLK.out (by rw[HSF.out];exact setRow_heap _ _ _ _ _ _ hm5);rw[LN hj13] at this;exact this
        case measure=>simp[intOf];omega
     ·obtain rfl:p=n:=by omega
      have hoz:=HST.out.out;rcases hlink with ⟨rfl,hl⟩ | ⟨hne,_,hl⟩
      ·have HD:Hid (GG L=(mp,0)):=NI (by rw[HDG.out,hl,HN.out,aW];rfl);clear hl;have hBw:=HST.out.bel
       go_wp2_with (first
        | ((with_reducible refine Aw 39 _ rfl ?_);refine AH BD rfl _ rfl gm 0 rfl _ _ _ (Ae mp) hms hmem (Ar _ _) ?_)
        | ((with_reducible refine Bu 39 _ _ rfl ?_);refine BP BD rfl _ _ rfl w.heap.size (Ae mp) (CY hmp) rfl rfl _ hoz rfl _ rfl ?_))
       refine GE BD (p:=2) (u:=3) rfl rfl w.heap.size rfl (Ae mp) hms (setRow_heap _ _ _ _ _ _ hoz) _ rfl ⟨?_,Aj hBw (aB _) _⟩;rw[HD.out];rfl
      ·have HD:Hid (GG L=(Bk 0,12)):=Hj (by rw[HDG.out,hl]);clear hl;have hBw:=HST.out.bel;have he1:(ec==0)=false:=by simpa using hne
       have he2:(ec !=0)=true:=by simp[hne]
       go_wp2_with (first
        | ((with_reducible refine Cy 39 _ rfl ?_);refine Iw rfl rfl ?_)
        | ((with_reducible refine Bu 39 _ _ rfl ?_);refine BP BD rfl _ _ rfl w.heap.size (Ae (Bk 0)) (CY (Du 0)) rfl rfl _ hoz rfl _ rfl ?_))
       refine GE BD (p:=2) (u:=3) rfl rfl w.heap.size rfl (Ae (Bk 0)) (BG (Du 0)) (setRow_heap _ _ _ _ _ _ hoz) _ rfl ⟨?_,Aj hBw (aB _) _⟩;rw[HD.out];rfl
   ·have HD:Hid (GG L=(Bk 0,12)):=Hj (Anx ho (by rw[←hsk];exact hlen));have hq2:(((body.length:Nat):Int) !=(sz:Int))=true:=by simp;omega
    have hq1:(((body.length:Nat):Int)==(sz:Int))=false:=by simp;omega
    obtain⟨nb,hnb⟩:∃nb,nb=body.length:=⟨_,rfl⟩;rw[←hnb] at hq1 hq2;have HNB:Hid (nb=body.length):=hnb;clear hnb hlen hsk ho hk HIX;go_enter aX,aV;go_wp2_with fail;rw[←hw1];clear hw1;refine CO.out.mono ?_;rintro e w2 ⟨u,rfl,hO,hb2⟩;obtain⟨ou,cu,hu,hc1,hc2⟩:=hO.sl.slice;rw[←HNB.out] at hu hc1;subst hu;have g2:w2.heap[w.heap.size]?=some (.cells Ao 39 (0,0)):=(hb2.block _ hs1).trans g1;have B2:Below w.heap.size w w2:=B1.trans (hb2.mono B1.size);clear hO hb2 g1 B1
    go_wp2_with (first
     | go_skip
     | (go_at_call 66;refine(CF.out _).mono ?_;rintro e w3 ⟨rfl,hw3⟩;obtain rfl:=hw3.symm)
     | (go_at_call 67;refine(CZ.out _).mono ?_;rintro e w3 ⟨rfl,hw3⟩;obtain rfl:=hw3.symm)
     | ((with_reducible refine Cy 39 _ rfl ?_);refine Iw rfl rfl ?_)
     | ((with_reducible refine Bu 39 _ _ rfl ?_);refine BP BD rfl _ _ rfl w.heap.size (Ae (Bk 0)) (CY (Du 0)) rfl rfl _ g2 rfl _ rfl ?_))
    refine GE BD (p:=2) (u:=3) rfl rfl w.heap.size rfl (Ae (Bk 0)) (BG (Du 0)) (setRow_heap _ _ _ _ _ _ g2) _ rfl ⟨?_,Aj B2 (aB _) _⟩;rw[HD.out];rfl
 ·obtain⟨ho,h12⟩:=SV he;have HD:Hid (GG L=(Bk 0,12)):=Hj (Vx ho);rw[h12] at CO;clear ho h12 he;go_enter aX,aV;go_wp2_with fail;rw[←hw1];clear hw1;refine CO.out.mono ?_;rintro e w2 ⟨u,rfl,hO,hb2⟩;have g2:w2.heap[w.heap.size]?=some (.cells Ao 39 (0,0)):=(hb2.block _ hs1).trans g1;have B2:Below w.heap.size w w2:=B1.trans (hb2.mono B1.size);clear hO hb2 g1 B1
  go_wp2_with (first
   | go_skip
   | ((with_reducible refine Cy 39 _ rfl ?_);refine Iw rfl rfl ?_)
   | ((with_reducible refine Bu 39 _ _ rfl ?_);refine BP BD rfl _ _ rfl w.heap.size (Ae (Bk 0)) (CY (Du 0)) rfl rfl _ g2 rfl _ rfl ?_))
  refine GE BD (p:=2) (u:=3) rfl rfl w.heap.size rfl (Ae (Bk 0)) (BG (Du 0)) (setRow_heap _ _ _ _ _ _ g2) _ rfl ⟨?_,Aj B2 (aB _) _⟩;rw[HD.out];rfl
end
section
open Go.RowKit
theorem Adg(R:Rm):Uy (Al R) where
 look t now e h:=W6 t _ now
 lay t s hb:=by
  show((Al R).lay t s).1.c.length=t.c.length;unfold Al;dsimp only;split
  ·rfl
  ·split <;> rfl
 keep t a b:=aY _ _;tick t now:=aY _ _
theorem Pq{R:Rm}{n:Af Aq}(h:Gb (Al R) n)(x:CJ)(hx:x.kind=2→∀m,DQ (Dw x)=some m→m.kind=3→Ad m 0≠n.hold.life):Gb (Al R) (Fq R n x)∧AS Ou n (Fq R n x):=by
 unfold Fq;split
 ·exact XD h _ _ _
 ·split
  ·rename_i h2;exact Abq (Adg R) h _ _ _ (hx h2)
  ·split
   ·exact Abp (Adg R) h _
   ·split
    ·exact YY h
    ·exact⟨h,AS.refl _ n⟩
theorem Aje{R:Rm}{N:Nat}{n:Af Aq}(h:Az N R n):Az N R {n with log:=[]}:=
 ⟨h.tab,h.room,h.act,h.hold,h.wait,h.head,h.load,h.last,by have:=h.log;show 0+n.tab.c.length≤N;omega,h.post,h.cache⟩
theorem NC{y:AP}(h:Ou y):(y.kind==5)=false∧(y.kind==10)=false∧(y.kind==16)=false∧(y.kind==9)=false:=by
 rcases h with h | h | h | h <;> rw[h] <;> decide
theorem Hh{R:Rm}{n:Af Aq}(h:Gb (Al R) n):n.hold.use=0∧(Ib n.tab 1).length=0:=⟨h.2.1,h.2.2⟩
theorem Agf(w:World)(data:List UInt8)(hl:data.length≤140737488355328):∃cap w1,(convert 9 70 (.string ⟨data.toArray⟩)).run aA w=.ok (.slice (some ⟨w.heap.size,0,none⟩) data.length cap) w1∧Below w.heap.size w w1∧Br w1 (.slice (some ⟨w.heap.size,0,none⟩) data.length cap) data:=by
 obtain⟨cap,hcap⟩:=eX (grownCap w data.length 0 5);have hc1:data.length≤cap:=by rw[hcap];exact grownCap_ge _ _ _ _
 have hc2:cap≤maxLen:=by rw[hcap];exact grownCap_le_maxLen _ _ _ _ (by unfold maxLen;omega)
 obtain⟨w1,hw1⟩:=eX (w.drew.alloc (.cells (bytesRow ⟨data.toArray⟩ cap) 5 ((bytesRow ⟨data.toArray⟩ cap).size,(bytesRow ⟨data.toArray⟩ cap).size+1)));refine⟨cap,w1,?_,by rw[hw1];exact((Below.refl _ _).drew).alloc (aB _) _,?_⟩
 ·rw[hw1,hcap];exact run_bytes_of_string w 9 70 5 ⟨data.toArray⟩ Tryz.underlying9 Tryz.underlying70 Tryz.underlying5
 ·refine⟨_,cap,rfl,hc1,hc2,fun e=>(by cases e),fun i hi=>⟨w.heap.size,0,_,_,_,rfl,by rw[hw1];exact Ab _ _ _ rfl,?_⟩⟩;rw[Nat.zero_add,bytesRow_at _ _ _ (by simpa using hi)];rfl
theorem B7.notes{w1 W:World}{g gt gh gw:Nat}{R:Rm}{n0 n:Af Aq}{M:Nat}(h:B7 w1 W g gt gh gw R n0 n M):
  Calls aA 19 #[.pointer (some ⟨g,0,none⟩)] W fun e w'=>(∃v,e=.returned v∧BJ w1.heap.size w' v n.log)∧B7 w1 w' g gt gh gw R n0 {n with log:=[]} M∧ET W w':=
 (Re h.own).mono fun _ _ q=>⟨q.1,⟨q.2.1,Aje h.inn,⟨h.par.num,h.par.life,h.par.lease,h.par.beat,h.par.cache⟩,⟨h.pk.tries,h.pk.time,h.pk.room⟩⟩,q.2.2⟩
theorem XR(b:List UInt8):BB (GG b).1∧(∀m,DQ b=some m→(GG b).2=0∧(GG b).1=m)∧((GG b).2=0→DQ b=some (GG b).1):=by
 cases h:DQ b with
 | none=>
  rw[Hj h];exact⟨Du 0,fun m e=>(by cases e),fun e=>absurd e (by decide)⟩
 | some m=>
  rw[NI h];exact⟨(Lv h).1,fun k e=>by cases e;exact⟨rfl,rfl⟩,fun _=>rfl⟩
theorem Gy{ops:Array Oper}{rest:List Oper}{o:Oper}{a:Act}{w:World}{Q:Exit→Act→World→Prop}(hw:Region.wanted o (yielded ops a.tmps)=true)(t:TypeId)(x:Operand)(i:Nat)(ho:o.op=.field t x i)(u v:Value)(hx:a.eval x=u)(hr:∀W,(Instr.field t u i).run aA W=.ok v W)
  (h:wpList aA ops Q rest (a.put o.dst v) w):wpList aA ops Q (o::rest) a w:=by
 refine wpList_step fun K hK=> ?_;rw[if_pos hw];unfold Oper.wp execOp;simp only[ho,hx,Sem.run_bind,hr,Result.andThen_ok,Sem.run_pure];exact hK _ _ h
theorem Oe(a:Int)(u:Int)(b:Bool)(c d n1 n2 n3 n4 n5:Int)(W:World):(Instr.field 59 (.agg #[.bool true,.int .i64 a,.int .i64 u,.bool b,.int .i64 c,.int .i64 d,.int .i64 n1,.int .i64 n2,.int .i64 n3,.int .i64 n4,.int .i64 n5]) 2).run aA W=.ok (.int .i64 u) W:=by
 kernel_rfl
theorem QG(a:Int)(u:Int)(b:Bool)(c d n1 n2 n3 n4 n5:Int)(W:World):(Instr.field 59 (.agg #[.bool true,.int .i64 a,.int .i64 u,.bool b,.int .i64 c,.int .i64 d,.int .i64 n1,.int .i64 n2,.int .i64 n3,.int .i64 n4,.int .i64 n5]) 6).run aA W=.ok (.int .i64 n1) W:=by
 kernel_rfl
theorem G9:41∉Zn:=by decide
theorem LP{w:World}{g off k:Nat}{cur:Array Value}{t:TypeId}{fr:Nat×Nat}{y:AP}(hg:w.heap[g]?=some (.cells cur t fr))(hc:∀j,j<47→cur[off+j]?=(Bj y)[j]?){z:Value}(hk:k<8)
  (h:(#[.int .i64 y.kind,.int .i64 y.at_,.int .i64 y.to,.int .i64 y.index,.int .i64 y.epoch,.int .i64 y.action,.int .i64 y.why,.int .i64 y.place]:Array Value)[k]?=some z):w.cell? ⟨g,off+k,none⟩=some z:=by
 rw[cell_of_row _ _ _ _ _ _ hg,hc k (by omega)];exact F0 y h
end
end Go.Proofs.YtbhkoipcpcoooaaGreat
