import Derived.Test.YtbhkoipcpcoooaaGreatJ20
import Derived.Test.YtbhkoipcpcoooaaGreatJ3
import Derived.Test.YtbhkoipcpcoooaaGreatJ4
import Derived.Test.YtbhkoipcpcoooaaGreatJ1
import Derived.Laws.AppendOwn
import Derived.Laws.OwnMore
import Derived.Laws.AppendOwnNone
import Derived.Maps.AppendAt
import Derived.OwnWalk
import Derived.Lib.Hide
import Derived.Test.YtbhkoipcpcoooaaGreatJ10
import Derived.Test.YtbhkoipcpcoooaaGreatJ13
namespace Go.Proofs.YtbhkoipcpcoooaaGreat
set_option maxRecDepth 20000
set_option maxHeartbeats 64000000
open Go
open Go.Proofs.Tryz renaming prog → aA, underlying187 → aM, underlying189 → aT, underlying3 → aZ
open _root_.List renaming mem_of_getElem? → aB, getElem?_eq_getElem → aC, take_add_one → aJ, take_of_length_le → aK, length_append → aL, getElem?_eq_some_iff → aN, getElem?_take_of_lt → aO, filterMap_append → aQ, getElem_mem → aX, not_mem_nil → aY, map_append → bA
open _root_.Nat renaming zero_le → aD, le_refl → aG, zero_add → aR
open Go.Region renaming ready → aH
open Go.RowKit.Below renaming refl → aI
section
open Go.RowKit
def Sl(w:World)(v:Value)(C:List (List Int×List Int)):Prop:=
 Acz C∧∃(o:Option Addr) (cap:Nat),v=.slice o C.length cap∧C.length≤cap∧cap≤maxLen∧∀(i:Nat) (hi:i<C.length),∃g off cur t fr,o=some ⟨g,off,none⟩∧w.heap[g]?=some (.cells cur t fr)∧∀j,j<26→cur[off+i*26+j]?=(cv C[i].1 C[i].2)[j]?
theorem Sl.below{w w':World}{v:Value}{C:List (List Int×List Int)}(h:Sl w v C)(hb:Below w.heap.size w w'):Sl w' v C:=by
 obtain⟨h0,o,cap,rfl,h1,h2,h3⟩:=h;refine⟨h0,o,cap,rfl,h1,h2,fun i hi=> ?_⟩;obtain⟨g,off,cur,t,fr,h4,h5,h6⟩:=h3 i hi;exact⟨g,off,cur,t,fr,h4,(hb.block g (gS h5)).trans h5,h6⟩
theorem Sl.slice{w:World}{v:Value}{C:List (List Int×List Int)}(h:Sl w v C):∃(o:Option Addr) (cap:Nat),v=.slice o C.length cap∧C.length≤cap∧cap≤maxLen:=by
 obtain⟨_,o,cap,h1,h2,h3,_⟩:=h;exact⟨o,cap,h1,h2,h3⟩
theorem Sl.at{w:World}{o:Option Addr}{n cap:Nat}{C:List (List Int×List Int)}(h:Sl w (.slice o n cap) C)(k:Nat)(hk:k<n):
  ∃g off cur t fr U N,o=some ⟨g,off,none⟩∧w.heap[g]?=some (.cells cur t fr)∧(∀j,j<26→cur[off+k*26+j]?=(cv U N)[j]?)∧C[k]?=some (U,N)∧AK U∧AK N:=by
 obtain⟨h0,o',cap',h1,_,_,h3⟩:=h;simp only[Value.slice.injEq] at h1;obtain⟨rfl,rfl,rfl⟩:=h1;obtain⟨g,off,cur,t,fr,h4,h5,h6⟩:=h3 k hk;exact⟨g,off,cur,t,fr,C[k].1,C[k].2,h4,h5,h6,aC hk,(h0 _ (aX _)).1,(h0 _ (aX _)).2⟩
theorem Aq1{w:World}{B:Nat}{v:Value}{C:List (List Int×List Int)}(h:w.ownsRow B 37 26 v C.length (FD C))(hC:Acz C):Sl w v C:=by
 refine⟨hC,?_⟩;obtain⟨h1,⟨rfl,h2⟩ | ⟨g,cap,cur,rfl,hB,hcur,h5,h6,_,h4⟩⟩:=h
 ·exact⟨none,0,by rw[h2],by omega,aD _,fun i hi=>by omega⟩
 ·refine⟨_,cap,rfl,h5,h6,fun i hi=>⟨g,0,cur,_,_,rfl,hcur,fun j hj=> ?_⟩⟩;rw[←VD C hC i hi j hj, ←h4,aO (by omega),aR,Nat.mul_comm];simp
theorem Agq{P:Program}{Q:Exit→Act→World→Prop}{a:Act}{w w':World}{p0 p1 p2 p3 p4 p5 o6 o7 o8 o9:Oper}{v v0 v1:Value}
  (r7:aH .any (p0::p1::p2::p3::p4::p5::o6::o7::o8::o9::[]).toArray #[true,true,true,true,true,true,false,false,false,false]=[6])
  (r0:aH .any (p0::p1::p2::p3::p4::p5::o6::o7::o8::o9::[]).toArray #[true,true,true,true,true,true,true,false,false,false]=[7,8])
  (r1:aH .any (p0::p1::p2::p3::p4::p5::o6::o7::o8::o9::[]).toArray #[true,true,true,true,true,true,true,true,false,false]=[8,9])
  (r2:aH .any (p0::p1::p2::p3::p4::p5::o6::o7::o8::o9::[]).toArray #[true,true,true,true,true,true,true,false,true,false]=[7])
  (r3:aH .any (p0::p1::p2::p3::p4::p5::o6::o7::o8::o9::[]).toArray #[true,true,true,true,true,true,true,true,true,false]=[9])
  (r4:aH .any (p0::p1::p2::p3::p4::p5::o6::o7::o8::o9::[]).toArray #[true,true,true,true,true,true,true,true,false,true]=[8])
  (r5:aH .any (p0::p1::p2::p3::p4::p5::o6::o7::o8::o9::[]).toArray #[true,true,true,true,true,true,true,true,true,true]=[])
  (q7:o6.guard=none) (q0:o7.guard=none) (q1:o8.guard=none) (q2:o9.guard=none) (q3:o9.dst=none)
  (e7:(execOp a.eval o6).run P w=.ok (.value v) w)
  (e0:(execOp (a.put o6.dst v).eval o7).run P w=.ok (.value v0) w) (e0':(execOp ((a.put o6.dst v).put o8.dst v1).eval o7).run P w=.ok (.value v0) w)
  (e1:(execOp (a.put o6.dst v).eval o8).run P w=.ok (.value v1) w) (e1a:(execOp ((a.put o6.dst v).put o7.dst v0).eval o8).run P w=.ok (.value v1) w) (e1b:(execOp ((a.put o6.dst v).put o7.dst v0).eval o8).run P w'=.ok (.value v1) w')
  (e2:(execOp ((a.put o6.dst v).put o7.dst v0).eval o9).run P w=.ok .skip w') (e2a:(execOp (((a.put o6.dst v).put o7.dst v0).put o8.dst v1).eval o9).run P w=.ok .skip w')
  (comm:((a.put o6.dst v).put o8.dst v1).put o7.dst v0=((a.put o6.dst v).put o7.dst v0).put o8.dst v1)
  (h:Q .normal (((a.put o6.dst v).put o7.dst v0).put o8.dst v1) w'):
  wpAny P .any (p0::p1::p2::p3::p4::p5::o6::o7::o8::o9::[]).toArray Q 4 #[true,true,true,true,true,true,false,false,false,false] a w:=by
 refine Ke [6] r7 (by simp) fun i hi=> ?_;simp only[List.mem_cons,aY,or_false] at hi;subst hi;refine Ju (o:=o6) rfl q7 e7 ?_;exact Ao6 (i0:=7) (i1:=8) (i2:=9) (o0:=o7) (o1:=o8) (o2:=o9) _ rfl rfl rfl r0 r1 r2 r3 r4 r5 (by decide) (by decide) q0 q1 q2 q3 e0 e0' e1 e1a e1b e2 e2a comm h
theorem U4{H:List Int}{c:List Int×List Int}{W:List (List Int×List Int)}{k:Nat}{x:List Int×List Int}(h:W[k]?=some x):Dh H c (W.take (k+1))=IZ H (Dh H c (W.take k)) x:=by
 unfold Dh;rw[aJ,h,List.foldl_append];rfl
theorem Aev{H:List Int}{c:List Int×List Int}{W:List (List Int×List Int)}(hc:has c.1 c.2 H=true)(hW:∀x∈W,has x.1 x.2 H=false)(hR:DD c)(k:Nat):has (Dh H c (W.take k)).1 (Dh H c (W.take k)).2 H=true∧DD (Dh H c (W.take k)):=by
 obtain⟨h1,_,_,h4⟩:=Ol (W.take k) c hc (fun x hx=>hW x (List.mem_of_mem_take hx)) hR;exact⟨h1,h4⟩
theorem Ap4{H:List Int}{c x:List Int×List Int}(h:DW c.1 c.2 x.1 x.2=false):IZ H c x=c:=by
 unfold IZ Kp;rw[h];rfl
theorem Amu{H:List Int}{c x:List Int×List Int}(h:DW c.1 c.2 x.1 x.2=true)(hx:has x.1 x.2 H=false):IZ H c x=KF c (Jl H x) (bt H (Jl H x)):=by
 unfold IZ Kp;rw[h,if_pos rfl,(SX hx).1]
theorem Aaz(c:List Int×List Int)(W:List (List Int×List Int))(H:List Int)(hH:AK H)(hR:DD c)(hc:has c.1 c.2 H=true)(hW:∀x∈W,has x.1 x.2 H=false)(v:Value)(w:World)(hs:Sl w v W):
  Calls aA 187 #[.agg (cv c.1 c.2),v,.agg (hv H)] w fun e w'=>e=.returned (.agg (cv (Dh H c W).1 (Dh H c W).2))∧Below w.heap.size w w':=by
 have hHl:=hH.1;obtain⟨o,cap,rfl,hcn,hcap⟩:=hs.slice;obtain⟨n,hne⟩:=eX W.length;rw[←hne] at hs hcn ⊢;have HN:Hid (n=W.length):=hne;have HS:Hid (Sl w (.slice o n cap) W):=hs;have HK:Hid (∀k,has (Dh H c (W.take k)).1 (Dh H c (W.take k)).2 H=true∧DD (Dh H c (W.take k))):=Aev hc hW hR;have HWH:Hid (∀x∈W,has x.1 x.2 H=false):=hW;have HRC:Hid (DD c):=hR;have HHH:Hid (AK H):=hH;have hVl:=hR.1.1;have hMl:=hR.2.1.1;unfold maxLen at hcap;clear hs hne hH hR hc hW;go_enter Tryz.func187,Tryz.ntmps187;go_wp2_with fail;go_step3;go_wp2_with fail;go_step3;go_wp2_with fail;go_loopw [12] (fun i wr=> ∃k:Nat,k≤n∧i=.int .i64 (k:Int)∧Hid (wr.heap[w.heap.size]?=some (.cells (cv (Dh H c (W.take k)).1 (Dh H c (W.take k)).2) 37 (0,0)))∧Hid (wr.heap[w.heap.size+1]?=some (.cells (hv H) 35 (0,0)))∧Hid (wr.heap[w.heap.size+2]?=some (.cells AE 37 (0,0)))∧Hid (Below w.heap.size w wr)) (fun i _=>n-(intOf i).toNat)
 case atStart=>exact⟨0,aD _,rfl,Ah _ _ _ _ (Ah _ _ _ _ (Ab _ _ _ rfl)),Ah _ _ _ _ (Ab _ _ _ (by simp)),Ab _ _ _ (by simp),(((aI _ _).alloc (aG _) _).alloc (by simp) _).alloc (by simp;omega) _⟩
 case round=>
  obtain⟨k,hk,rfl,Z0,Z1,Z2,HB⟩:=hrel;obtain⟨hHas,hRk⟩:=HK.out k;obtain⟨U,N,hUN⟩:∃U N,Dh H c (W.take k)=(U,N):=⟨_,_,rfl⟩;rw[hUN] at Z0 hHas hRk;have hU:=hRk.1;have hN:=hRk.2.1;have hUl:=hU.1;have hNl:=hN.1;have HU:Hid (AK U):=hU;have HNN:Hid (AK N):=hN;have HRK:Hid (DD (U,N)):=hRk;have HUN:Hid (Dh H c (W.take k)=(U,N)):=hUN;clear hU hN hRk hUN hHas;by_cases hlt:k<n
  ·have hlt':(k:Int)<(n:Int):=by omega
   obtain⟨g,off,cur,t,fr,P,Q,rfl,hg,hcc,hWk,hP,hQ⟩:=(Sl.below HS.out HB.out).at k hlt;have hPl:=hP.1;have hQl:=hQ.1;have K1:Hid (wr.heap[g]?=some (.cells cur t fr)):=hg;have H1:Hid (∀j,j<26→cur[off+k*26+j]?=(cv P Q)[j]?):=hcc;have HWK:Hid (W[k]?=some (P,Q)):=hWk;have HPH:Hid (has P Q H=false):=HWH.out (P,Q) (aB hWk);have D1:Hid (∀W,Calls aA 204 #[.agg (cv U N),.agg (cv P Q)] W fun e w'=>e=.returned (.bool (DW U N P Q))∧Below W.heap.size W w'):=fun W'=>Py U N P Q HU.out HNN.out hP hQ W';have D2:Hid (∀W,Calls aA 205 #[.agg (cv P Q),.agg (hv H)] W fun e w'=>e=.returned (.int .i64 (Jl H (P,Q):Nat))∧Below W.heap.size W w'):=fun W'=>Zg P Q H hP hQ HHH.out W';have BN:Hid (Below w.heap.size w (wr.alloc (.cells (cv P Q) 37))):=HB.out.alloc HB.out.size _;have KN:Hid ((wr.alloc (.cells (cv P Q) 37)).heap[wr.heap.size]?=some (.cells (cv P Q) 37 (0,0))):=Ab _ _ _ rfl;have N0:Hid ((wr.alloc (.cells (cv P Q) 37)).heap[w.heap.size]?=some (.cells (cv U N) 37 (0,0))):=Ah _ _ _ _ Z0.out;have N1:Hid ((wr.alloc (.cells (cv P Q) 37)).heap[w.heap.size+1]?=some (.cells (hv H) 35 (0,0))):=Ah _ _ _ _ Z1.out;have N2:Hid ((wr.alloc (.cells (cv P Q) 37)).heap[w.heap.size+2]?=some (.cells AE 37 (0,0))):=Ah _ _ _ _ Z2.out;clear hg hcc hWk hP hQ
   go_wp2_with (first
    | (refine Sj rfl _ rfl g (off+k*26) rfl cur t fr P Q hPl hQl K1.out H1.out ?_)
    | (refine BQ rfl _ _ rfl wr.heap.size P Q rfl rfl _ (Ab _ _ _ rfl) rfl hPl hQl _ (Bo _ _ _ _ _ rfl) ?_)
    | (refine De rfl _ rfl wr.heap.size rfl P Q KN.out hPl hQl ?_)
    | (refine De rfl _ rfl w.heap.size rfl U N N0.out hUl hNl ?_))
   refine(D1.out _).mono ?_;rintro e w1 ⟨rfl,hb1⟩;have B1:Hid (Below w.heap.size w w1):=BN.out.trans (hb1.mono BN.out.size);have KM:Hid (w1.heap[wr.heap.size]?=some (.cells (cv P Q) 37 (0,0))):=(hb1.block _ (gS KN.out)).trans KN.out;have M0:Hid (w1.heap[w.heap.size]?=some (.cells (cv U N) 37 (0,0))):=(hb1.block _ (gS N0.out)).trans N0.out;have M1:Hid (w1.heap[w.heap.size+1]?=some (.cells (hv H) 35 (0,0))):=(hb1.block _ (gS N1.out)).trans N1.out;have M2:Hid (w1.heap[w.heap.size+2]?=some (.cells AE 37 (0,0))):=(hb1.block _ (gS N2.out)).trans N2.out;clear hb1 BN KN N0 N1 N2 Z0 Z1 Z2 HB K1 D1
   cases hm:DW U N P Q with
   | false=>
    have E1:Hid (Dh H c (W.take (k+1))=(U,N)):=by
     show _=_;rw[U4 HWK.out,HUN.out];exact Ap4 hm
    clear hm;go_wp2_with fail;go_roundw
    case rel=>exact⟨k+1,by omega,by go_num,by rw[E1.out];exact M0,M1,M2,B1⟩
    case measure=>simp[intOf];omega
   | true=>
    have E1:Hid (Dh H c (W.take (k+1))=KF (U,N) (Jl H (P,Q)) (bt H (Jl H (P,Q)))):=by
     show _=_;rw[U4 HWK.out,HUN.out];exact Amu hm HPH.out
    have hb104:=(SX (H:=H) (c:=(P,Q)) HPH.out).2;obtain⟨b,hbe⟩:=eX (Jl H (P,Q));rw[←hbe] at E1 D2 hb104;clear hbe hm
    go_wp2_with (first
     | (refine De rfl _ rfl wr.heap.size rfl P Q KM.out hPl hQl ?_)
     | (refine Ej rfl _ rfl (w.heap.size+1) rfl H M1.out hHl ?_))
    refine(D2.out _).mono ?_;rintro e w2 ⟨rfl,hb2⟩;have B2:Hid (Below w.heap.size w w2):=B1.out.trans (hb2.mono B1.out.size);have L0:Hid (w2.heap[w.heap.size]?=some (.cells (cv U N) 37 (0,0))):=(hb2.block _ (gS M0.out)).trans M0.out;have L1:Hid (w2.heap[w.heap.size+1]?=some (.cells (hv H) 35 (0,0))):=(hb2.block _ (gS M1.out)).trans M1.out;have L2:Hid (w2.heap[w.heap.size+2]?=some (.cells AE 37 (0,0))):=(hb2.block _ (gS M2.out)).trans M2.out;have CB:Hid (∀W,Calls aA 202 #[.agg (hv H),.int .i64 (b:Int)] W fun e w'=>e=.returned (.bool (bt H b))∧Below W.heap.size W w'):=fun W'=>Jn H HHH.out b hb104 W';have CF0:∀W,Calls aA 206 #[.agg (cv U N),.int .i64 (b:Int),.bool (bt H b)] W fun e w'=>e=.returned (.tuple #[.agg (cv (L5 U N b (bt H b)) (IE N b)),.int .i64 0])∧Below W.heap.size W w':=fun W'=>Apc U N HU.out HNN.out b (bt H b) hb104 W';rw[(XH HRK.out b (bt H b)).1,(XH HRK.out b (bt H b)).2] at CF0;obtain⟨V2,M2',hVM⟩:∃V2 M2',KF (U,N) b (bt H b)=(V2,M2'):=⟨_,_,rfl⟩;have hR2:=SI HRK.out b (bt H b);rw[hVM] at hR2 CF0 E1;have hV2:=hR2.1.1;have hM2:=hR2.2.1.1;obtain⟨z,hz⟩:=eX (bt H b);rw[←hz] at CB CF0
    have CF:Hid (∀W,Calls aA 206 #[.agg (cv U N),.int .i64 (b:Int),.bool z] W fun e w'=>e=.returned (.tuple #[.agg (cv V2 M2'),.int .i64 0])∧Below W.heap.size W w'):=CF0;have zz:=(gS L2.out);clear hb2 M0 M1 M2 KM B1 D2 CF0 hR2 hVM hz;go_wp2_with fail;have ne1:=Am.ne w2;refine TR 6 4 #[true,true,true,true,true,true,false,false,false,false] (by kernel_rfl) (by kernel_rfl) (by kernel_rfl) (by kernel_rfl) (by kernel_rfl) (by kernel_rfl) rfl ?_;simp only[List.take_succ_cons,List.take_zero];refine SO rfl _ rfl w.heap.size rfl U N L0.out hUl hNl ?_;simp only[pU];go_big_quiet_step (fail);refine U1 rfl _ rfl (w.heap.size+1) rfl H L1.out hHl ?_;simp only[pU];go_big_quiet_step (fail);go_big_quiet_want;go_big_quiet_op;refine⟨_,fun u=>Calls.later_of (CB.out u.world),?_⟩;go_big_quiet_on;go_big_quiet_want;go_big_quiet_op;refine⟨_,fun u=>Calls.later_of (CF.out u.world),?_⟩;go_big_quiet_on;refine wpQuiet_nil ?_;rintro w' ⟨u,rfl⟩;have k0:=Ap L0.out _ ⟨u,rfl⟩;have k1:=Ap L1.out _ ⟨u,rfl⟩;have k2:=Ap L2.out _ ⟨u,rfl⟩;have hb2:=B2.out.trans (u.below.mono B2.out.size);clear L0 L1 L2 B2 ne1 CB CF
    refine Agq (v:=.tuple #[.agg (cv V2 M2'),.int .i64 0]) (v0:=.agg (cv V2 M2')) (v1:=.int .i64 0) (w':=u.world.setRow w.heap.size (cv V2 M2')) (by kernel_rfl) (by kernel_rfl) (by kernel_rfl) (by kernel_rfl) (by kernel_rfl) (by kernel_rfl) (by kernel_rfl) rfl rfl rfl rfl rfl (Ahq _ _ _ _ _ _ rfl rfl)
     (JU _ _ _ _ _ _ _ _ rfl rfl rfl) (JU _ _ _ _ _ _ _ _ rfl rfl rfl) (JU _ _ _ _ _ _ _ _ rfl rfl rfl) (JU _ _ _ _ _ _ _ _ rfl rfl rfl) (JU _ _ _ _ _ _ _ _ rfl rfl rfl)
     (SH _ _ _ _ _ rfl w.heap.size _ _ rfl rfl _ k0 (Bq _ _ hUl hNl) hV2 hM2) (SH _ _ _ _ _ rfl w.heap.size _ _ rfl rfl _ k0 (Bq _ _ hUl hNl) hV2 hM2) rfl ?_
    simp only[pU];go_wp2_with fail;go_roundw
    case rel=>exact⟨k+1,by omega,by go_num,by rw[E1.out];exact setRow_heap _ _ _ _ _ _ k0,(setRow_other _ _ _ _ (by omega)).trans k1,(setRow_other _ _ _ _ (by omega)).trans k2,Aj hb2 (aG _) _⟩
    case measure=>simp[intOf];omega
  ·have hlt':¬(k:Int)<(n:Int):=by omega
   have HE:Hid (Dh H c W=(U,N)):=by
    show _=_;have:=HN.out;rw[←HUN.out,aK (by omega)]
   go_wp2_with (first
    | (refine De rfl _ rfl w.heap.size rfl U N Z0.out hUl hNl ?_)
    | (refine BQ rfl _ _ rfl (w.heap.size+2) U N rfl rfl _ Z2.out rfl hUl hNl _ rfl ?_))
   try simp only[Exit.noGoto_ret]
   rw[HE.out];refine WG (p:=6) rfl rfl (w.heap.size+2) rfl U N hUl hNl (setRow_heap _ _ _ _ _ _ Z2.out) ⟨rfl,?_⟩;exact Aj HB.out (by omega) _
theorem Alm{A:List (List Int×List Int)}{M:List Int}{c:List Int×List Int}{i:Nat}(h:bt c.2 i=false):GT A M c i=c:=by
 unfold GT;rw[h];simp
theorem All{A:List (List Int×List Int)}{M:List Int}{c:List Int×List Int}{i:Nat}(h:bt M i=true):GT A M c i=c:=by
 unfold GT;rw[h];simp
theorem Alk{A:List (List Int×List Int)}{M:List Int}{c:List Int×List Int}{i:Nat}(h:DH A (Fp c i)=false):GT A M c i=c:=by
 unfold GT;rw[h];simp
theorem Alj{A:List (List Int×List Int)}{M:List Int}{c:List Int×List Int}{i:Nat}(h1:bt c.2 i=true)(h2:bt M i=false)(h3:DH A (Fp c i)=true):GT A M c i=Fp c i:=by
 unfold GT;rw[h1,h2,h3];simp
theorem So{A:List (List Int×List Int)}{M:List Int}{c:List Int×List Int}(h:DD c):∀n,DD (Ef A M n c)
 | 0=>h
 | n+1=>by rw[LJ];exact UI n (So h n)
theorem Ze{W:List (List Int×List Int)}{k:Nat}{x:List Int×List Int}{c:List Int×List Int}(h:W[k]?=some x):DH (W.take (k+1)) c=(DH (W.take k) c&& !(Kp c x)):=by
 unfold DH;rw[aJ,h,List.all_append];simp
theorem Agh{W:List (List Int×List Int)}{k:Nat}{x:List Int×List Int}{c:List Int×List Int}(h:W[k]?=some x)(hm:Kp c x=true):DH W c=false:=by
 rw[Bool.eq_false_iff];intro g;unfold DH at g;rw[List.all_eq_true] at g;have:=g x (aB h);rw[hm] at this;cases this
theorem Ad6(c d:List Int×List Int)(W:List (List Int×List Int))(hR:DD c)(hD1:AK d.1)(hD2:AK d.2)(v:Value)(w:World)(hs:Sl w v W):
  Calls aA 186 #[.agg (cv c.1 c.2),.agg (cv d.1 d.2),v] w fun e w'=>e=.returned (.agg (cv (Ef W d.2 104 c).1 (Ef W d.2 104 c).2))∧Below w.heap.size w w':=by
 obtain⟨o,cap,rfl,hcn,hcap⟩:=hs.slice;obtain⟨n,hne⟩:=eX W.length;rw[←hne] at hs hcn ⊢;have HN:Hid (n=W.length):=hne;have HS:Hid (Sl w (.slice o n cap) W):=hs;have HK:Hid (∀k,DD (Ef W d.2 k c)):=So hR;have HD2:Hid (AK d.2):=hD2;have hVl:=hR.1.1;have hMl:=hR.2.1.1;have hdV:=hD1.1;have hdM:=hD2.1;obtain⟨DV,DM⟩:=d;dsimp only at HK HD2 hdV hdM ⊢;unfold maxLen at hcap;clear hs hne hR hD1 hD2;go_enter Tryz.func186,Tryz.ntmps186;go_wp2_with fail;go_step3;go_wp2_with fail;go_step3;go_wp2_with fail;go_loopw [12] (fun i wr=> ∃k:Nat,k≤104∧i=.int .i64 (k:Int)∧Hid (wr.heap[w.heap.size]?=some (.cells (cv (Ef W DM k c).1 (Ef W DM k c).2) 37 (0,0)))∧Hid (wr.heap[w.heap.size+1]?=some (.cells (cv DV DM) 37 (0,0)))∧Hid (wr.heap[w.heap.size+2]?=some (.cells AE 37 (0,0)))∧Hid (Below w.heap.size w wr)) (fun i _=>104-(intOf i).toNat)
 case atStart=>exact⟨0,aD _,rfl,Ah _ _ _ _ (Ah _ _ _ _ (Ab _ _ _ rfl)),Ah _ _ _ _ (Ab _ _ _ (by simp)),Ab _ _ _ (by simp),(((aI _ _).alloc (aG _) _).alloc (by simp) _).alloc (by simp;omega) _⟩
 case round=>
  obtain⟨k,hk,rfl,Z0,Z1,Z2,HB⟩:=hrel;have hRk:=HK.out k;obtain⟨U,N,hUN⟩:∃U N,Ef W DM k c=(U,N):=⟨_,_,rfl⟩;rw[hUN] at Z0 hRk;have hU:=hRk.1;have hN:=hRk.2.1;have hUl:=hU.1;have hNl:=hN.1;have HU:Hid (AK U):=hU;have HNN:Hid (AK N):=hN;have HRK:Hid (DD (U,N)):=hRk;have HUN:Hid (Ef W DM k c=(U,N)):=hUN;clear hU hN hRk hUN;by_cases hlt:k<104
  ·have hlt':(k:Int)<104:=by omega
   have E0:Hid (Ef W DM (k+1) c=GT W DM (U,N) k):=by
    show _=_;rw[LJ,HUN.out]
   obtain⟨x,hx⟩:=eX (bt N k);obtain⟨y,hy⟩:=eX (bt DM k);have D1:Hid (∀W,Calls aA 202 #[.agg (hv N),.int .i64 (k:Int)] W fun e w'=>e=.returned (.bool x)∧Below W.heap.size W w'):=fun W'=>by rw[hx];exact Jn N HNN.out k hlt W'
   have D2:Hid (∀W,Calls aA 202 #[.agg (hv DM),.int .i64 (k:Int)] W fun e w'=>e=.returned (.bool y)∧Below W.heap.size W w'):=fun W'=>by rw[hy];exact Jn DM HD2.out k hlt W'
   have HXX:Hid (x=bt N k):=hx;have HYY:Hid (y=bt DM k):=hy;clear hx hy;go_wp2_with (refine Lk rfl _ rfl w.heap.size rfl U N Z0.out hUl hNl ?_);refine(D1.out _).mono ?_;rintro e w1 ⟨rfl,hb1⟩;have B1:Hid (Below w.heap.size w w1):=HB.out.trans (hb1.mono HB.out.size);have M0:Hid (w1.heap[w.heap.size]?=some (.cells (cv U N) 37 (0,0))):=(hb1.block _ (gS Z0.out)).trans Z0.out;have M1:Hid (w1.heap[w.heap.size+1]?=some (.cells (cv DV DM) 37 (0,0))):=(hb1.block _ (gS Z1.out)).trans Z1.out;have M2:Hid (w1.heap[w.heap.size+2]?=some (.cells AE 37 (0,0))):=(hb1.block _ (gS Z2.out)).trans Z2.out;clear hb1 Z0 Z1 Z2 HB D1
   cases x with
   | false=>
    have E1:Hid (Ef W DM (k+1) c=(U,N)):=by
     show _=_;rw[E0.out];exact Alm HXX.out.symm
    go_wp2_with fail;go_roundw
    case rel=>exact⟨k+1,by omega,by go_num,by rw[E1.out];exact M0,M1,M2,B1⟩
    case measure=>simp[intOf];omega
   | true=>
    go_wp2_with (refine Lk rfl _ rfl (w.heap.size+1) rfl DV DM M1.out hdV hdM ?_);refine(D2.out _).mono ?_;rintro e w2 ⟨rfl,hb2⟩;have B2:Hid (Below w.heap.size w w2):=B1.out.trans (hb2.mono B1.out.size);have L0:Hid (w2.heap[w.heap.size]?=some (.cells (cv U N) 37 (0,0))):=(hb2.block _ (gS M0.out)).trans M0.out;have L1:Hid (w2.heap[w.heap.size+1]?=some (.cells (cv DV DM) 37 (0,0))):=(hb2.block _ (gS M1.out)).trans M1.out;have L2:Hid (w2.heap[w.heap.size+2]?=some (.cells AE 37 (0,0))):=(hb2.block _ (gS M2.out)).trans M2.out;clear hb2 M0 M1 M2 B1 D2
    cases y with
    | true=>
     have E1:Hid (Ef W DM (k+1) c=(U,N)):=by
      show _=_;rw[E0.out];exact All HYY.out.symm
     go_wp2_with fail;go_roundw
     case rel=>exact⟨k+1,by omega,by go_num,by rw[E1.out];exact L0,L1,L2,B2⟩
     case measure=>simp[intOf];omega
    | false=>
     have CF0:∀W,Calls aA 203 #[.agg (cv U N),.int .i64 (k:Int)] W fun e w'=>e=.returned (.tuple #[.agg (cv (RK U N k) (JO N k)),.int .i64 0])∧Below W.heap.size W w':=fun W'=>Aiq U N HU.out HNN.out k hlt W';rw[(U6 HRK.out k).1,(U6 HRK.out k).2] at CF0;obtain⟨V2,M2',hVM⟩:∃V2 M2',Fp (U,N) k=(V2,M2'):=⟨_,_,rfl⟩;have hR2:=Q8 HRK.out k;rw[hVM] at hR2 CF0;have HVM:Hid (Fp (U,N) k=(V2,M2')):=hVM;have hV2:=hR2.1.1;have hM2:=hR2.2.1.1;have HV2:Hid (AK V2):=hR2.1;have HM2:Hid (AK M2'):=hR2.2.1;have CF:Hid (∀W,Calls aA 203 #[.agg (cv U N),.int .i64 (k:Int)] W fun e w'=>e=.returned (.tuple #[.agg (cv V2 M2'),.int .i64 0])∧Below W.heap.size W w'):=CF0;clear CF0 hR2 hVM;go_wp2_with (refine De rfl _ rfl w.heap.size rfl U N L0.out hUl hNl ?_);refine(CF.out _).mono ?_;rintro e w3 ⟨rfl,hb3⟩;have B3:Hid (Below w.heap.size w w3):=B2.out.trans (hb3.mono B2.out.size);have P0:Hid (w3.heap[w.heap.size]?=some (.cells (cv U N) 37 (0,0))):=(hb3.block _ (gS L0.out)).trans L0.out;have P1:Hid (w3.heap[w.heap.size+1]?=some (.cells (cv DV DM) 37 (0,0))):=(hb3.block _ (gS L1.out)).trans L1.out;have P2:Hid (w3.heap[w.heap.size+2]?=some (.cells AE 37 (0,0))):=(hb3.block _ (gS L2.out)).trans L2.out
     have B4:Hid (Below w.heap.size w (w3.alloc (.cells (cv V2 M2') 37))):=B3.out.alloc B3.out.size _;have Q0:Hid ((w3.alloc (.cells (cv V2 M2') 37)).heap[w.heap.size]?=some (.cells (cv U N) 37 (0,0))):=Ah _ _ _ _ P0.out;have Q1:Hid ((w3.alloc (.cells (cv V2 M2') 37)).heap[w.heap.size+1]?=some (.cells (cv DV DM) 37 (0,0))):=Ah _ _ _ _ P1.out;have Q2:Hid ((w3.alloc (.cells (cv V2 M2') 37)).heap[w.heap.size+2]?=some (.cells AE 37 (0,0))):=Ah _ _ _ _ P2.out;have Q3:Hid ((w3.alloc (.cells (cv V2 M2') 37)).heap[w3.heap.size]?=some (.cells (cv V2 M2') 37 (0,0))):=Ab _ _ _ rfl;obtain⟨s3,hs3⟩:=eX w3.heap.size;have hlt3:w.heap.size+2<s3:=by rw[hs3];exact(gS P2.out)
     rw[←hs3] at Q3;clear hb3 L0 L1 L2 B2 CF P0 P1 P2 B3;go_wp2_with (refine BQ rfl _ _ rfl w3.heap.size V2 M2' rfl rfl _ (Ab _ _ _ rfl) rfl hV2 hM2 _ (Bo _ _ _ _ _ rfl) ?_);obtain⟨w4,hw4⟩:=eX (w3.alloc (.cells (cv V2 M2') 37));rw[←hw4] at B4 Q0 Q1 Q2 Q3 ⊢;rw[←hs3];clear hs3 hw4;go_loopw [34] (fun i wi=> ∃j:Nat,j≤n∧i=.int .i64 (j:Int)∧Hid (DH (W.take j) (V2,M2')=true)∧Hid (wi.heap[w.heap.size]?=some (.cells (cv U N) 37 (0,0)))∧Hid (wi.heap[w.heap.size+1]?=some (.cells (cv DV DM) 37 (0,0)))∧Hid (wi.heap[w.heap.size+2]?=some (.cells AE 37 (0,0)))∧Hid (wi.heap[s3]?=some (.cells (cv V2 M2') 37 (0,0)))∧Hid (Below w.heap.size w wi)) (fun i _=>n-(intOf i).toNat)
     case atStart=>exact⟨0,aD _,rfl,rfl,Q0,Q1,Q2,Q3,B4⟩
     case round=>
      clear B4 Q0 Q1 Q2 Q3;obtain⟨j,hj,rfl,HC,Z0,Z1,Z2,Z3,HB⟩:=hrel;by_cases hjlt:j<n
      ·have hjlt':(j:Int)<(n:Int):=by omega
       obtain⟨g,off,cur,t,fr,P,Q,rfl,hg,hcc,hWk,hP,hQ⟩:=(Sl.below HS.out HB.out).at j hjlt;have hPl:=hP.1;have hQl:=hQ.1;have K1:Hid (wr.heap[g]?=some (.cells cur t fr)):=hg;have H1:Hid (∀i,i<26→cur[off+j*26+i]?=(cv P Q)[i]?):=hcc;have HWK:Hid (W[j]?=some (P,Q)):=hWk;have D3:Hid (∀W,Calls aA 204 #[.agg (cv V2 M2'),.agg (cv P Q)] W fun e w'=>e=.returned (.bool (DW V2 M2' P Q))∧Below W.heap.size W w'):=fun W'=>Py V2 M2' P Q HV2.out HM2.out hP hQ W';have BN:Hid (Below w.heap.size w (wr.alloc (.cells (cv P Q) 37))):=HB.out.alloc HB.out.size _;have KN:Hid ((wr.alloc (.cells (cv P Q) 37)).heap[wr.heap.size]?=some (.cells (cv P Q) 37 (0,0))):=Ab _ _ _ rfl;have N0:Hid ((wr.alloc (.cells (cv P Q) 37)).heap[w.heap.size]?=some (.cells (cv U N) 37 (0,0))):=Ah _ _ _ _ Z0.out;have N1:Hid ((wr.alloc (.cells (cv P Q) 37)).heap[w.heap.size+1]?=some (.cells (cv DV DM) 37 (0,0))):=Ah _ _ _ _ Z1.out;have N2:Hid ((wr.alloc (.cells (cv P Q) 37)).heap[w.heap.size+2]?=some (.cells AE 37 (0,0))):=Ah _ _ _ _ Z2.out;have N3:Hid ((wr.alloc (.cells (cv P Q) 37)).heap[s3]?=some (.cells (cv V2 M2') 37 (0,0))):=Ah _ _ _ _ Z3.out;clear hg hcc hWk hP hQ
       go_wp2_with (first
        | (refine Sj rfl _ rfl g (off+j*26) rfl cur t fr P Q hPl hQl K1.out H1.out ?_)
        | (refine BQ rfl _ _ rfl wr.heap.size P Q rfl rfl _ (Ab _ _ _ rfl) rfl hPl hQl _ (Bo _ _ _ _ _ rfl) ?_)
        | (refine De rfl _ rfl wr.heap.size rfl P Q KN.out hPl hQl ?_)
        | (refine De rfl _ rfl s3 rfl V2 M2' N3.out hV2 hM2 ?_))
       refine(D3.out _).mono ?_;rintro e w5 ⟨rfl,hb5⟩;have B5:Hid (Below w.heap.size w w5):=BN.out.trans (hb5.mono BN.out.size);have R0:Hid (w5.heap[w.heap.size]?=some (.cells (cv U N) 37 (0,0))):=(hb5.block _ (gS N0.out)).trans N0.out;have R1:Hid (w5.heap[w.heap.size+1]?=some (.cells (cv DV DM) 37 (0,0))):=(hb5.block _ (gS N1.out)).trans N1.out;have R2:Hid (w5.heap[w.heap.size+2]?=some (.cells AE 37 (0,0))):=(hb5.block _ (gS N2.out)).trans N2.out;have R3:Hid (w5.heap[s3]?=some (.cells (cv V2 M2') 37 (0,0))):=(hb5.block _ (gS N3.out)).trans N3.out;clear hb5 BN KN N0 N1 N2 N3 Z0 Z1 Z2 Z3 HB K1 D3
       cases hm:DW V2 M2' P Q with
       | false=>
        have HC2:Hid (DH (W.take (j+1)) (V2,M2')=true):=by
         show _=_;rw[Ze HWK.out,HC.out,Bool.true_and,Bool.not_eq_true'];exact hm
        clear hm;go_wp2_with fail;go_roundw
        case rel=>exact⟨j+1,by omega,by go_num,HC2,R0,R1,R2,R3,B5⟩
        case measure=>simp[intOf];omega
       | true=>
        have E1:Hid (Ef W DM (k+1) c=(U,N)):=by
         show _=_;rw[E0.out];refine Alk ?_;rw[HVM.out];exact Agh HWK.out hm
        clear hm;go_wp2_with fail;go_roundw
        case rel=>exact⟨k+1,by omega,by go_num,by rw[E1.out];exact R0,R1,R2,B5⟩
        case measure=>simp[intOf];omega
      ·have hjlt':¬(j:Int)<(n:Int):=by omega
       have E1:Hid (Ef W DM (k+1) c=(V2,M2')):=by
        show _=_;have hcl:=HC.out;have:=HN.out;rw[aK (by omega)] at hcl;rw[E0.out, ←HVM.out];refine Alj HXX.out.symm HYY.out.symm ?_;rw[HVM.out];exact hcl
       go_wp2_with (first
        | (refine De rfl _ rfl s3 rfl V2 M2' Z3.out hV2 hM2 ?_)
        | (refine BQ rfl _ _ rfl w.heap.size V2 M2' rfl rfl _ Z0.out (Bq _ _ hUl hNl) hV2 hM2 _ rfl ?_))
       go_roundw
       case rel=>exact⟨k+1,by omega,by go_num,by rw[E1.out];exact setRow_heap _ _ _ _ _ _ Z0.out,(setRow_other _ _ _ _ (by omega)).trans Z1.out,(setRow_other _ _ _ _ (by omega)).trans Z2.out,Aj HB.out (aG _) _⟩
       case measure=>simp[intOf];omega
  ·have hlt':¬(k:Int)<104:=by omega
   obtain rfl:k=104:=by omega
   go_wp2_with (first
    | (refine De rfl _ rfl w.heap.size rfl U N Z0.out hUl hNl ?_)
    | (refine BQ rfl _ _ rfl (w.heap.size+2) U N rfl rfl _ Z2.out rfl hUl hNl _ rfl ?_))
   try simp only[Exit.noGoto_ret]
   rw[HUN.out];refine WG (p:=6) rfl rfl (w.heap.size+2) rfl U N hUl hNl (setRow_heap _ _ _ _ _ _ Z2.out) ⟨rfl,?_⟩;exact Aj HB.out (by omega) _
def Alf(p:Prop):Prop:=p
theorem Aif{p:Prop}(h:Alf p):p:=h
theorem Agv(g off j:Nat):(⟨g,off,none⟩:Addr).add j=⟨g,off+j,none⟩:=by unfold Addr.add;split <;> simp_all
def Me(w:World)(v:Value)(L:List Value):Prop:=
 ∃(o:Option Addr) (cap:Nat),v=.slice o L.length cap∧L.length≤cap∧cap≤maxLen∧(o=none→cap=0)∧∀(i:Nat) (hi:i<L.length),∃g off cur t fr,o=some ⟨g,off,none⟩∧w.heap[g]?=some (.cells cur t fr)∧cur[off+i]?=some L[i]
theorem Me.of_heap{w w':World}{v:Value}{L:List Value}(h:Me w v L)(hb:∀g o,w.heap[g]?=some o→v.ownBlock=some g→w'.heap[g]?=some o):Me w' v L:=by
 obtain⟨o,cap,rfl,h1,h2,h3,h4⟩:=h;refine⟨o,cap,rfl,h1,h2,h3,fun i hi=> ?_⟩;obtain⟨g,off,cur,t,fr,rfl,h5,h6⟩:=h4 i hi;exact⟨g,off,cur,t,fr,rfl,hb _ _ h5 rfl,h6⟩
theorem Me.below{w w':World}{v:Value}{L:List Value}(h:Me w v L)(hb:Below w.heap.size w w'):Me w' v L:=
 h.of_heap fun g _ hg _=>(hb.block g (gS hg)).trans hg
theorem Me.slice{w:World}{v:Value}{L:List Value}(h:Me w v L):∃o cap,v=.slice o L.length cap∧L.length≤cap∧cap≤maxLen:=by
 obtain⟨o,cap,rfl,h1,h2,_⟩:=h;exact⟨o,cap,rfl,h1,h2⟩
theorem Me.at{w:World}{o:Option Addr}{n cap:Nat}{L:List Value}(h:Me w (.slice o n cap) L)(k:Nat)(hk:k<n):
  ∃g off c,o=some ⟨g,off,none⟩∧w.cell? ⟨g,off+k,none⟩=some c∧L[k]?=some c:=by
 obtain⟨o',cap',h1,_,_,_,h3⟩:=h;simp only[Value.slice.injEq] at h1;obtain⟨rfl,rfl,rfl⟩:=h1;obtain⟨g,off,cur,t,fr,h4,h5,h6⟩:=h3 k hk;exact⟨g,off,L[k],h4,by rw[cell_of_row _ _ _ _ _ _ h5];exact h6,aC hk⟩
def Dj(ty:TypeId)(B:Nat)(w:World)(v:Value)(L:List Value):Prop:=w.ownsRow B ty 1 v L.length L
theorem Dj.sl{ty:TypeId}{B:Nat}{w:World}{v:Value}{L:List Value}(h:Dj ty B w v L):Me w v L:=by
 obtain⟨h1,⟨rfl,h2⟩ | ⟨g,cap,cur,rfl,hB,hcur,h5,h6,_,h4⟩⟩:=h
 ·exact⟨none,0,by rw[h2],by omega,aD _,fun _=>rfl,fun i hi=>by omega⟩
 ·refine⟨_,cap,rfl,h5,h6,(fun e=>by cases e),fun i hi=>⟨g,0,cur,_,_,rfl,hcur,?_⟩⟩;have h7:=congrArg (·[i]?) h4;rw[Nat.mul_one,aO hi,aC hi] at h7;rw[aR];simpa using h7
theorem Dj.nil(ty B:Nat)(w:World):Dj ty B w (.slice none 0 0) []:=World.ownsRow_nil _ _ _ _
theorem Dj.below{ty B:Nat}{w w':World}{v:Value}{L:List Value}(h:Dj ty B w v L)(hb:Below w.heap.size w w'):Dj ty B w' v L:=by
 obtain⟨h1,h2 | ⟨g,cap,cur,rfl,hB,hcur,h3⟩⟩:=h
 ·exact⟨h1,.inl h2⟩
 ·exact⟨h1,.inr ⟨g,cap,cur,rfl,hB,(hb.block g (gS hcur)).trans hcur,h3⟩⟩
theorem Dj.ge{ty B:Nat}{w:World}{v:Value}{L:List Value}(h:Dj ty B w v L):∀g,v.ownBlock=some g→B≤g∧g<w.heap.size:=fun g hg=>World.ownsRow.lt h g hg
structure Sc(ty sl:TypeId)(z:Value):Prop where
 hs:aA.underlying sl=some (.slice ty)
 info:∃i b,aA.info? ty=some i∧i.zero=some z∧i.size=1∧i.bytes=b∧1≤b∧b≤8
 hz:z.cells=#[z]
theorem An6{ty:TypeId}{z:Value}{b:Nat}(h:(aA.info? ty).map (fun i=>(i.zero,i.size,i.bytes))=some (some z,1,b))(h1:1≤b)(h8:b≤8):∃i b,aA.info? ty=some i∧i.zero=some z∧i.size=1∧i.bytes=b∧1≤b∧b≤8:=by
 cases hi:aA.info? ty with
 | none=>rw[hi] at h;simp at h
 | some i=>
  rw[hi] at h;simp only[Option.map_some,Option.some.injEq,Prod.mk.injEq] at h;exact⟨i,b,rfl,h.1,h.2.1,h.2.2,h1,h8⟩
theorem scI:Sc 3 73 (.int .i64 0):=⟨Tryz.underlying73,An6 (b:=8) (by kernel_rfl) (by decide) (by decide),rfl⟩
theorem Aa5{ty sl:TypeId}{z:Value}(S:Sc ty sl z){ops:Array Oper}{rest:List Oper}{o:Oper}{a:Act}{w:World}{Q:Exit→Act→World→Prop}(hg:o.guard=none)(x:Operand)(ho:o.op=.buildSlice sl 1 #[(0,x)])(u:Value)(hu:u.cells=#[u])(hx:a.eval x=u)
  (h:wpList aA ops Q rest (a.put o.dst (.slice (some ⟨w.heap.size,0,none⟩) 1 1)) (w.alloc (.cells #[u] ty))):wpList aA ops Q (o::rest) a w:=by
 obtain⟨ie,b,hie,hz,hs,hb,hb1,hb8⟩:=S.info;refine wpList_buildSlice hg sl ty 1 _ ho #[u] ie z S.hs hie hz (by rw[hs];decide) (by rw[hs];decide) ?_ h;simp only[List.map_toArray,List.map_cons,List.map_nil,hx,Instr.fill,hs,Nat.zero_mul,hu];rw[if_neg (by simp)];congr 1;exact Vj _ _ (by simp)
theorem Ah8{ty sl:TypeId}{z:Value}(S:Sc ty sl z){ops:Array Oper}{rest:List Oper}{o:Oper}{a:Act}{w:World}{Q:Exit→Act→World→Prop}(hgd:o.guard=none)(s x:Operand)(ho:o.op=.call {callee:=.builtin .append,args:=#[s,x],argTypes:=#[sl,sl]})
  (B:Nat) (v:Value) (L:List Value) (u:Value) (hu:u.oneCell'=true) (hs:a.eval s=v) (hb:Dj ty B w v L) (g cap:Nat) (hx:a.eval x=.slice (some ⟨g,0,none⟩) 1 cap) (hg:w.heap[g]?=some (.cells #[u] ty (0,0))) (hn:L.length≤1000000) (hB:B≤w.heap.size)
  (h:∀v' w',Dj ty B w' v' (L++[u])→w.grownBy w' v.ownBlock→(v'.ownBlock=v.ownBlock∨v'.ownBlock=some w.heap.size)→wpList aA ops Q rest (a.put o.dst v') w'):wpList aA ops Q (o::rest) a w:=by
 obtain⟨i,b,hi,hz,h1,h2,h3,h4⟩:=S.info;refine wpList_append_own_at _ hgd s x sl ho B ty i z 1 b S.hs hi hz h1 h2 (by rw[S.hz];rfl) (by decide) v _ _ hs hb ⟨g,0,none⟩ 1 cap [u] hx rfl (fun j y hy=> ?_) (fun y hy=> ?_) (by unfold maxLen;omega) ?_ hB ?_
 ·rw[Agv,cell_of_row w g _ _ _ _ hg, ←hy,aR];simp
 ·obtain rfl:y=u:=by simpa using hy
  exact hu
 ·exact Nat.le_trans (Nat.mul_le_mul (show L.length+1≤1000001 by omega) h4) (by decide)
 ·intro v' w' h5 h6 _ h7;refine h v' w' ?_ h6 h7;unfold Dj;rw[aL];exact h5
def OR(l:List Bp)(c:List Int×List Int)(k:Nat):List Nat:=match l[k]? with
 | some x=>if DW x.cube.1 x.cube.2 c.1 c.2 then [k] else []
 | none=>[]
def En(l:List Bp)(c:List Int×List Int):Nat→List Nat
 | 0=>[]
 | k+1=>En l c k++OR l c k
theorem Aii{l:List Bp}{c:List Int×List Int}{k:Nat}{x:Bp}(h:l[k]?=some x)(hm:DW x.cube.1 x.cube.2 c.1 c.2=true):En l c (k+1)=En l c k++[k]:=by
 rw[En];unfold OR;rw[h];simp[hm]
theorem Amt{l:List Bp}{c:List Int×List Int}{k:Nat}{x:Bp}(h:l[k]?=some x)(hm:DW x.cube.1 x.cube.2 c.1 c.2=false):En l c (k+1)=En l c k:=by
 rw[En];unfold OR;rw[h];simp[hm]
theorem Aia(l:List Bp)(c:List Int×List Int)(k:Nat):(OR l c k).length≤1:=by
 unfold OR;split
 ·split <;> simp
 ·simp
theorem RI(l:List Bp)(c:List Int×List Int):∀k,(En l c k).length≤k
 | 0=>aG _
 | k+1=>by
  have:=RI l c k
  have:=Aia l c k
  rw[En,aL]
  omega
theorem ZC{l:List Bp}{c:List Int×List Int}:∀ {k j:Nat},j∈En l c k→j<k
 | 0,j,h=>absurd h (aY)
 | k+1,j,h=>by
  rw[En,List.mem_append] at h
  rcases h with h | h
  ·have:=ZC h;omega
  ·unfold OR at h
   split at h
   ·split at h
    ·simp at h;omega
    ·simp at h
   ·simp at h
theorem WW{l:List Bp}{c:List Int×List Int}:∀ {k:Nat},k≤l.length→(En l c k).filterMap (fun j=>(l[j]?).map (·.cube))=IV (E5 (l.take k)) c
 | 0,_=>by simp[En,IV,E5]
 | k+1,hk=>by
  have ih:=WW (l:=l) (c:=c) (k:=k) (by omega)
  have hx:l[k]?=some l[k]:=aC (by omega)
  rw[En,aQ,ih]
  unfold IV E5
  rw[aJ,hx,bA,List.filter_append]
  congr 1
  unfold OR
  rw[hx]
  cases hm:DW l[k].cube.1 l[k].cube.2 c.1 c.2 with
  | true=>simp[hm,hx]
  | false=>simp[hm]
def Jm(L:List Nat):List Value:=L.map fun k:Nat=> .int .i64 (k:Int)
theorem Amj(L:List Nat)(k:Nat):Jm L++[.int .i64 (k:Int)]=Jm (L++[k]):=by unfold Jm;rw[bA];rfl
theorem WS(L:List Nat):(Jm L).length=L.length:=by unfold Jm;rw[List.length_map]
theorem VP{o:Option Addr}{n0 cap:Nat}{w:World}{l:List Bp}(h:Fv w (.slice o n0 cap) l)(n:Nat)(hn:n≤n0)(hc:n0≤cap)(W:World):
  (Instr.sliceAt 187 (.slice o n0 cap) none (some (.int .i64 (n:Int))) none).run aA W=.ok (.slice o n cap) W:=by
 rcases Nat.eq_zero_or_pos n0 with h0 | h0
 ·obtain rfl:n=0:=by omega
  cases o with
  | none=>simp[go_sem,aM]
  | some a=>simp[go_sem,aM]
 ·obtain⟨g,off,_,_,_,_,rfl,_⟩:=h.at 0 h0;simp[go_sem,aM];omega
theorem ZV{cur:Array Value}{off k:Nat}{r:Bp}(hr:Fz r)(hc:∀j,j<28→cur[off+k*28+j]?=(Bd r)[j]?):∀j,j<26→cur[off+k*28+1+j]?=(cv r.cube.1 r.cube.2)[j]?:=fun j hj=>by
 have h3:=hc (1+j) (by omega)
 rw[(Ko hr).2.1 j hj] at h3
 rw[←h3]
 congr 1
 omega
theorem Aeu(l:List Bp)(hl0:∀r∈l,Fz r)(hn1:l.length≤100000)(vl:Value)(p:Nat)(r:Bp)(hp:l[p]?=some r)(w:World)(hl:Fv w vl l):
  Calls aA 201 #[vl,.int .i64 (p:Int)] w fun e w'=>(∃v,e=.returned v∧Dj 3 w.heap.size w' v (Jm (En l r.cube p)))∧Below w.heap.size w w':=by
 have hr:=hl0 r (aB hp);obtain⟨o,cap,rfl,hc1,hc2⟩:=Ee.slice hl;obtain⟨n,hn0⟩:=eX l.length;have hpn:p<n:=by rw[hn0];exact(aN.1 hp).1
 rw[←hn0] at hl hc1 hn1 ⊢;have hsl:∀W,(Instr.sliceAt 187 (.slice o n cap) none (some (.int .i64 (p:Int))) none).run aA W=.ok (.slice o p cap) W:=fun W=>VP hl p (by omega) hc1 W;have HL:Hid (Fv w (.slice o n cap) l):=hl;have HOK:Hid (∀r∈l,Fz r):=hl0;have HR:Hid (Fz r):=hr;have HME:Hid (∀(x:Bp) W,Fz x→Calls aA 204 #[.agg (cv x.cube.1 x.cube.2),.agg (cv r.cube.1 r.cube.2)] W fun e w'=>e=.returned (.bool (DW x.cube.1 x.cube.2 r.cube.1 r.cube.2))∧Below W.heap.size W w'):=fun x W hx=>Py _ _ _ _ hx.1 hx.2 hr.1 hr.2 W;obtain⟨g,off,cur,ty,fr,r',rfl,hg,hc,hxp⟩:=hl.at p hpn;rw[hp] at hxp;obtain rfl:=Option.some.inj hxp;have P1:Hid (w.heap[g]?=some (.cells cur ty fr)):=hg;have P2:Hid (∀j,j<26→cur[off+p*28+1+j]?=(cv r.cube.1 r.cube.2)[j]?):=ZV hr hc;unfold maxLen at hc2;have hpn':(p:Int)<(n:Int):=by omega
 have d1:decide ((p:Int)<0)=false:=by simp
 have d2:decide ((p:Int)≥(n:Int))=false:=by simp;omega
 have d3:decide ((n:Int)≤(p:Int))=false:=by simp;omega
 have d4:decide (n≤p)=false:=by simp;omega
 clear hl hn0 hl0 hr hp hg hc hxp;go_enter Tryz.func201,Tryz.ntmps201;go_wp2_with fail;go_step3;go_wp2_with fail;go_step3;go_wp2_with fail;go_loopw [5,20] (fun out i wr=> ∃k:Nat,k≤p∧i=.int .i64 (k:Int)∧Hid (Dj 3 w.heap.size wr out (Jm (En l r.cube k)))∧Hid (Below w.heap.size w wr)) (fun _ i _=>n-(intOf i).toNat)
 case atStart=>exact⟨0,aD _,rfl,Dj.nil _ _ _,aI _ _⟩
 case round=>
  obtain⟨k,hk,rfl,HO,HB⟩:=hrel;by_cases hlt:k<p
  ·have hlt':(k:Int)<(p:Int):=by omega
   obtain⟨g2,off2,cur2,ty2,fr2,x,e2,hg2,hc2',hxk⟩:=(Ee.below HL.out HB.out).at k (by omega)
   cases e2
   have hx:Fz x:=HOK.out x (aB hxk);have HX:Hid (Fz x):=hx;have HXK:Hid (l[k]?=some x):=hxk;have hsz:=FV hx;have K1:Hid (wr.heap[g]?=some (.cells cur2 ty2 fr2)):=hg2;have H1:Hid (∀j,j<28→cur2[off+k*28+j]?=(Bd x)[j]?):=hc2';have BN:Hid (Below w.heap.size w (wr.alloc (.cells (Bd x) 189))):=HB.out.alloc HB.out.size _;have KN:Hid ((wr.alloc (.cells (Bd x) 189)).heap[wr.heap.size]?=some (.cells (Bd x) 189 (0,0))):=Ab _ _ _ rfl;have PN:Hid ((wr.alloc (.cells (Bd x) 189)).heap[g]?=some (.cells cur ty fr)):=(BN.out.block g (gS P1.out)).trans P1.out;have ON:Hid (Dj 3 w.heap.size (wr.alloc (.cells (Bd x) 189)) u5 (Jm (En l r.cube k))):=HO.out.below ((aI _ _).alloc (aG _) _);obtain⟨W,hW⟩:=eX (wr.alloc (.cells (Bd x) 189));clear hg2 hc2' hxk hx HO
   go_wp2_with (first
    | (refine Eu (E:=Eh) G1 rfl _ rfl g (off+k*28) rfl cur2 ty2 fr2 (Bd x) hsz K1.out H1.out ?_)
    | (refine EK (E:=Eh) G1 rfl _ _ rfl wr.heap.size (Bd x) (Ji HX.out) rfl rfl _ (Ab _ _ _ rfl) rfl _ (Bo _ _ _ _ _ rfl) ?_))
   simp only[Act.put];rw[←hW] at BN KN PN ON ⊢;clear hW;have ne1:=Am.ne W;refine rL ?_;go_big_quiet_step (fail);refine Aar rfl _ rfl wr.heap.size 1 rfl _ _ _ x.cube.1 x.cube.2 HX.out.1.1 HX.out.2.1 (Ap KN.out) (Ko HX.out).2.1 ?_;simp only[pU]
   iterate 4 (go_big_quiet_step (fail))
   refine Aar rfl _ rfl g (off+p*28+1) rfl cur ty fr r.cube.1 r.cube.2 HR.out.1.1 HR.out.2.1 (Ap PN.out) P2.out ?_;simp only[pU];go_big_quiet_want;go_big_quiet_op;refine⟨_,fun u=>Calls.later_of (HME.out x u.world HX.out),?_⟩;go_big_quiet_on;go_big_quiet_step (fail);refine wpQuiet_nil ?_;rintro w1 ⟨v5,rfl⟩;have hb1:=v5.below;obtain⟨w1,hw1⟩:=eX v5.world;rw[←hw1] at hb1 ⊢;have B1:Hid (Below w.heap.size w w1):=BN.out.trans (hb1.mono BN.out.size);have O1:Hid (Dj 3 w.heap.size w1 u5 (Jm (En l r.cube k))):=ON.out.below hb1;clear ne1 hb1 hw1 v5 BN KN PN ON K1 H1 HB
   cases hm:DW x.cube.1 x.cube.2 r.cube.1 r.cube.2 with
   | false=>
    have E1:Hid (En l r.cube (k+1)=En l r.cube k):=Amt HXK.out hm;clear hm;go_wp2_with fail;go_roundw
    case rel=>exact⟨k+1,by omega,by go_num,by rw[E1.out];exact O1,B1⟩
    case measure=>simp[intOf];omega
   | true=>
    have E1:Hid (En l r.cube (k+1)=En l r.cube k++[k]):=Aii HXK.out hm
    have hlen:Hid ((Jm (En l r.cube k)).length≤1000000):=by
     show _≤_;rw[WS];have:=RI l r.cube k;omega
    clear hm;obtain⟨R,hR⟩:=eX (En l r.cube k);rw[←hR] at O1 E1 hlen;clear hR;have OA:Hid (Dj 3 w.heap.size (w1.alloc (.cells #[Value.int .i64 (k:Int)] 3)) u5 (Jm R)):=O1.out.below ((aI _ _).alloc (aG _) _);have BA:Hid (Below w.heap.size w (w1.alloc (.cells #[Value.int .i64 (k:Int)] 3))):=B1.out.alloc B1.out.size _
    go_wp2_with (first
     | (refine Aa5 scI rfl _ rfl (.int .i64 (k:Int)) rfl rfl ?_)
     | (at_builtin;refine Aif ?_))
    unfold Alf;refine Ah8 scI rfl _ _ rfl w.heap.size u5 (Jm R) (.int .i64 (k:Int)) rfl rfl OA.out w1.heap.size 1 rfl (Ab _ _ _ rfl) hlen.out (BA.out.size) ?_;intro v' w3 hown3 hgr3 hv';have B3:Hid (Below w.heap.size w w3):=BA.out.grown hgr3 BA.out.size fun j hj=>(OA.out.ge j hj).1
    have O3:Hid (Dj 3 w.heap.size w3 v' (Jm (R++[k]))):=by
     show Dj _ _ _ _ _;rw[←Amj];exact hown3
    clear hown3 hgr3 hv';simp only[pU];go_wp2_with fail;go_roundw
    case rel=>exact⟨k+1,by omega,by go_num,by rw[E1.out];exact O3,B3⟩
    case measure=>simp[intOf];omega
  ·have hlt':¬(k:Int)<(p:Int):=by omega
   obtain rfl:k=p:=by omega
   go_wp2_with fail
   try simp only[Exit.noGoto_ret]
   go_ret;exact⟨⟨_,rfl,HO.out⟩,HB.out⟩
theorem Aa7{ops:Array Oper}{rest:List Oper}{o:Oper}{a:Act}{w:World}{Q:Exit→Act→World→Prop}(hgd:o.guard=none)(s x:Operand)(ho:o.op=.call {callee:=.builtin .append,args:=#[s,x],argTypes:=#[224,224]})
  (base:Nat) (v:Value) (C:List (List Int×List Int)) (V M:List Int) (hV:V.length=13) (hM:M.length=13) (hs:a.eval s=v) (hown:w.ownsRow base 37 26 v C.length (FD C)) (g cap:Nat) (hx:a.eval x=.slice (some ⟨g,0,none⟩) 1 cap) (hg:w.heap[g]?=some (.cells (cv V M) 37 (0,0)))
  (hn:C.length≤1000000) (hbase:base≤w.heap.size)
  (h:∀v' w',w'.ownsRow base 37 26 v' (C++[(V,M)]).length (FD (C++[(V,M)]))→w.grownBy w' v.ownBlock→(v'.ownBlock=v.ownBlock∨v'.ownBlock=some w.heap.size)→wpList aA ops Q rest (a.put o.dst v') w'):wpList aA ops Q (o::rest) a w:=by
 obtain⟨i0,hi,hz0,hz1,hz2⟩:=Abj;have hsz:=Bq V M hV hM;refine wpList_append_own_at _ hgd s x 224 ho base 37 i0 (.agg AE) 26 26 Tryz.underlying224 hi hz0 hz1 hz2 rfl (by decide) v _ _ hs hown ⟨g,0,none⟩ 1 cap (cv V M).toList hx (by simp[hsz]) (fun j y hy=> ?_) (fun u hu=> ?_) (by unfold maxLen;omega) (by omega) hbase ?_
 ·have hadd:(⟨g,0,none⟩:Addr).add j=⟨g,j,none⟩:=by unfold Addr.add;split <;> simp_all
  rw[hadd,cell_of_row w g j _ _ _ hg, ←hy];simp
 ·exact(Array.all_eq_true_iff_forall_mem.1 (Ii V M)) u (by simpa using hu)
 ·intro v' w' h5 h6 _ h7;refine h v' w' ?_ h6 h7;rw[aL,VW,Aca];exact h5
def FN(l:List Bp)(L:List Nat):List (List Int×List Int):=L.filterMap fun j=>(l[j]?).map (·.cube)
theorem XS{l:List Bp}{L:List Nat}{k j:Nat}{x:Bp}(hk:L[k]?=some j)(hx:l[j]?=some x):FN l (L.take (k+1))=FN l (L.take k)++[(x.cube.1,x.cube.2)]:=by
 unfold FN;rw[aJ,hk,aQ];simp[hx]
theorem Y9(l:List Bp)(L:List Nat):(FN l L).length≤L.length:=List.length_filterMap_le _ _
theorem Aqo{L:List Nat}{k:Nat}{c:Value}(h:(Jm L)[k]?=some c):∃j,L[k]?=some j∧c=.int .i64 (j:Int):=by
 unfold Jm at h;rw[List.getElem?_map] at h
 cases e:L[k]? with
 | none=>rw[e] at h;cases h
 | some j=>rw[e] at h;exact⟨j,rfl,(Option.some.inj h).symm⟩
theorem Aft(l:List Bp)(hl0:∀r∈l,Fz r)(hn1:l.length≤100000)(vl:Value)(p:Nat)(r:Bp)(hp:l[p]?=some r)(w:World)(hl:Fv w vl l):
  Calls aA 184 #[vl,.int .i64 (p:Int)] w fun e w'=>(∃u,e=.returned u∧w'.ownsRow w.heap.size 37 26 u (IV (E5 (l.take p)) r.cube).length (FD (IV (E5 (l.take p)) r.cube)))∧Below w.heap.size w w':=by
 have hpn0:=(aN.1 hp).1;have HW:Hid (FN l (En l r.cube p)=IV (E5 (l.take p)) r.cube):=WW (Nat.le_of_lt hpn0);have HN1:Hid (∀j∈En l r.cube p,j<p):=fun j hj=>ZC hj;have HN2:Hid ((En l r.cube p).length≤p):=RI l r.cube p;have C1:Hid (∀W,W=w→Calls aA 201 #[vl,.int .i64 (p:Int)] W fun e w'=>(∃v,e=.returned v∧Dj 3 w.heap.size w' v (Jm (En l r.cube p)))∧Below w.heap.size w w'):=fun W hW=>by subst hW;exact Aeu l hl0 hn1 vl p r hp W hl
 obtain⟨o,cap,rfl,hc1,hc2⟩:=Ee.slice hl;obtain⟨n,hn0⟩:=eX l.length;rw[←hn0] at hl hc1 hn1 hpn0 C1 ⊢;have HL:Hid _:=hl;have HOK:Hid _:=hl0;unfold maxLen at hc2;obtain⟨L,hL⟩:=eX (En l r.cube p);rw[←hL] at HW HN1 HN2 C1;rw[←HW.out];clear hl hn0 hl0 hp hL HW;go_enter Tryz.func184,Tryz.ntmps184;go_wp2_with fail;refine(C1.out _ rfl).mono ?_;rintro e w1 ⟨⟨v,rfl,hv1⟩,hb1⟩;have HV:Hid (Me w1 v (Jm L)):=hv1.sl;have HB1:Hid _:=hb1;obtain⟨o2,cap2,rfl,hm1,hm2⟩:=Me.slice hv1.sl;obtain⟨m,hm⟩:=eX L.length;rw[WS, ←hm] at HV hm1;rw[WS, ←hm];have hmp:m≤p:=by rw[hm];exact HN2.out
 have HM:Hid _:=hm;unfold maxLen at hm2;clear hv1 hb1 hm C1;go_wp2_with fail;go_loopw [5,12] (fun out i wr=> ∃k:Nat,k≤m∧i=.int .i64 (k:Int)∧Hid (wr.ownsRow w1.heap.size 37 26 out (FN l (L.take k)).length (FD (FN l (L.take k))))∧Hid (Below w1.heap.size w1 wr)) (fun _ i _=>m-(intOf i).toNat)
 case atStart=>exact⟨0,aD _,rfl,World.ownsRow_nil _ _ _ _,aI _ _⟩
 case round=>
  obtain⟨k,hk,rfl,HO,HB⟩:=hrel;by_cases hlt:k<m
  ·have hlt':(k:Int)<(m:Int):=by omega
   obtain⟨gi,offi,c,rfl,hcell,hck⟩:=(Me.below HV.out HB.out).at k hlt;obtain⟨j,hj,rfl⟩:=Aqo hck;have hjp:j<p:=HN1.out j (aB hj);have hjn':(j:Int)<(n:Int):=by omega
   obtain⟨g,off,cur,ty,fr,x,rfl,hg,hc,hxk⟩:=(Ee.below HL.out (HB1.out.trans (HB.out.mono HB1.out.size))).at j (by omega);have hx:Fz x:=HOK.out x (aB hxk);have HX:Hid _:=hx;have K1:Hid _:=hg;have H1:Hid (∀j',j'<26→cur[off+j*28+1+j']?=(cv x.cube.1 x.cube.2)[j']?):=ZV hx hc;have E1:Hid (FN l (L.take (k+1))=FN l (L.take k)++[(x.cube.1,x.cube.2)]):=XS hj hxk
   have hlen:Hid ((FN l (L.take k)).length≤1000000):=by
    show _≤_;have:=Y9 l (L.take k);rw[List.length_take] at this;omega
   have hj0:(0:Int)≤(j:Int):=by omega
   have OA:Hid ((wr.alloc (.cells (cv x.cube.1 x.cube.2) 37)).ownsRow w1.heap.size 37 26 u5 (FN l (L.take k)).length (FD (FN l (L.take k)))):=HO.out.alloc _;have BA:Hid (Below w1.heap.size w1 (wr.alloc (.cells (cv x.cube.1 x.cube.2) 37))):=HB.out.alloc HB.out.size _;clear hg hc hxk hx hck hj
   go_wp2_with (first
    | (refine PK rfl _ rfl g (off+j*28+1) rfl cur ty fr x.cube.1 x.cube.2 HX.out.1.1 HX.out.2.1 K1.out H1.out ?_)
    | (refine Ad5 rfl _ rfl x.cube.1 x.cube.2 HX.out.1.1 HX.out.2.1 rfl ?_)
    | (at_builtin;refine SW ?_))
   unfold Uz;refine Aa7 rfl _ _ rfl w1.heap.size u5 (FN l (L.take k)) x.cube.1 x.cube.2 HX.out.1.1 HX.out.2.1 rfl OA.out wr.heap.size 1 rfl (Ab _ _ _ rfl) hlen.out BA.out.size ?_;intro v' w3 hown3 hgr3 hv';have B3:Hid (Below w1.heap.size w1 w3):=BA.out.grown hgr3 BA.out.size fun q hq=>(OA.out.lt q hq).1
   have O3:Hid (w3.ownsRow w1.heap.size 37 26 v' (FN l (L.take (k+1))).length (FD (FN l (L.take (k+1))))):=by
    show World.ownsRow _ _ _ _ _ _ _;rw[E1.out];exact hown3
   clear hown3 hgr3 hv';simp only[pU];go_wp2_with fail;go_roundw
   case rel=>exact⟨k+1,by omega,by go_num,O3,B3⟩
   case measure=>simp[intOf];omega
  ·have hlt':¬(k:Int)<(m:Int):=by omega
   have HE:Hid (L.take k=L):=by
    show _=_;have:=HM.out;rw[aK (by omega)]
   rw[HE.out] at HO;go_wp2_with fail;go_ret;exact⟨⟨_,rfl,Aid HO.out HB1.out.size⟩,HB1.out.trans (HB.out.mono HB1.out.size)⟩
def NH(r s:Bp):Bool:=(r.order==s.order)&&((r.cube.1==s.cube.1&&r.cube.2==s.cube.2)&&((r.action==s.action)&&true))
theorem Aqv{r s:Bp}(h:Fz r)(h':Fz s)(w:World):(Op.equalIn 10000 189 (.agg (Bd r)) (.agg (Bd s))).run aA w=.ok (NH r s) w:=by
 have hp:∀ {r:Bp},Fz r→(part 37 (Bd r) 1).run aA w=.ok (.agg (cv r.cube.1 r.cube.2)) w:=fun {r} h=>by
  have hs:=Bq _ _ h.1.1 h.2.1;obtain⟨c0,c1,c2⟩:=Ko h;have hz:∀w,(sizeOf 37).run aA w=.ok 26 w:=fun w=>by kernel_rfl
  have ha:∀w,(isAgg 37).run aA w=.ok true w:=fun w=>by kernel_rfl
  have e:(Bd r).extract 1 27=cv r.cube.1 r.cube.2:=by
   apply Array.ext_getElem?;intro k;rw[Array.getElem?_extract];have hz:=FV h;split
   ·rename_i hk;rw[hz] at hk;exact c1 k (by omega)
   ·rename_i hk;rw[hz] at hk;rw[Array.getElem?_eq_none (by omega)]
  simp[part,ha,hz,Sem.run_bind,e]
 obtain⟨c0,c1,c2⟩:=Ko h;obtain⟨d0,d1,d2⟩:=Ko h';have a3:(isAgg 3).run aA w=.ok false w:=by kernel_rfl
 rw[run_equalIn_struct w 9999 189 _ _ aT (by kernel_rfl)];simp only[Program.fieldsOf,aT];refine Cg w (by decide) (BU w a3 c0) (BU w a3 d0) (run_equalIn_int w _ 3 .i64 .i64 _ _ aZ) ?_;refine Cg w (by decide) (hp h) (hp h') (Ape _ _ _ _ h.1.1 h.2.1 h'.1.1 h'.2.1 w) ?_;refine Cg w (by decide) (BU w a3 c2) (BU w a3 d2) (run_equalIn_int w _ 3 .i64 .i64 _ _ aZ) ?_;rfl
theorem Ak3(r:Bp):NH r r=true:=by unfold NH;simp
theorem Ak4{r s:Bp}(h:NH r s=true):r.cube=s.cube:=by
 unfold NH at h;simp only[Bool.and_eq_true,beq_iff_eq] at h;exact Prod.ext h.2.1.1 h.2.1.2
theorem Gd.unlike{l:List Bp}{H:List Int}{k:Nat}{r:Bp}(h:Gd l H k r){j:Nat}{x:Bp}(hj:j<k)(hx:l[j]?=some x):NH r x=false:=by
 cases e:NH r x with
 | false=>rfl
 | true=>
  have:=h.before hj hx;rw[←Ak4 e,h.has_] at this
  cases this
theorem YW(l:List Bp)(hl0:∀r∈l,Fz r)(vl:Value)(H:List Int)(p:Nat)(r:Bp)(hF:Gd l H p r)(w:World)(hl:Fv w vl l):
  Calls aA 185 #[vl,.agg (Bd r)] w fun e w'=>e=.returned (.int .i64 (p:Int))∧Below w.heap.size w w':=by
 have hr:=hl0 r hF.mem;have hrs:=FV hr;obtain⟨o,cap,rfl,hc1,hc2⟩:=Ee.slice hl;obtain⟨n,hn0⟩:=eX l.length;have hpn:p<n:=by rw[hn0];exact hF.lt
 rw[←hn0] at hl hc1 ⊢;have HL:Hid _:=hl;have HOK:Hid _:=hl0;have HR:Hid _:=hr;have HF:Hid _:=hF;unfold maxLen at hc2;clear hl hn0 hl0 hr hF;go_enter Tryz.func185,Tryz.ntmps185;go_wp2_with fail;go_loopw [8] (fun i wr=> ∃k:Nat,k≤p∧i=.int .i64 (k:Int)∧wr.heap[w.heap.size]?=some (.cells (Bd r) 189 (0,0))∧Below w.heap.size w wr) (fun i _=>n-(intOf i).toNat)
 case atStart=>exact⟨0,aD _,rfl,Ab _ _ _ rfl,(aI _ _).alloc (aG _) _⟩
 case round=>
  obtain⟨k,hk,rfl,h1,hb⟩:=hrel;have R1:Hid _:=h1;have HB:Hid _:=hb;clear h1 hb;have hlt:k<n:=by omega
  have hlt':(k:Int)<(n:Int):=by omega
  obtain⟨g,off,cur,ty,fr,x,rfl,hg,hc,hxk⟩:=(Ee.below HL.out HB.out).at k hlt;have hx:Fz x:=HOK.out x (aB hxk);obtain⟨b,hbb⟩:=eX (NH r x);have e1:∀w,(Op.equalIn 10000 189 (.agg (Bd r)) (.agg (Bd x))).run aA w=.ok b w:=fun w=>by rw[hbb];exact Aqv HR.out hx w
  have e2:∀op p q w,(eqGuard op 189 p q (.agg (Bd r)) (.agg (Bd x))).run aA w=.ok () w:=fun op p q w=>egR op p q _ _ w
  have HQ:Hid ((k<p→b=false)∧(k=p→b=true)):=⟨fun h=>by rw[hbb];exact HF.out.unlike h hxk,fun h=>by
   rw[hbb];subst h;have:=HF.out.at_.symm.trans hxk
   cases this
   exact Ak3 r⟩
  have hsz:=FV hx;have K1:Hid _:=hg;have H1:Hid _:=hc;clear hg hc hxk hx hbb;go_wp2_with fail;have ne1:=Am.ne wr;refine rL ?_;refine SN (E:=Eh) G1 rfl _ rfl w.heap.size 0 rfl _ _ _ (Bd r) hrs (Ap R1.out) (Ar _ _) ?_;simp only[pU]
  iterate 3 (go_big_quiet_step (fail))
  refine SN (E:=Eh) G1 rfl _ rfl g (off+k*28) rfl cur ty fr (Bd x) hsz (Ap K1.out) H1.out ?_;simp only[pU];go_big_quiet_step (fail);refine wpQuiet_nil ?_;rintro w1 ⟨v5,rfl⟩;have B1:Hid _:=HB.out.trans (v5.below.mono HB.out.size);have R2:Hid (v5.world.heap[w.heap.size]?=some (.cells (Bd r) 189 (0,0))):=Ap R1.out _ ⟨v5,rfl⟩;clear e1 e2 ne1;by_cases hkp:k=p
  ·obtain rfl:=HQ.out.2 hkp;go_wp2_with fail;go_ret;exact⟨by first | rfl|(rw[hkp];rfl),B1.out⟩
  ·obtain rfl:=HQ.out.1 (by omega);have hk2:k+1≤p:=by omega
   clear HQ hkp;go_wp2_with fail;go_roundw
   case rel=>exact⟨k+1,hk2,by go_num,R2.out,B1.out⟩
   case measure=>simp[intOf];omega
end
end Go.Proofs.YtbhkoipcpcoooaaGreat
