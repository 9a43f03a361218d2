import Derived.Test.YtbhkoipcpcoooaaGreatJ16
import Derived.Test.YtbhkoipcpcoooaaGreatJ18
import Derived.Test.YtbhkoipcpcoooaaGreatJ11
import Derived.Test.YtbhkoipcpcoooaaGreatJ7
import Derived.Test.YtbhkoipcpcoooaaGreatJ17
namespace Go.Proofs.YtbhkoipcpcoooaaGreat
set_option maxRecDepth 20000
set_option maxHeartbeats 64000000
open Go
open Go.Proofs.Tryz renaming prog → aA
open _root_.Nat renaming le_refl → aB, zero_add → aG, zero_le → aK, lt_succ_self → aT
open Go.RowKit.Below renaming refl → aC
open _root_.List renaming take_of_length_le → aD, setIfInBounds_toArray → aI, map_toArray → aL, set_cons_zero → aM, map_cons → aN, map_nil → aO, mem_of_getElem? → aP, set_cons_succ → aQ, length_cons → aR, mem_filter → aV, length_map → aW
open Go.Value renaming slice → aH
open Go.World renaming drew → aJ, ownsRow → aX
section
open Go.RowKit
theorem YI(B : Nat)(w : World)(g gt gh gw : Nat)(R : Rm)(n : Af Aq)(r : D0)(h : Cb B w g gt gh gw R n r)(hn : n.log.length ≤ 1000000)(x : AP) :
    Calls aA 72 #[.pointer (some ⟨g, 0, none⟩),.agg (Bj x)] w fun e w' => e =.returned (.tuple #[]) ∧ Dl B w w' g gt gh gw R (Cc n x) r ∧ As (fun k => Cq g k ∨ BT r.vn k) w w' := by
  obtain⟨w0, hw0⟩ :∃ w0, w0 = w.alloc (.cells (Bj x) 72) :=⟨_, rfl⟩
  have B0 : Below w.heap.size w w0 := by rw[hw0]; exact(aC _ _).alloc (aB _) _
  have Z0 : w0.heap[w.heap.size]? = some (.cells (Bj x) 72 (0, 0)) := by rw[hw0]; exact Ab _ _ _ rfl
  have c0 := (h.below B0).f.c0
  have p1 : w0.cell? ⟨w.heap.size, 1, none⟩ = some (.int .i64 x.at_) := by rw[cell_of_row _ _ _ _ _ _ Z0]; exact ZB x
  have fz1 : w0.frozen? ⟨w.heap.size, 1, none⟩ = false := FZ Z0 rfl
  obtain⟨y, hy⟩ :∃ y : AP, y = { x with at_ := n.num } :=⟨_, rfl⟩
  obtain⟨w1, hw1⟩ :∃ w1, w1 = w.alloc (.cells (Bj y) 72) :=⟨_, rfl⟩
  have B1 : Below w.heap.size w w1 := by rw[hw1]; exact(aC _ _).alloc (aB _) _
  have h1 := h.below B1
  have HZ : Hid (w1.heap[w.heap.size]? = some (.cells (Bj y) 72 (0, 0))) := by show _ = _; rw[hw1]; exact Ab _ _ _ rfl
  have HX : Hid (∀ W' u, As (BT r.vn) w1 W' → BJ B W' u (n.log ++ [y]) → (u.ownBlock = r.vn.ownBlock ∨∀ k, u.ownBlock = some k → w1.heap.size ≤ k) → Dl B w (W'.setCell ⟨g, 8, none⟩ u) g gt gh gw R (Cc n x) r ∧ As (fun k => Cq g k ∨ BT r.vn k) w (W'.setCell ⟨g, 8, none⟩ u)) := fun W' u hk hu hq => by
    have := (h1.putLog hk hu (fun k e => by rcases hq with q | q
                                            · rw[q] at e; exact .inl e
                                            · exact .inr (q k e))).pre B1
    rw[hy] at this
    have k8 : As (Cq g) W' (W'.setCell ⟨g, 8, none⟩ u) :=⟨rfl, rfl, rfl, by simp[World.setCell], fun k' _ e => heap_setCell_other W' ⟨g, 8, none⟩ k' _ e⟩
    exact⟨this, ((As.of_below B1).trans (hk.mono (Y := fun k => Cq g k ∨ BT r.vn k) fun k _ e => .inr e) fun k e => .inl e).trans k8 fun k e => .inl (.inl e)⟩
  have HBK : Hid (w1.heap[g]? = some (.cells (ndV n gt gh gw r) 91 (0, 0))) := h1.blk
  have HO : Hid (BJ B w1 r.vn n.log) := h1.log
  have HB : Hid (B ≤ w1.heap.size) := h1.hw
  have HN : Hid (n.log.length ≤ 1000000) := hn
  have NP : Hid (¬ BT r.vn w.heap.size) := fun e => by have := (h.log.lt _ e).2; omega
  obtain⟨nu, hnu⟩ :∃ nu, nu = n.num :=⟨_, rfl⟩
  rw[← hnu] at c0
  have hw2 : w.alloc (.cells ((Bj x).setIfInBounds 1 (.int .i64 nu)) 72) = w1 := by rw[hw1, hy, WU, hnu]
  rw[hw0] at c0 p1 fz1
  clear hn hy h h1 B0 B1 Z0 hw0 hnu hw1
  go_enter Tryz.func72, Tryz.ntmps72
  go_wp2_with fail
  clear hw2 c0 p1 fz1
  refine S4 (by exact Nat.le_of_eq rfl) g w.heap.size B y r.vn n.log (ndV n gt gh gw r) rfl rfl HBK.out rfl HZ.out NP.out HO.out HB.out HN.out ?_
  intro y' w' u hk hr hf
  have F2 : Hid _ := HX.out w' u hk hr hf
  clear hk hr hf HX HBK HZ HO HB HN
  simp only[JB, QM, List.foldl_cons, List.foldl_nil, Act.put, aI, aQ, aM]
  go_end0
  exact⟨rfl, F2.out.1, F2.out.2⟩
section
variable {R:Rm}
theorem Apa{N:Nat}{n:Af Aq}(h:Az N R n)(now:Int)(x:AN):Az (N+3) R (DJ (Al R) n now x):=by
 have h1:=QV h now n.hold.use x.head;unfold DJ;split
 ·rename_i t s e;rw[e] at h1;split
  ·unfold Da;split
   ·exact h1.le (by omega)
   ·exact EJ (Ku h1 _ _) _
  ·obtain⟨q1,q2,q3⟩:=Vf h1 x.seq;exact EJ (Kt h1 q1 q2 q3) _
 ·rename_i t s e;rw[e] at h1;exact h1.le (by omega)
theorem Uk{now:Int}:∀(L:List AN) {N:Nat} {n:Af Aq},Az N R n→Az (N+3*L.length) R (L.foldl (fun n x=>DJ (Al R) n now x) n)
 | [],_,_,h=>h
 | x::L,N,n,h=>by
  have:=Uk (now:=now) L (Apa h now x)
  rw[show N+3+3*L.length=N+3*(x::L).length by rw[aR];omega] at this
  exact this
theorem M4:∀(L:List AN) {N:Nat} {n:Af Aq},Az N R n→Az (N+L.length) R (L.foldl ED n)
 | [],_,_,h=>h
 | x::L,N,n,h=>by
  have:=M4 L (EJ h {FB with kind:=6,index:=x.index,why:=4})
  rw[show N+1+L.length=N+(x::L).length by rw[aR];omega] at this
  exact this
theorem Xu{N:Nat}{n:Af Aq}(h:Az N R n)(now:Int)(k:Nat):Az (N+2+3*64) R (((Cv n.wait now).take k).foldl (fun n x=>DJ (Al R) n now x) (Db (Ep (Al R) n now) (Dc n.wait now))):=by
 have h1:Az (N+1) R (Ep (Al R) n now):=by
  have:=Ul h now ((Al R).tick n.tab now).2.length;rw[aD (aB _)] at this;exact this
 have hw:(Ep (Al R) n now).wait=n.wait:=(LZ n now).2.wait;obtain⟨q1,q2,q3⟩:=RR (n:=Ep (Al R) n now) h1 now;rw[hw] at q1 q2 q3;have h2:=Uk (now:=now) ((Cv n.wait now).take k) (Kt h1 q1 q2 q3);refine h2.le ?_;have:=VJ h now;have:=List.length_take_le' k (Cv n.wait now);omega
theorem An8{N:Nat}{n:Af Aq}(h:Az N R n)(now:Int):Az (N+300) R (Ct (Al R) n now):=by
 have h1:Az (N+194) R (EI (Al R) n now):=by
  have hm:=Xu h now (Cv n.wait now).length;rw[aD (aB _)] at hm;have h0:=Xu h now 0;unfold EI;split
  ·exact hm
  ·exact h0
 have h2:Az (N+194+(EE n.wait now).length) R (DZ (Al R) n now):=M4 _ h1;have:=Tj h now;unfold Ct;split
 ·exact(Ku h2 _ _).le (by omega)
 ·exact h2.le (by omega)
end
theorem VH(R:Rm)(now:Int):∀(L:List AN) (n:Af Aq),(L.foldl (fun n x=>DJ (Al R) n now x) n).beat=n.beat
 | [],_=>rfl
 | x::L,n=>(VH R now L (DJ (Al R) n now x)).trans (Wy n now x).beat
structure AgS(B:Nat)(w W:World)(g gt gh gw:Nat)(R:Rm)(n':Af Aq)(r:D0)(v:Value)(L:List Ai):Prop where
 ex:∃x,Cb B W g gt gh gw R n' x∧FQ (DL g gt gh gw r) (DL g gt gh gw x) w W∧Au 0 W v L
theorem Au.keepN{B B':Nat}{W W':World}{g gt gh gw:Nat}{R:Rm}{n:Af Aq}{x:D0}{v:Value}{L:List Ai}(h:Cb B W g gt gh gw R n x)(hv:Au B' W v L)(hk:As (fun k=>Cq g k∨BT x.vn k) W W'):Au B' W' v L:=
 hv.kept hk fun k e e'=>by
  have t1:=It.own hv e
  rcases e' with e' | e'
  ·obtain rfl:k=g:=e'
   exact absurd (t1.one ⟨_,_,h.blk⟩) (by decide)
  ·exact absurd (t1.one (It.own h.log e')) (by decide)
theorem Aoa(n:Af Aq)(x:Ai):Il n x=Cc n ⟨12,0,0,0,x.epoch,x.action,0,0,Z,x.cube⟩:=rfl
theorem Aab(B:Nat)(w:World)(g gt gh gw:Nat)(R:Rm)(n:Af Aq)(r:D0)(h:Cb B w g gt gh gw R n r){M:Nat}(hi:Az M R n)(hM:M≤899000)(hbt:1≤n.beat)(now:Int):
  Calls aA 31 #[.pointer (some ⟨g,0,none⟩),.int .i64 now] w fun e w'=>e=.returned (.tuple #[])∧Dl B w w' g gt gh gw R (Ct (Al R) n now) r:=by
 have c4:=h.f.c4;obtain⟨L,hL⟩:=eX (((Al R).tick n.tab now).2);obtain⟨n1,hn1⟩:=eX (AX n ((Al R).tick n.tab now).1);obtain⟨q,hq⟩:=eX L.length
 have CT:Calls aA 71 #[.pointer (some ⟨gt,0,none⟩),.int .i64 now] w fun e w'=> ∃o c,e=.returned (.slice o q c)∧AgS B w w' g gt gh gw R n1 r (.slice o q c) L:=by
  have hc1:=hi.tab.inv.lc;have hc2:=hi.room;refine(Ahe B w gt R n.tab r.v1 r.v2 r.v3 h.tab now (by omega) fun x hx=> ?_).mono fun e w' p=> ?_
  ·obtain⟨_,_,_,q4,q5,q6,q7,_⟩:=hi.tab.inv.c x hx;exact⟨q4,q5,q6,q7⟩
  ·obtain⟨u,rfl,hu,ht⟩:=p;have hu2:Au 0 w' u L:=by rw[hL];exact hu.base (aK _)
   obtain⟨o,c,he,_⟩:=hu2.slice;rw[←hq] at he;obtain⟨x,hx,hf⟩:=h.setTab ht;rw[he] at hu2;exact⟨o,c,by rw[he],⟨⟨x,by rw[hn1];exact hx,hf,hu2⟩⟩⟩
 have HIk:Hid (∀k,Az (M+1) R ((L.take k).foldl Il n1)):=fun k=>by rw[hL,hn1];exact Ul hi now k
 have HN2:Hid ((L.take q).foldl Il n1=Ep (Al R) n now):=by
  show _=_;rw[hq,aD (aB _),hL,hn1];rfl
 have HW2:Hid ((Ep (Al R) n now).wait=n.wait∧(Ep (Al R) n now).hold=n.hold∧(Ep (Al R) n now).beat=n.beat∧(Ep (Al R) n now).lease=n.lease):=by
  have:=(LZ (O:=Al R) n now).2;exact⟨this.wait,this.hold,this.beat,this.lease⟩
 have HM:Hid (M≤899000∧1≤n.beat):=⟨hM,hbt⟩;have HI:Hid _:=hi;have HA0:Hid (∀o c W,AgS B w W g gt gh gw R n1 r (.slice o q c) L→AgS B w W g gt gh gw R ((L.take 0).foldl Il n1) r (.slice o q c) L):=fun o c W hW=>hW
 have hq9:q≤2048:=by
  have h1:=hi.tab.inv.lc;have h2:=hi.room.1;rw[hq,hL];show(n.tab.c.filter _).length≤_;have:=List.length_filter_le (MU R.idle R.hard now) n.tab.c;omega
 clear hL hn1 hq hi hM hbt h;go_enter Tryz.func31,Tryz.ntmps31;go_wp2_with (go_at_call 71;refine CT.mono ?_;rintro e w1 ⟨oL,cL,rfl,a1⟩;have A1:Hid _:=HA0.out _ _ _ a1;clear a1 CT);clear c4 HA0;go_loopw [19] (fun s19 wr=> ∃k:Nat,k≤q∧s19=.int .i64 (k:Int)∧Hid (AgS B w wr g gt gh gw R ((L.take k).foldl Il n1) r (.slice oL q cL) L)) (fun s19 _=>q-(intOf s19).toNat)
 case atStart=>exact⟨0,aK _,rfl,A1⟩
 case round=>
  obtain⟨k,hk,rfl,HA⟩:=hrel;by_cases hlt:k<q
  ·have hlt':(k:Int)<(q:Int):=by omega
   obtain⟨x0,hx0,hf0,hs0⟩:=HA.out.ex;obtain⟨gb,off,cur,ty,fr,x,rfl,hgb,hcc,hxa⟩:=hs0.sl.at k hlt;have LD:Hid ((loadVar 102 ⟨gb,off+k*36,none⟩).run aA wr=.ok (.agg (Ac x)) wr):=JX hgb hcc;obtain⟨wx,hwx⟩:=eX (wr.alloc (.cells (Ac x) 102));have Bx:Below wr.heap.size wr wx:=by rw[hwx];exact(aC _ _).alloc (aB _) _
   have Zx:wx.heap[wr.heap.size]?=some (.cells (Ac x) 102 (0,0)):=by rw[hwx];exact Ab _ _ _ rfl
   have f1:wx.cell? ⟨wr.heap.size,1,none⟩=some (.int .i64 x.epoch):=by have:=(GU Zx fun j hj=>by rw[aG]).c1;rw[aG] at this;exact this
   have f30:wx.cell? ⟨wr.heap.size,30,none⟩=some (.int .i64 x.action):=by have:=(GU Zx fun j hj=>by rw[aG]).c30;rw[aG] at this;exact this
   have CN:Calls aA 72 #[.pointer (some ⟨g,0,none⟩),.agg (Bj ⟨12,0,0,0,x.epoch,x.action,0,0,Z,x.cube⟩)] wx fun e w'=>e=.returned (.tuple #[])∧AgS B w w' g gt gh gw R ((L.take (k+1)).foldl Il n1) r (.slice (some ⟨gb,off,none⟩) q cL) L:=by
    have hx1:=hx0.below Bx;refine(YI B wx g gt gh gw R _ x0 hx1 (by have:=(HIk.out k).log;have:=HM.out.1;omega) _).mono fun e w' p=>⟨p.1,?_⟩;obtain⟨_,⟨u,hu,hfu⟩,hkp⟩:=p;rw[Qo _ _ hxa,Aoa];exact⟨⟨u,hu,(hf0.add Bx).trans hfu,Au.keepN hx1 (hs0.below Bx) hkp⟩⟩
   have SRx:(wr.alloc (.cells (Ac AJ) 102)).setRow wr.heap.size (Ac x)=wx:=by rw[hwx];exact Bo _ _ _ _ _ rfl
   have Zx2:Hid _:=Zx;obtain⟨xe,hxe⟩:=eX x.epoch;obtain⟨xac,hxac⟩:=eX x.action;rw[←hxe] at f1 CN;rw[←hxac] at f30 CN;clear hxe hxac hgb hcc hxa hwx Bx Zx hx0 hf0 hs0
   go_wp2_with (first
    | ((with_reducible refine Hy _ rfl ?_);refine Dy rfl _ rfl gb (off+k*36) rfl x LD.out ?_)
    | (((with_reducible refine Ff _ _ rfl ?_);refine Ck rfl _ _ rfl wr.heap.size x AJ rfl rfl (Ab _ _ _ rfl) _ SRx ?_);refine Ak ?_))
   unfold AA;clear SRx
   go_wp2_with (first
    | (refine Kh rfl _ rfl wr.heap.size 4 rfl _ _ _ (AC x.cube.1) (AC x.cube.2) (AV _) (AV _) Zx2.out (fun j hj=>Hb x j hj) ?_)
    | ((with_reducible refine Cy 72 _ rfl ?_);refine Ll rfl _ _ rfl #[(0,.int .i64 12),(4,.int .i64 xe),(5,.int .i64 xac),(9,.agg (cv (AC x.cube.1) (AC x.cube.2)))] (by simp only[aL,aN,aO];rfl) _ (RZ 12 xe xac x.cube _) ?_)
    | (go_at_call 72;refine CN.mono ?_;rintro e w2 ⟨rfl,a2⟩;have A2:Hid _:=a2;clear a2 CN))
   go_roundw
   case rel=>exact⟨k+1,by omega,by go_num,A2⟩
   case measure=>simp[intOf];omega
  ·have hlt':¬(k:Int)<(q:Int):=by omega
   obtain rfl:k=q:=by omega
   obtain⟨n2,hn2⟩:=eX (Ep (Al R) n now);obtain⟨n3,hn3⟩:=eX (Db n2 (Dc n.wait now));have HA2:AgS B w wr g gt gh gw R n2 r (.slice oL k cL) L:=by rw[hn2, ←HN2.out];exact HA.out
   have hi2:Az (M+1) R n2:=by rw[hn2, ←HN2.out];exact HIk.out k
   have hw2:n2.wait=n.wait:=by rw[hn2];exact HW2.out.1
   have hi3:Az (M+2) R n3:=by
    rw[hn3];obtain⟨q1,q2,q3⟩:=RR hi2 now;rw[hw2] at q1 q2 q3;exact Kt hi2 q1 q2 q3
   obtain⟨x0,hx0,hf0,_⟩:=HA2.ex;have c6:=hx0.f.c6;obtain⟨AG,hAG⟩:=eX (Cv n.wait now);obtain⟨GO,hGO⟩:=eX (EE n.wait now);obtain⟨la,hla⟩:=eX AG.length;obtain⟨lb,hlb⟩:=eX GO.length
   have CW:Calls aA 73 #[.pointer (some ⟨gw,0,none⟩),.int .i64 now] wr fun e w'=> ∃oa ca ob cb x,e=.returned (.tuple #[.slice oa la ca,.slice ob lb cb])∧Cb B w' g gt gh gw R n3 x∧FQ (DL g gt gh gw r) (DL g gt gh gw x) w w'∧(AU 0 w' (.slice oa la ca) AG∧∀k,(aH oa la ca).ownBlock=some k→¬DL g gt gh gw x k)∧AU 0 w' (.slice ob lb cb) GO∧∀k,(aH ob lb cb).ownBlock=some k→¬DL g gt gh gw x k:=by
    refine(Add B wr gw n2.wait x0.vw hx0.wait hi2.wait now).mono fun e w' p=> ?_;obtain⟨a,b,u,rfl,hr,hV,hF⟩:=p;rw[hw2] at hr hV;obtain⟨q1,q2⟩:=hx0.clear hV hF;have ha0:AU 0 w' a AG:=by rw[hAG];exact hr.b.base (aK _)
    have hb0:AU 0 w' b GO:=by rw[hGO];exact hr.c.base (aK _)
    obtain⟨oa,ca,ea,_⟩:=ha0.slice;obtain⟨ob,cb,eb,_⟩:=hb0.slice;rw[←hla] at ea;rw[←hlb] at eb;have na:=q1.noRow ha0 hr.ab.symm;have nb:=q1.noRow hb0 hr.ac.symm;rw[ea] at ha0 na;rw[eb] at hb0 nb;exact⟨oa,ca,ob,cb,_,by rw[ea,eb],by rw[hn3];exact q1,hf0.trans q2,⟨ha0,na⟩,hb0,nb⟩
   have HI3:Hid _:=hi3
   have hmay:EC n3 now=EC n now:=by
    have e1:n3.hold=n.hold:=by rw[hn3,hn2];exact HW2.out.2.1
    have e2:n3.lease=n.lease:=by rw[hn3,hn2];exact HW2.out.2.2.2
    unfold EC;rw[e1,e2]
   have HMY:Hid _:=hmay;have HB3:Hid (n3.beat=n.beat):=by show _=_;rw[hn3,hn2];exact HW2.out.2.2.1
   have HIA:Hid (∀j,Az (M+2+3*64) R ((AG.take j).foldl (fun n x=>DJ (Al R) n now x) n3)):=fun j=>by rw[hAG,hn3,hn2];exact Xu HI.out now j
   have HAX:Hid (∀x∈AG,AK x.head∧Ch x.seq∧0≤x.sent):=fun x hx=>by
    rw[hAG] at hx;have q1:=Agt HI.out now x hx;have q2:=HI.out.last;have q3:=HM.out.1;refine⟨Agu HI.out now x hx,⟨by omega,by omega⟩,?_⟩;unfold Cv at hx;obtain⟨y,hy,e⟩:=List.mem_map.1 hx;rw[←e];have:=(HI.out.wait.ok.sent y (aV.1 hy).1).1;show(0:Int)≤y.sent+1;omega
   have HE:Hid (Ct (Al R) n now=if now%n.beat=0 then H7 (GO.foldl ED (if EC n now=true then AG.foldl (fun n x=>DJ (Al R) n now x) n3 else n3)) else GO.foldl ED (if EC n now=true then AG.foldl (fun n x=>DJ (Al R) n now x) n3 else n3)):=by
    show _=_;unfold Ct DZ EI;rw[←hn2, ←hn3, ←hAG, ←hGO]
   have HLA:Hid (la=AG.length∧la≤64∧lb=GO.length∧lb≤64):=⟨hla,by rw[hla,hAG];exact VJ HI.out now,hlb,by rw[hlb,hGO];exact Tj HI.out now⟩;have hla9:la≤64:=HLA.out.2.1;obtain⟨be,hbe⟩:=eX n.beat;obtain⟨tr,htr⟩:=eX (Int.tmod now be)
   have HTR:Hid (be=n.beat∧(tr=0↔now%n.beat=0)):=by
    refine⟨hbe,?_⟩;rw[htr,hbe];exact⟨fun e=>Int.emod_eq_zero_of_dvd (Int.dvd_of_tmod_eq_zero e),fun e=>Int.tmod_eq_zero_of_dvd (Int.dvd_of_emod_eq_zero e)⟩
   have hbe0:¬be=0:=by have:=HM.out.2;omega
   have htr1:Int.tmod now be=tr:=htr.symm;clear hn2 hn3 HA2 hi2 hw2 hi3 hx0 hf0 hAG hGO hla hlb hmay hbe htr HN2 HIk HW2 HA A1 hlt hlt' hk;go_wp2_with (go_at_call 73;refine CW.mono ?_;rintro e w5 ⟨oa,ca,ob,cb,x5,rfl,hx5,hf5,ha5,hb5⟩;have HX5:Hid _:=hx5;have HF5:Hid _:=hf5;have HA5:Hid _:=ha5;have HB5:Hid _:=hb5;clear hx5 hf5 ha5 hb5 CW;refine Ak ?_);unfold AA;clear c6;have CM:=Nv B w5 g gt gh gw R n3 x5 HX5.out HI3.out.hold now;rw[HMY.out] at CM;obtain⟨my,hmy⟩:=eX (EC n now);rw[←hmy] at CM;have HMY2:Hid _:=hmy;clear hmy HMY;go_wp2_with (go_at_call 59;refine CM.mono ?_;rintro e w6 ⟨rfl,b6⟩;have B6:Hid _:=b6;clear b6 CM;refine Ak ?_);unfold AA;have HX6:Hid _:=HX5.out.below B6.out;have HF6:Hid (FQ (DL g gt gh gw r) (DL g gt gh gw x5) w w6):=HF5.out.add B6.out;have HA6:Hid (AU 0 w6 (.slice oa la ca) AG∧∀k,(aH oa la ca).ownBlock=some k→¬DL g gt gh gw x5 k):=⟨HA5.out.1.below B6.out,HA5.out.2⟩;have HB6:Hid (AU 0 w6 (.slice ob lb cb) GO∧∀k,(aH ob lb cb).ownBlock=some k→¬DL g gt gh gw x5 k):=⟨HB5.out.1.below B6.out,HB5.out.2⟩;clear HX5 HF5 HA5 HB5 B6
   cases my with
   | false=>
    have HE1:Hid (Ct (Al R) n now=if now%n.beat=0 then H7 (GO.foldl ED n3) else GO.foldl ED n3):=by
     show _=_;rw[HE.out, ←HMY2.out];rfl
    have HS7:Hid (Av B w6 w6 g gt gh gw R n3 x5 (fun _=>False)):=Av.begin HX6.out (aC _ _) fun k e=>e.elim;have HI7:Hid (Az (M+2+3*64) R n3):=HIA.out 0;obtain⟨w7,hw7⟩:=eX w6;rw[←hw7];have HS7:Hid (Av B w6 w7 g gt gh gw R n3 x5 (fun _=>False)):=by rw[hw7];exact HS7
    obtain⟨n6,hn6⟩:=eX n3;rw[←hn6] at HS7 HI7 HE1;have HB7:Hid (n6.beat=n.beat):=by show _=_;rw[hn6];exact HB3.out
    clear hw7 hn6;go_wp2_with fail;have hbn:=HB7.out;have hnb:∀k,(aH ob lb cb).ownBlock=some k→k<w6.heap.size∧¬DL g gt gh gw x5 k:=fun k e=>⟨(HB6.out.1.lt k e).2,HB6.out.2 k e⟩
    have CD:Calls aA 75 #[.pointer (some ⟨g,0,none⟩),.slice ob lb cb,.int .i64 4] w7 fun e w'=>e=.returned (.tuple #[])∧Av B w6 w' g gt gh gw R (GO.foldl ED n6) x5 (fun _=>False)∧Ec (fun _=>False) w7 w':=by
     obtain⟨u7,hu7,hf7,_⟩:=HS7.out.ex;have hrow:AU 0 w7 (.slice ob lb cb) GO:=HB6.out.1.kept hf7.kept HB6.out.2
     have hno:∀k,(aH ob lb cb).ownBlock=some k→¬DL g gt gh gw u7 k:=fun k e e'=>by
      rcases hf7.foot k e' with p | p
      ·exact(hnb k e).2 p
      ·have:=(hnb k e).1;omega
     refine(L6 B w7 g gt gh gw R n6 u7 hu7 0 _ GO (by have:=HI7.out.log;have:=HM.out.1;have:=HLA.out.2.2;omega) hrow hno 4).mono fun e w' p=>⟨p.1,?_⟩;obtain⟨u,hu,hf⟩:=p.2;exact⟨⟨⟨u,hu,hf7.trans hf,fun k e=>e.elim⟩⟩,fun k e=>e.elim⟩
    have hi8:Az (M+2+3*64+lb) R (GO.foldl ED n6):=by rw[HLA.out.2.2.1];exact M4 GO HI7.out
    have hb8:(GO.foldl ED n6).beat=be:=by
     have:∀(l:List AN) (m:Af Aq),(l.foldl ED m).beat=m.beat:=fun l=>by
      induction l with
      | nil=>intro m;rfl
      | cons y l ih=>intro m;exact ih (ED m y)
     rw[this,hbn,HTR.out.1]
    obtain⟨n8,hn8⟩:=eX (GO.foldl ED n6);rw[←hn8] at CD hi8 hb8;have HE2:Hid (Ct (Al R) n now=if now%n.beat=0 then H7 n8 else n8):=by show _=_;rw[HE1.out, ←hn8]
    clear hn8 hbn hnb;go_wp2_with (go_at_call 75;refine CD.mono ?_;rintro e w8 ⟨rfl,a8⟩;have A8:Hid _:=a8;clear a8 CD;refine Ak ?_);unfold AA;have c2:w8.cell? ⟨g,2,none⟩=some (.int .i64 be):=by obtain⟨u,hu⟩:=A8.out.1.ndV;rw[←hb8];exact hu.f.c2
    have FT:Hid (∀W m,Av B w6 W g gt gh gw R m x5 (fun _=>False)→Dl B w W g gt gh gw R m r):=fun W m hm=>by
     obtain⟨u,hu,hf,_⟩:=hm.ex;exact⟨u,hu,HF6.out.trans hf⟩
    by_cases hz:tr=0
    ·have hz':(tr==0)=true:=by simpa using hz
     have CB:=A8.out.1.call fun u hu=>Px B w8 g gt gh gw R n8 u hu hi8 (by have:=HM.out.1;have:=HLA.out.2.2.2;omega);go_wp2_with (go_at_call 76;refine CB.mono ?_;rintro e w9 ⟨rfl,a9⟩;have A9:Hid _:=a9;clear a9 CB);go_end0;refine⟨rfl,?_⟩;rw[HE2.out,if_pos (HTR.out.2.1 hz)];exact FT.out _ _ A9.out.1
    ·have hz':(tr==0)=false:=by simpa using hz
     go_wp2_with fail;go_end0;refine⟨rfl,?_⟩;rw[HE2.out,if_neg (fun e=>hz (HTR.out.2.2 e))];exact FT.out _ _ A8.out.1
   | true=>
    go_wp2_with fail;go_loopw [47] (fun s47 wr=> ∃j:Nat,j≤la∧s47=.int .i64 (j:Int)∧Hid (Av B w6 wr g gt gh gw R ((AG.take j).foldl (fun n x=>DJ (Al R) n now x) n3) x5 (fun _=>False))) (fun s47 _=>la-(intOf s47).toNat)
    case atStart=>exact⟨0,aK _,rfl,Av.begin HX6.out (aC _ _) fun k e=>e.elim⟩
    case round=>
     obtain⟨j,hj,rfl,HS⟩:=hrel;by_cases hlt:j<la
     ·have hlt':(j:Int)<(la:Int):=by omega
      have hkp:=HS.out.kept;obtain⟨gb,off,cur,ty,fr,x,rfl,hgb,hcc,hxa⟩:=(HA6.out.1.kept hkp HA6.out.2).sl.at j hlt;have LD:Hid ((loadVar 112 ⟨gb,off+j*17,none⟩).run aA wr=.ok (.agg (AD x)) wr):=On hgb hcc;obtain⟨wx,hwx⟩:=eX (wr.alloc (.cells (AD x) 112));have Zx:wx.heap[wr.heap.size]?=some (.cells (AD x) 112 (0,0)):=by rw[hwx];exact Ab _ _ _ rfl
      have HSx:Av B w6 wx g gt gh gw R ((AG.take j).foldl (fun n x=>DJ (Al R) n now x) n3) x5 (fun _=>False):=HS.out.below (by rw[hwx];exact(aC _ _).alloc (aB _) _);have hax:=HAX.out x (aP hxa)
      have CA:Calls aA 74 #[.pointer (some ⟨g,0,none⟩),.agg (AD x),.int .i64 now] wx fun e w'=>e=.returned (.tuple #[])∧Av B w6 w' g gt gh gw R ((AG.take (j+1)).foldl (fun n x=>DJ (Al R) n now x) n3) x5 (fun _=>False)∧Ec (fun _=>False) wx w':=by
       rw[Qo _ _ hxa];exact HSx.call fun u hu=>Agp B wx g gt gh gw R _ u hu ((HIA.out j).le (M:=900000) (by have:=HM.out.1;omega)) (by omega) x hax.1 hax.2.1 hax.2.2 now
      have SRx:(wr.alloc (.cells (AD C9) 112)).setRow wr.heap.size (AD x)=wx:=by rw[hwx];exact Bo _ _ _ _ _ rfl
      clear hgb hcc hxa hwx HSx hax hkp
      go_wp2_with (first
       | ((with_reducible refine IJ _ rfl ?_);refine GS rfl _ rfl gb (off+j*17) rfl x LD.out ?_)
       | (((with_reducible refine Oc _ _ rfl ?_);refine Kg rfl _ _ rfl wr.heap.size x C9 rfl rfl (Ab _ _ _ rfl) _ SRx ?_);refine Ak ?_))
      unfold AA;clear SRx
      go_wp2_with (first
       | ((with_reducible refine IJ _ rfl ?_);refine GS rfl _ rfl wr.heap.size 0 rfl x (Lt Zx) ?_)
       | (go_at_call 74;refine CA.mono ?_;rintro e w2 ⟨rfl,a2⟩;have A2:Hid _:=a2;clear a2 CA))
      go_roundw
      case rel=>exact⟨j+1,by omega,by go_num,A2.out.1⟩
      case measure=>simp[intOf];omega
     ·have hlt':¬(j:Int)<(la:Int):=by omega
      obtain rfl:j=la:=by omega
      have HTK:Hid (AG.take j=AG):=by show _=_;exact aD (by have:=HLA.out.1;omega)
      obtain⟨n6,hn6⟩:=eX (AG.foldl (fun n x=>DJ (Al R) n now x) n3)
      have HE1:Hid (Ct (Al R) n now=if now%n.beat=0 then H7 (GO.foldl ED n6) else GO.foldl ED n6):=by
       show _=_;rw[HE.out, ←HMY2.out,hn6];rfl
      have HS7:Hid (Av B w6 wr g gt gh gw R n6 x5 (fun _=>False)):=by have:=HS.out;rw[HTK.out, ←hn6] at this;exact this
      have HI7:Hid (Az (M+2+3*64) R n6):=by have:=HIA.out j;rw[HTK.out, ←hn6] at this;exact this
      have HB7:Hid (n6.beat=n.beat):=by show _=_;rw[hn6,VH];exact HB3.out
      clear hn6 HS HTK;go_wp2_with fail;have hbn:=HB7.out;have hnb:∀k,(aH ob lb cb).ownBlock=some k→k<w6.heap.size∧¬DL g gt gh gw x5 k:=fun k e=>⟨(HB6.out.1.lt k e).2,HB6.out.2 k e⟩
      have CD:Calls aA 75 #[.pointer (some ⟨g,0,none⟩),.slice ob lb cb,.int .i64 4] wr fun e w'=>e=.returned (.tuple #[])∧Av B w6 w' g gt gh gw R (GO.foldl ED n6) x5 (fun _=>False)∧Ec (fun _=>False) wr w':=by
       obtain⟨u7,hu7,hf7,_⟩:=HS7.out.ex;have hrow:AU 0 wr (.slice ob lb cb) GO:=HB6.out.1.kept hf7.kept HB6.out.2
       have hno:∀k,(aH ob lb cb).ownBlock=some k→¬DL g gt gh gw u7 k:=fun k e e'=>by
        rcases hf7.foot k e' with p | p
        ·exact(hnb k e).2 p
        ·have:=(hnb k e).1;omega
       refine(L6 B wr g gt gh gw R n6 u7 hu7 0 _ GO (by have:=HI7.out.log;have:=HM.out.1;have:=HLA.out.2.2;omega) hrow hno 4).mono fun e w' p=>⟨p.1,?_⟩;obtain⟨u,hu,hf⟩:=p.2;exact⟨⟨⟨u,hu,hf7.trans hf,fun k e=>e.elim⟩⟩,fun k e=>e.elim⟩
      have hi8:Az (M+2+3*64+lb) R (GO.foldl ED n6):=by rw[HLA.out.2.2.1];exact M4 GO HI7.out
      have hb8:(GO.foldl ED n6).beat=be:=by
       have:∀(l:List AN) (m:Af Aq),(l.foldl ED m).beat=m.beat:=fun l=>by
        induction l with
        | nil=>intro m;rfl
        | cons y l ih=>intro m;exact ih (ED m y)
       rw[this,hbn,HTR.out.1]
      obtain⟨n8,hn8⟩:=eX (GO.foldl ED n6);rw[←hn8] at CD hi8 hb8;have HE2:Hid (Ct (Al R) n now=if now%n.beat=0 then H7 n8 else n8):=by show _=_;rw[HE1.out, ←hn8]
      clear hn8 hbn hnb;go_wp2_with (go_at_call 75;refine CD.mono ?_;rintro e w8 ⟨rfl,a8⟩;have A8:Hid _:=a8;clear a8 CD;refine Ak ?_);unfold AA;have c2:w8.cell? ⟨g,2,none⟩=some (.int .i64 be):=by obtain⟨u,hu⟩:=A8.out.1.ndV;rw[←hb8];exact hu.f.c2
      have FT:Hid (∀W m,Av B w6 W g gt gh gw R m x5 (fun _=>False)→Dl B w W g gt gh gw R m r):=fun W m hm=>by
       obtain⟨u,hu,hf,_⟩:=hm.ex;exact⟨u,hu,HF6.out.trans hf⟩
      by_cases hz:tr=0
      ·have hz':(tr==0)=true:=by simpa using hz
       have CB:=A8.out.1.call fun u hu=>Px B w8 g gt gh gw R n8 u hu hi8 (by have:=HM.out.1;have:=HLA.out.2.2.2;omega);go_wp2_with (go_at_call 76;refine CB.mono ?_;rintro e w9 ⟨rfl,a9⟩;have A9:Hid _:=a9;clear a9 CB);go_end0;refine⟨rfl,?_⟩;rw[HE2.out,if_pos (HTR.out.2.1 hz)];exact FT.out _ _ A9.out.1
      ·have hz':(tr==0)=false:=by simpa using hz
       go_wp2_with fail;go_end0;refine⟨rfl,?_⟩;rw[HE2.out,if_neg (fun e=>hz (HTR.out.2.2 e))];exact FT.out _ _ A8.out.1
structure MsC(w:World)(p:Nat)(m:An):Prop where
 c0:w.cell? ⟨p,0,none⟩=some (.int .i64 m.kind)
 n:∀j,j<13→w.cell? ⟨p,j+1,none⟩=some (.int .i64 (Ad m j))
theorem Dm{w:World}{p:Nat}{m:An}{t:TypeId}{fr:Nat×Nat}(hm:BB m)(h:w.heap[p]?=some (.cells (Ae m) t fr)):MsC w p m:=
 ⟨by rw[cell_of_row w p 0 _ _ _ h];exact DB m,fun j hj=>by rw[cell_of_row w p (j+1) _ _ _ h];exact BK hm j hj⟩
theorem Acg(k e a o ac on tw:Int)(c:List Int×List Int)(W:World):(Instr.build 102 #[(0,.int .i64 k),(1,.int .i64 e),(2,.int .i64 a),(3,.int .i64 o),(4,.agg (cv (AC c.1) (AC c.2))),(5,.int .i64 ac),(6,.int .i64 on),(7,.int .i64 tw)]).run aA W=.ok (.agg (Ac ⟨k,e,a,o,c,ac,on,tw,0,0,0⟩)) W:=by
 obtain⟨V,M⟩:=c;dsimp only;obtain⟨a0,a1,a2,a3,a4,a5,a6,a7,a8,a9,a10,a11,a12,h1⟩:=MW (AV V);obtain⟨b0,b1,b2,b3,b4,b5,b6,b7,b8,b9,b10,b11,b12,h2⟩:=MW (AV M);unfold Ac;dsimp only;rw[h1,h2];kernel_rfl
def MZ(m:An):Ai:=⟨if m.kind=2 then 2 else 3,Ad m 1,Ad m 3,Ad m 5,m.cube,Ad m 6,Ad m 7,Ad m 8,0,0,0⟩
theorem Aj5{m:An}(hr:Ca m=true)(hk:m.kind=1∨m.kind=2):MZ m=Iy m:=by
 obtain⟨_,h2,_⟩:=(GI m).1 hr;unfold MZ Iy;rcases hk with hk | hk
 ·rw[if_neg (by rw[hk];decide),if_neg (by rw[hk];decide),(h2 5 (by decide)).2.2 (by rw[hk];decide),(h2 6 (by decide)).2.2 (by rw[hk];decide)]
 ·rw[if_pos hk,if_pos hk,(h2 7 (by decide)).2.2 (by rw[hk];decide),(h2 8 (by decide)).2.2 (by rw[hk];decide)]
theorem Akn(x:Ai)(c:Int):Ac {x with bank:=c}=(Ac x).setIfInBounds 0 (.int .i64 c):=by
 have key:∀b,Ac {x with bank:=b}=(Value.int .i64 b::([.int .i64 x.epoch,.int .i64 x.place,.int .i64 x.order]++(cv (AC x.cube.1) (AC x.cube.2)).toList++[.int .i64 x.action,.int .i64 x.one,.int .i64 x.two,.int .i64 x.born,.int .i64 x.used,.int .i64 x.count])).toArray:=fun b=>by
  unfold Ac;apply Array.ext';simp only[Array.toList_append,List.cons_append,List.nil_append]
 have k2:Ac x=_:=key x.bank;rw[key c,k2,aI,aM]
theorem Abd(w:World)(m:An)(hm:BB m):
  Calls aA 150 #[.agg (Ae m)] w fun e w'=>e=.returned (.agg (Ac (MZ m)))∧Below w.heap.size w w':=by
 obtain⟨w0,hw0⟩:=eX ((w.alloc (.cells (Ae m) 39)).alloc (.cells (Ac AJ) 102));have B0:Hid (Below w.heap.size w w0):=by show Below _ _ _;rw[hw0];exact((aC _ _).alloc (aB _) _).alloc (by rw[Bf];exact Nat.le_succ _) _
 have Z0:Hid (w0.heap[w.heap.size]?=some (.cells (Ae m) 39 (0,0))):=by show _=_;rw[hw0];exact Ah _ _ _ _ (Ab _ _ _ rfl)
 have Z1:Hid (w0.heap[w.heap.size+1]?=some (.cells (Ac AJ) 102 (0,0))):=by show _=_;rw[hw0];exact Ab _ _ _ (by rw[Bf])
 have Zs:Hid (w0.heap.size=w.heap.size+2):=by show _=_;rw[hw0,Bf,Bf]
 have MC:=Dm hm Z0.out;have e0:=MC.c0;have e2:=MC.n 1 (by decide);have e4:=MC.n 3 (by decide);have e6:=MC.n 5 (by decide);have e7:=MC.n 6 (by decide);have e8:=MC.n 7 (by decide);have e9:=MC.n 8 (by decide);have HCU:Hid (∀j,j<26→(Ae m)[14+j]?=(cv (AC m.cube.1) (AC m.cube.2))[j]?):=fun j hj=>by rw[EX hm.2.1.1,EX hm.2.2.1.1];exact Kq hm j hj
 have HCS:Hid ((cv (AC m.cube.1) (AC m.cube.2)).size=26):=Bq _ _ (AV _) (AV _);have hw0':=hw0.symm;obtain⟨k,hk⟩:=eX m.kind;have HK:Hid _:=hk;rw[←hk] at e0;obtain⟨x,hx⟩:∃x:Ai,x=⟨3,Ad m 1,Ad m 3,Ad m 5,m.cube,Ad m 6,Ad m 7,Ad m 8,0,0,0⟩:=⟨_,rfl⟩;have HX:Hid _:=hx;have BI:Hid (∀W,(Instr.build 102 #[(0,.int .i64 3),(1,.int .i64 (Ad m 1)),(2,.int .i64 (Ad m 3)),(3,.int .i64 (Ad m 5)),(4,.agg (cv (AC m.cube.1) (AC m.cube.2))),(5,.int .i64 (Ad m 6)),(6,.int .i64 (Ad m 7)),(7,.int .i64 (Ad m 8))]).run aA W=.ok (.agg (Ac x)) W):=fun W=>by rw[HX.out];exact Acg 3 (Ad m 1) (Ad m 3) (Ad m 5) (Ad m 6) (Ad m 7) (Ad m 8) m.cube W
 clear hm hk hx hw0 MC;go_enter Tryz.func150,Tryz.ntmps150
 go_wp2_with (first
  | ((with_reducible refine Jx rfl ?_);refine Ev rfl rfl ?_;try rw[Bf])
  | ((with_reducible refine Aw 37 _ rfl ?_);refine AH Es rfl _ rfl w.heap.size 14 rfl _ _ _ (cv (AC m.cube.1) (AC m.cube.2)) HCS.out Z0.out HCU.out ?_)
  | ((with_reducible refine Cy 102 _ rfl ?_);refine Ll rfl _ _ rfl _ (by simp only[aL,aN,aO];rfl) _ (BI.out _) ?_)
  | (((with_reducible refine Ff _ _ rfl ?_);refine Ck rfl _ _ rfl w0.heap.size x AJ rfl rfl (Ab _ _ _ rfl) _ (Bo _ _ _ _ _ rfl) ?_);refine Ak ?_))
 unfold AA;obtain⟨w1,hw1⟩:=eX (w0.alloc (.cells (Ac x) 102));rw[←hw1];obtain⟨q,hq⟩:=eX w0.heap.size;rw[←hq];have B1:Hid (Below w.heap.size w w1):=by show Below _ _ _;rw[hw1];exact B0.out.alloc B0.out.size _
 have Y0:Hid (w1.heap[w.heap.size]?=some (.cells (Ae m) 39 (0,0))):=by show _=_;rw[hw1];exact Ah _ _ _ _ Z0.out
 have Y1:Hid (w1.heap[w.heap.size+1]?=some (.cells (Ac AJ) 102 (0,0))):=by show _=_;rw[hw1];exact Ah _ _ _ _ Z1.out
 have Y2:Hid (w1.heap[q]?=some (.cells (Ac x) 102 (0,0))):=by show _=_;rw[hw1];exact Ab _ _ _ hq
 have Qq:Hid (q=w.heap.size+2):=by show q=_;rw[hq];exact Zs.out
 have e0':w1.cell? ⟨w.heap.size,0,none⟩=some (.int .i64 k):=by rw[cell_of_row w1 _ 0 _ _ _ Y0.out,HK.out];exact DB m
 clear e0 e2 e4 e6 e7 e8 e9 hw0' hw1 hq Z0 Z1 Zs B0 BI HCU HCS;by_cases hk2:k=2
 ·have hk2':(k==2)=true:=by simpa using hk2
  have hY2:=Y2.out;have fz:w1.frozen? ⟨q,0,none⟩=false:=by unfold World.frozen?;simp only[hY2];rfl
  have fc:w1.cell? ⟨q,0,none⟩=some (.int .i64 3):=by have:=(E8 hY2).c0;rw[HX.out] at this;exact this
  obtain⟨y,hy⟩:∃y:Ai,y={x with bank:=2}:=⟨_,rfl⟩
  have HY:Hid (y=MZ m):=by
   show y=_;rw[hy,HX.out];unfold MZ;rw[if_pos (by rw[←HK.out];exact hk2)]
  have SR:w1.setCell ⟨q,0,none⟩ (.int .i64 2)=w1.setRow q (Ac y):=by
   rw[hy,Akn];exact setCell_eq_setRow w1 q 0 _ _ _ _ hY2
  obtain⟨w2,hw2⟩:=eX (w1.setRow q (Ac y));rw[←hw2] at SR;have X2:Hid (w2.heap[q]?=some (.cells (Ac y) 102 (0,0))):=by show _=_;rw[hw2];exact setRow_heap _ _ _ _ _ _ hY2
  have X1:Hid (w2.heap[w.heap.size+1]?=some (.cells (Ac AJ) 102 (0,0))):=by show _=_;rw[hw2,setRow_other _ _ _ _ (by have:=Qq.out;omega)];exact Y1.out
  have B2:Hid (Below w.heap.size w w2):=by show Below _ _ _;rw[hw2];exact Aj B1.out (by have:=Qq.out;omega) _
  clear hw2 hy hY2
  go_wp2_with (first
   | ((with_reducible refine Hy _ rfl ?_);refine Dy rfl _ rfl q 0 rfl y (He X2.out) ?_)
   | ((with_reducible refine Ff _ _ rfl ?_);refine Ck rfl _ _ rfl (w.heap.size+1) y AJ rfl rfl X1.out _ rfl ?_))
  refine Fa TG (p:=2) rfl rfl (w.heap.size+1) rfl (Ac y) (Bl _) (setRow_heap _ _ _ _ _ _ X1.out) ⟨by rw[HY.out],?_⟩;exact Aj B2.out (by omega) _
 ·have hk2':(k==2)=false:=by simpa using hk2
  have HY:Hid (x=MZ m):=by
   show x=_;rw[HX.out];unfold MZ;rw[if_neg (by rw[←HK.out];exact hk2)]
  go_wp2_with (first
   | ((with_reducible refine Hy _ rfl ?_);refine Dy rfl _ rfl q 0 rfl x (He Y2.out) ?_)
   | ((with_reducible refine Ff _ _ rfl ?_);refine Ck rfl _ _ rfl (w.heap.size+1) x AJ rfl rfl Y1.out _ rfl ?_))
  refine Fa TG (p:=2) rfl rfl (w.heap.size+1) rfl (Ac x) (Bl _) (setRow_heap _ _ _ _ _ _ Y1.out) ⟨by rw[HY.out],?_⟩;exact Aj B1.out (by omega) _
theorem Av.newRow{B:Nat}{w W:World}{g gt gh gw:Nat}{R:Rm}{n:Af Aq}{r:D0}{O:Nat→Prop}(a:Av B w W g gt gh gw R n r O)(cs:Array Value)(t:TypeId):Av B w (W.alloc (.cells cs t)) g gt gh gw R n r (fun k=>O k∨k=W.heap.size):=
 a.more ((aC _ _).alloc (aB _) _) fun k hk=>by
  rcases hk with e | rfl
  ·exact .inl e
  ·exact .inr ⟨aB _,by rw[Bf];exact aT _⟩
theorem Td(R:Rm)(n:Af Aq)(m:An)(now:Int):JW (Al R) n m now=Cc (if ((Al R).learn n.tab now (Ad m 1) m.cube (Ad m 6)).2.2=true then Cc (AX n ((Al R).learn n.tab now (Ad m 1) m.cube (Ad m 6)).1) ⟨11,0,0,0,((Al R).learn n.tab now (Ad m 1) m.cube (Ad m 6)).2.1.epoch,((Al R).learn n.tab now (Ad m 1) m.cube (Ad m 6)).2.1.action,0,0,Z,((Al R).learn n.tab now (Ad m 1) m.cube (Ad m 6)).2.1.cube⟩ else AX n ((Al R).learn n.tab now (Ad m 1) m.cube (Ad m 6)).1) ⟨10,0,0,0,Ad m 1,Ad m 6,0,0,Z,m.cube⟩:=rfl
theorem Aiw{room:Nat}(h:room=0)(C:List Ai)(s:Ai):Cr room C s=(C,AJ,false,13):=by rw[h,Qf]
theorem Afe{room:Nat}(h:room≠0)(C:List Ai)(s:Ai):(Cr room C s).2.2.2=0:=by
 unfold Cr;rw[if_neg h];split
 ·rfl
 ·split
  ·split <;> rfl
  ·rfl
theorem YP(B:Nat)(w:World)(g gt gh gw:Nat)(R:Rm)(n:Af Aq)(r:D0)(h:Cb B w g gt gh gw R n r){M:Nat}(hi:Az M R n)(hM:M≤900000)(m:An)(hm:BB m)(now:Int):
  Calls aA 156 #[.pointer (some ⟨g,0,none⟩),.agg (Ae m),.int .i64 now] w fun e w'=>e=.returned (.bool (decide (n.cache≠0)))∧Dl B w w' g gt gh gw R (if n.cache≠0 then JW (Al R) n m now else n) r:=by
 obtain⟨w0,hw0⟩:=eX (w.alloc (.cells (Ae m) 39));have B0:Below w.heap.size w w0:=by rw[hw0];exact(aC _ _).alloc (aB _) _
 have Z00:w0.heap[w.heap.size]?=some (.cells (Ae m) 39 (0,0)):=by rw[hw0];exact Ab _ _ _ rfl
 have Z0:Hid ((aJ w0).heap[w.heap.size]?=some (.cells (Ae m) 39 (0,0))):=Z00;have A0:Hid (Av B w (aJ w0) g gt gh gw R n r (fun k=>k=w.heap.size)):=Av.begin h B0.drew (by rintro k rfl;exact⟨aB _,by show _<w0.heap.size;rw[hw0,Bf];exact aT _⟩);have HCU:Hid (∀j,j<26→(Ae m)[14+j]?=(cv (AC m.cube.1) (AC m.cube.2))[j]?):=fun j hj=>by rw[EX hm.2.1.1,EX hm.2.2.1.1];exact Kq hm j hj
 have HCS:Hid ((cv (AC m.cube.1) (AC m.cube.2)).size=26):=Bq _ _ (AV _) (AV _);obtain⟨S',hS'⟩:=eX (((Al R).learn n.tab now (Ad m 1) m.cube (Ad m 6)).1);obtain⟨s,hs⟩:=eX (((Al R).learn n.tab now (Ad m 1) m.cube (Ad m 6)).2.1);obtain⟨b,hb⟩:=eX (((Al R).learn n.tab now (Ad m 1) m.cube (Ad m 6)).2.2);obtain⟨er,her⟩:=eX ((Cr R.cache n.tab.c (Co now (Ad m 1) (Bh m.cube) (Ad m 6))).2.2.2)
 have CL:Hid (∀W O,Av B w W g gt gh gw R n r O→Calls aA 189 #[.pointer (some ⟨gt,0,none⟩),.int .i64 now,.int .i64 (Ad m 1),.agg (cv (AC m.cube.1) (AC m.cube.2)),.int .i64 (Ad m 6)] W fun e w'=>e=.returned (.tuple #[.agg (Ac s),.bool b,.int .i64 er])∧Av B w w' g gt gh gw R (AX n S') r O∧Ec O W w'):=fun W O hW=>by
  rw[hS',hs,hb,her];refine hW.call fun u hu=> ?_;have hc1:=hi.tab.inv.lc;have hc2:=hi.room;refine(Aff B W gt R n.tab u.v1 u.v2 u.v3 hu.tab now (Ad m 1) m.cube (Ad m 6) ⟨hm.2.1,hm.2.2.1⟩ (by omega) hi.tab.dist fun y hy=>(hi.tab.inv.c y hy).2.2.2.2.2.2.2).mono fun e w' q=>⟨q.1,hu.setTab q.2⟩
 have hlg:=hi.log;have e0:=Td R n m now
 have HNO:Hid (n.cache=0→(AX n S'=n∧b=false∧er=13)):=fun h0=>by
  have h1:=Aiw (by have:=hi.cache;omega:R.cache=0) n.tab.c (Co now (Ad m 1) (Bh m.cube) (Ad m 6));refine⟨?_,?_,by rw[her,h1]⟩
  ·rw[hS'];show AX n {n.tab with c:=(Cr R.cache n.tab.c (Co now (Ad m 1) (Bh m.cube) (Ad m 6))).1}=_;rw[h1];rfl
  ·rw[hb];show(Cr R.cache n.tab.c (Co now (Ad m 1) (Bh m.cube) (Ad m 6))).2.2.1=_;rw[h1]
 have HYES:Hid (n.cache≠0→er=0):=fun h0=>by rw[her];exact Afe (by have:=hi.cache;omega) _ _
 rw[←hS', ←hs, ←hb] at e0;obtain⟨ep,hep⟩:=eX (Ad m 1);obtain⟨ac,hac⟩:=eX (Ad m 6);have HEP:Hid (ep=Ad m 1):=hep;have HAC:Hid (ac=Ad m 6):=hac;rw[←hep, ←hac] at CL e0;have HM:Hid (BB m):=hm;obtain⟨nu,hnu⟩:=eX n.num;obtain⟨le,hle⟩:=eX n.lease;obtain⟨be,hbe⟩:=eX n.beat;have HNU:Hid ((n.num=nu∧n.lease=le∧n.beat=be)∧(AX n S').num=nu∧(AX n S').lease=le∧(AX n S').beat=be):=⟨⟨hnu.symm,hle.symm,hbe.symm⟩,hnu.symm,hle.symm,hbe.symm⟩;have HS0:Hid (DN g gt gh gw nu le be (fun W=>W.heap[w.heap.size]?=some (.cells (Ae m) 39 (0,0))) (aJ w0)):=A0.out.inN HNU.out.1.1 HNU.out.1.2.1 HNU.out.1.2.2 Z0.out;have hw0':=hw0.symm;have HLG0:Hid (n.log.length≤1000000):=by show _≤_;omega
 have HLG1:Hid (n.log.length+1≤1000000):=by show _≤_;omega
 have HE0:Hid _:=e0;clear hi hM hm hnu hle hbe hep hac hw0 B0 Z00 hlg hS' hs hb her e0 h;go_enter Tryz.func156,Tryz.ntmps156;go_wp2_with fail;have e4:∀z:Fu g gt gh gw nu le be (fun W=>W.heap[w.heap.size]?=some (.cells (Ae m) 39 (0,0))),z.world.cell? ⟨g,4,none⟩=some (.pointer (some ⟨gt,0,none⟩)):=fun z=>z.c4;have ne9:Nonempty (Fu g gt gh gw nu le be (fun W=>W.heap[w.heap.size]?=some (.cells (Ae m) 39 (0,0)))):=by obtain⟨z,_⟩:=HS0.out;exact⟨z⟩
 have e2:∀z:Fu g gt gh gw nu le be (fun W=>W.heap[w.heap.size]?=some (.cells (Ae m) 39 (0,0))),z.world.cell? ⟨w.heap.size,2,none⟩=some (.int .i64 ep):=fun z=>by rw[HEP.out];exact(Dm HM.out z.x).n 1 (by decide)
 have e7:∀z:Fu g gt gh gw nu le be (fun W=>W.heap[w.heap.size]?=some (.cells (Ae m) 39 (0,0))),z.world.cell? ⟨w.heap.size,7,none⟩=some (.int .i64 ac):=fun z=>by rw[HAC.out];exact(Dm HM.out z.x).n 6 (by decide)
 refine Ey ?_;refine B8 (DN g gt gh gw nu le be (fun W=>W.heap[w.heap.size]?=some (.cells (Ae m) 39 (0,0)))) 20 rfl (by kernel_rfl) ?_;refine rR [0,4,5,7,9,1,6,8,10,2,3] 11 9 HS0.out ?_;simp only[pk]
 iterate 7 (go_big_quiet_step (fail))
 refine JJ Es rfl _ rfl w.heap.size 14 rfl _ _ _ (cv (AC m.cube.1) (AC m.cube.2)) HCS.out (fun w' h=>by obtain⟨z,rfl⟩:=h;exact z.x) HCU.out ?_;simp only[pU]
 iterate 3 (go_big_quiet_step (fail))
 refine wpQuiet_nil ?_;refine rA 11 16 ?_ ?_
 focus
  refine Bm rfl rfl 189 #[.tmp 14,.tmp 15,.tmp 17,.tmp 19,.tmp 21] (by intro b w;have hf:=Tryz.func189;simp[go_sem]) #[.pointer (some ⟨gt,0,none⟩),.int .i64 now,.int .i64 ep,.agg (cv (AC m.cube.1) (AC m.cube.2)),.int .i64 ac] rfl (fun v w'=>v=.tuple #[.agg (Ac s),.bool b,.int .i64 er]∧Av B w w' g gt gh gw R (AX n S') r (fun k=>k=w.heap.size)∧Ec (fun k=>k=w.heap.size) (aJ w0) w') ((CL.out (aJ w0) _ A0.out).mono fun e w' h=>⟨_,h.1,rfl,h.2⟩) (some 22) rfl ?_;rintro v w2 ⟨rfl,a2,k2⟩;have A2:Hid _:=a2;have Z2:Hid (w2.heap[w.heap.size]?=some (.cells (Ae m) 39 (0,0))):=(k2 _ rfl).trans Z0.out;clear a2 k2;have I2:Hid (DN g gt gh gw nu le be (fun W=>W.heap[w.heap.size]?=some (.cells (Ae m) 39 (0,0))) w2):=A2.out.inN HNU.out.2.1 HNU.out.2.2.1 HNU.out.2.2.2 Z2.out;refine⟨I2.out,?_⟩;simp only[pU];refine rR [12,13,14,15] 4 4 I2.out ?_;simp only[pk]
  iterate 4 (go_big_quiet_step (fail))
  refine wpQuiet_nil ?_;refine rO 16 ?_;refine J8 Fs rfl rfl rfl (some 7) rfl ?_;obtain⟨p,hp⟩:=eX ((w2).heap.size);rw[←hp];obtain⟨wa,hwa⟩:=eX ((w2).alloc (.cells EP.zero EP.elem));rw[←hwa];have Aa:Hid (Av B w wa g gt gh gw R (AX n S') r (fun k=>k=w.heap.size∨k=p)):=by show Av _ _ _ _ _ _ _ _ _ _ _;rw[hwa,hp];exact A2.out.newRow _ _
  have Ya:Hid (wa.heap[p]?=some (.cells (Ac AJ) 102 (0,0))):=by show _=_;rw[hwa];exact Ab _ _ _ hp
  have Za:Hid (wa.heap[w.heap.size]?=some (.cells (Ae m) 39 (0,0))):=by show _=_;rw[hwa];exact Ah _ _ _ _ Z2.out
  have Hp:Hid (w.heap.size≠p):=by show _≠_;have:=(gS (Z2.out));omega
  clear hp hwa;have Ia:Hid (DN g gt gh gw nu le be (fun W=>W.heap[w.heap.size]?=some (.cells (Ae m) 39 (0,0))) wa):=Aa.out.inN HNU.out.2.1 HNU.out.2.2.1 HNU.out.2.2.2 Za.out;refine⟨Ia.out,?_⟩;simp only[pU];refine rO 17 ?_;refine Iu TG rfl rfl _ _ rfl p (Ac s) (Kn s) rfl rfl _ Ya.out (Bl _) none rfl ?_;obtain⟨w3,hw3⟩:=eX ((wa).setRow p (Ac s));rw[←hw3];have A3:Hid (Av B w w3 g gt gh gw R (AX n S') r (fun k=>k=w.heap.size∨k=p)):=by show Av _ _ _ _ _ _ _ _ _ _ _;rw[hw3];exact Aa.out.row (.inr rfl) _
  have Z3:Hid (w3.heap[w.heap.size]?=some (.cells (Ae m) 39 (0,0))):=by show _=_;rw[hw3,setRow_other _ _ _ _ Hp.out];exact Za.out
  have Y3:Hid (w3.heap[p]?=some (.cells (Ac s) 102 (0,0))):=by show _=_;rw[hw3];exact setRow_heap _ _ _ _ _ _ Ya.out
 rotate_left
 focus
  refine J8 Fs rfl rfl rfl (some 7) rfl ?_;obtain⟨p,hp⟩:=eX ((aJ w0).heap.size);rw[←hp];obtain⟨wa,hwa⟩:=eX ((aJ w0).alloc (.cells EP.zero EP.elem));rw[←hwa];have Aa:Hid (Av B w wa g gt gh gw R n r (fun k=>k=w.heap.size∨k=p)):=by show Av _ _ _ _ _ _ _ _ _ _ _;rw[hwa,hp];exact A0.out.newRow _ _
  have Ya:Hid (wa.heap[p]?=some (.cells (Ac AJ) 102 (0,0))):=by show _=_;rw[hwa];exact Ab _ _ _ hp
  have Za:Hid (wa.heap[w.heap.size]?=some (.cells (Ae m) 39 (0,0))):=by show _=_;rw[hwa];exact Ah _ _ _ _ Z0.out
  have Hp:Hid (w.heap.size≠p):=by show _≠_;have:=(gS (Z0.out));omega
  clear hp hwa;have Ia:Hid (DN g gt gh gw nu le be (fun W=>W.heap[w.heap.size]?=some (.cells (Ae m) 39 (0,0))) wa):=Aa.out.inN HNU.out.1.1 HNU.out.1.2.1 HNU.out.1.2.2 Za.out;refine⟨Ia.out,?_⟩;simp only[pU];refine rO 11 ?_;refine Bm rfl rfl 189 #[.tmp 14,.tmp 15,.tmp 17,.tmp 19,.tmp 21] (by intro b w;have hf:=Tryz.func189;simp[go_sem]) #[.pointer (some ⟨gt,0,none⟩),.int .i64 now,.int .i64 ep,.agg (cv (AC m.cube.1) (AC m.cube.2)),.int .i64 ac] rfl (fun v w'=>v=.tuple #[.agg (Ac s),.bool b,.int .i64 er]∧Av B w w' g gt gh gw R (AX n S') r (fun k=>k=w.heap.size∨k=p)∧Ec (fun k=>k=w.heap.size∨k=p) (wa) w') ((CL.out (wa) _ Aa.out).mono fun e w' h=>⟨_,h.1,rfl,h.2⟩) (some 22) rfl ?_;rintro v w2 ⟨rfl,a2,k2⟩;have A2:Hid _:=a2;have Z2:Hid (w2.heap[w.heap.size]?=some (.cells (Ae m) 39 (0,0))):=(k2 _ (.inl rfl)).trans Za.out;have Y2:Hid (w2.heap[p]?=some (.cells (Ac AJ) 102 (0,0))):=(k2 _ (.inr rfl)).trans Ya.out;clear a2 k2;have I2:Hid (DN g gt gh gw nu le be (fun W=>W.heap[w.heap.size]?=some (.cells (Ae m) 39 (0,0))) w2):=A2.out.inN HNU.out.2.1 HNU.out.2.2.1 HNU.out.2.2.2 Z2.out;refine⟨I2.out,?_⟩;simp only[pU]
  refine rR [12,13,14,15] 4 3 I2.out ?_;simp only[pk]
  iterate 4 (go_big_quiet_step (fail))
  refine wpQuiet_nil ?_;refine rO 17 ?_;refine Iu TG rfl rfl _ _ rfl p (Ac s) (Kn s) rfl rfl _ Y2.out (Bl _) none rfl ?_;obtain⟨w3,hw3⟩:=eX ((w2).setRow p (Ac s));rw[←hw3];have A3:Hid (Av B w w3 g gt gh gw R (AX n S') r (fun k=>k=w.heap.size∨k=p)):=by show Av _ _ _ _ _ _ _ _ _ _ _;rw[hw3];exact A2.out.row (.inr rfl) _
  have Z3:Hid (w3.heap[w.heap.size]?=some (.cells (Ae m) 39 (0,0))):=by show _=_;rw[hw3,setRow_other _ _ _ _ Hp.out];exact Z2.out
  have Y3:Hid (w3.heap[p]?=some (.cells (Ac s) 102 (0,0))):=by show _=_;rw[hw3];exact setRow_heap _ _ _ _ _ _ Y2.out
 all_goals
  clear hw3;have I3:Hid (DN g gt gh gw nu le be (fun W=>W.heap[w.heap.size]?=some (.cells (Ae m) 39 (0,0))) w3):=A3.out.inN HNU.out.2.1 HNU.out.2.2.1 HNU.out.2.2.2 Z3.out;refine⟨I3.out,?_⟩;simp only[Act.put];refine rR [18,19] 2 0 I3.out ?_;simp only[pk];go_big_quiet_step (fail);go_big_quiet_step (fail);refine wpQuiet_nil ?_;refine rD ?_;refine⟨rfl,?_⟩;by_cases hc0:n.cache=0
  focus
   obtain⟨q1,rfl,rfl⟩:=HNO.out hc0;have HC:Hid (n.cache=0):=hc0;clear hc0;go_wp2_with fail;go_ret;have h1:=A3.out.to;rw[q1] at h1;exact⟨rfl,by simpa[HC.out] using h1⟩
  obtain rfl:=HYES.out hc0;have HC:Hid (n.cache≠0):=hc0;clear hc0
  cases b
  focus
   obtain⟨N9,hn9⟩:=eX (Cc (AX n S') ⟨10,0,0,0,ep,ac,0,0,Z,m.cube⟩);have HEN:Hid (JW (Al R) n m now=N9):=HE0.out.trans hn9.symm;have HN9:Hid (N9=Cc (AX n S') ⟨10,0,0,0,ep,ac,0,0,Z,m.cube⟩):=hn9;have HLG:Hid ((AX n S').log.length≤1000000):=HLG0;obtain⟨w4,hw4⟩:=eX w3;have Z4:Hid _:=Z3;have A4:Hid _:=A3;rw[←hw4] at Z4 A4 ⊢;clear hn9 hw4
  rotate_left
  focus
   obtain⟨se,hse⟩:=eX s.epoch;obtain⟨sa,hsa⟩:=eX s.action;have HSE:Hid (se=s.epoch):=hse;have HSA:Hid (sa=s.action):=hsa;obtain⟨N8,hn8⟩:=eX (Cc (AX n S') ⟨11,0,0,0,se,sa,0,0,Z,s.cube⟩);have HN8:Hid (N8=Cc (AX n S') ⟨11,0,0,0,se,sa,0,0,Z,s.cube⟩):=hn8;obtain⟨N9,hn9⟩:=eX (Cc N8 ⟨10,0,0,0,ep,ac,0,0,Z,m.cube⟩);have HN9:Hid (N9=Cc N8 ⟨10,0,0,0,ep,ac,0,0,Z,m.cube⟩):=hn9;have HEN:Hid (JW (Al R) n m now=N9):=HE0.out.trans (by rw[if_pos rfl, ←hse, ←hsa, ←hn8, ←hn9])
   have HLG:Hid (N8.log.length≤1000000):=by
    show _≤_;rw[hn8];show(n.log++_).length≤_;rw[List.length_append,List.length_singleton];exact HLG1.out
   clear hn9 hn8 hse hsa;have f1:w3.cell? ⟨p,1,none⟩=some (.int .i64 se):=by rw[HSE.out];have:=(E8 Y3.out).c1;rw[aG] at this;exact this
   have f30:w3.cell? ⟨p,30,none⟩=some (.int .i64 sa):=by rw[HSA.out];have:=(E8 Y3.out).c30;rw[aG] at this;exact this
   have CE:=A3.out.call (n'':=N8) (P:=fun e _=>e=.returned (.tuple #[])) fun u hu=>by rw[HN8.out];exact OU B w3 g gt gh gw R _ u hu (HLG0.out) ⟨11,0,0,0,se,sa,0,0,Z,s.cube⟩
   go_wp2_with (first
    | (refine Kh rfl _ rfl p 4 rfl _ _ _ (AC s.cube.1) (AC s.cube.2) (AV _) (AV _) Y3.out (fun j hj=>Hb s j hj) ?_)
    | ((with_reducible refine Cy 72 _ rfl ?_);refine Ll rfl _ _ rfl #[(0,.int .i64 11),(4,.int .i64 se),(5,.int .i64 sa),(9,.agg (cv (AC s.cube.1) (AC s.cube.2)))] (by simp only[aL,aN,aO];rfl) _ (RZ 11 se sa s.cube _) ?_)
    | (go_at_call 72;refine CE.mono ?_;rintro e w4 ⟨rfl,a4,k4⟩;have A4:Hid _:=a4;have K4:Hid _:=k4;clear a4 k4 CE;refine Ak ?_))
   unfold AA;have Z4:Hid (w4.heap[w.heap.size]?=some (.cells (Ae m) 39 (0,0))):=(K4.out _ (.inl rfl)).trans Z3.out
  all_goals
   have m2:w4.cell? ⟨w.heap.size,2,none⟩=some (.int .i64 ep):=by rw[HEP.out];exact(Dm HM.out Z4.out).n 1 (by decide)
   have m7:w4.cell? ⟨w.heap.size,7,none⟩=some (.int .i64 ac):=by rw[HAC.out];exact(Dm HM.out Z4.out).n 6 (by decide)
   have CN:=A4.out.call (n'':=N9) (P:=fun e _=>e=.returned (.tuple #[])) fun u hu=>by rw[HN9.out];exact OU B w4 g gt gh gw R _ u hu (HLG.out) ⟨10,0,0,0,ep,ac,0,0,Z,m.cube⟩
   go_wp2_with (first
    | ((with_reducible refine Aw 37 _ rfl ?_);refine AH Es rfl _ rfl w.heap.size 14 rfl _ _ _ (cv (AC m.cube.1) (AC m.cube.2)) HCS.out Z4.out HCU.out ?_)
    | ((with_reducible refine Cy 72 _ rfl ?_);refine Ll rfl _ _ rfl #[(0,.int .i64 10),(4,.int .i64 ep),(5,.int .i64 ac),(9,.agg (cv (AC m.cube.1) (AC m.cube.2)))] (by simp only[aL,aN,aO];rfl) _ (RZ 10 ep ac m.cube _) ?_)
    | (go_at_call 72;refine CN.mono ?_;rintro e w5 ⟨rfl,a5⟩;have A5:Hid _:=a5;clear a5 CN))
   go_ret;exact⟨rfl,by rw[HEN.out];exact A5.out.1.to⟩
theorem YB(B:Nat)(w:World)(g gt gh gw:Nat)(R:Rm)(n:Af Aq)(r:D0)(h:Cb B w g gt gh gw R n r){M:Nat}(hi:Az M R n)(ep:Int):
  Calls aA 155 #[.pointer (some ⟨g,0,none⟩),.int .i64 ep] w fun e w'=>(∃v,e=.returned v∧Fv w' v (qX n.tab ep))∧Below w.heap.size w w':=by
 have c4:=h.f.c4
 have CR:Calls aA 188 #[.pointer (some ⟨gt,0,none⟩),.int .i64 ep] w fun e w'=> ∃(L:List Ai) (o:Option Addr) (k c:Nat),e=.returned (.slice o k c)∧k=L.length∧L.map Ic=qX n.tab ep∧(k≤4096∧∀x∈L,GK x.cube)∧Au w.heap.size w' (.slice o k c) L∧Below w.heap.size w w':=by
  have hc1:=hi.tab.inv.la;have hc2:=hi.room;refine(Ae2 B w gt R n.tab r.v1 r.v2 r.v3 h.tab ep (by omega)).mono fun e w' q=> ?_;obtain⟨⟨u,L,rfl,q2,q3⟩,q4⟩:=q;obtain⟨o,c,e1,_⟩:=q3.slice;have e2:=Am4 q2;have hle:=Al3 n.tab ep;rw[←e2,aW] at hle;have e3:=UZ q2;rw[e1] at q3;refine⟨L,o,L.length,c,by rw[e1],rfl,e2,⟨by omega,fun x hx=> ?_⟩,q3,q4⟩;rw[e3] at hx;exact(hi.tab.inv.a x (aV.1 ((TX _ _).1 hx)).1).2.2.2.2.2.2.2
 clear h hi;go_enter Tryz.func155,Tryz.ntmps155;go_wp2_with (go_at_call 188;refine CR.mono ?_;rintro e w1 ⟨L,o,k,c,rfl,hk0,hq,hok,hL,hb⟩;have HK:Hid (k=L.length):=hk0;have HQ:Hid _:=hq;have HOK:Hid (k≤4096∧_):=hok;have HL:Hid (Au w.heap.size w1 (.slice o k c) L):=hL;have HB1:Hid _:=hb;clear hk0 hq hok hL hb CR;refine Ak ?_);unfold AA;clear c4
 have HQ8:Hid (∀x∈qX n.tab ep,Fz x):=fun x hx=>by
  rw[←HQ.out] at hx;obtain⟨y,hy,rfl⟩:=List.mem_map.1 hx;exact HOK.out.2 y hy
 have hk9:k≤4096:=HOK.out.1;go_wp2_with fail;go_loopw [5,15] (fun s5 i wr=> ∃j:Nat,j≤k∧i=.int .i64 (j:Int)∧Hid (wr.ownsRow w1.heap.size 189 28 s5 ((L.take j).map Ic).length (BC Bd ((L.take j).map Ic)))∧Hid (Below w1.heap.size w1 wr)) (fun _ i _=>k-(intOf i).toNat)
 case atStart=>exact⟨0,aK _,rfl,World.ownsRow_nil _ _ _ _,aC _ _⟩
 case round=>
  obtain⟨j,hj,rfl,HO,HB⟩:=hrel;by_cases hlt:j<k
  ·have hlt':(j:Int)<(k:Int):=by omega
   obtain⟨gb,off,cur,ty,fr,x,rfl,hgb,hcc,hxa⟩:=(HL.out.below HB.out).sl.at j hlt;have LD:Hid ((loadVar 102 ⟨gb,off+j*36,none⟩).run aA wr=.ok (.agg (Ac x)) wr):=JX hgb hcc;have hcx:GK x.cube:=HOK.out.2 x (aP hxa);have HRX:Hid (Ic x=⟨x.order,(AC x.cube.1,AC x.cube.2),x.action⟩):=by show _=_;rw[EX hcx.1.1,EX hcx.2.1];rfl
   have HR8:Hid (Fz (⟨x.order,(AC x.cube.1,AC x.cube.2),x.action⟩:Bp)):=by rw[←HRX.out];exact hcx
   have HTK:Hid ((L.take (j+1)).map Ic=(L.take j).map Ic++[⟨x.order,(AC x.cube.1,AC x.cube.2),x.action⟩]):=by
    show _=_;rw[List.take_add_one,hxa,Option.toList_some,List.map_append,List.map_singleton,HRX.out]
   have HLN:Hid (((L.take j).map Ic).length≤4096):=by
    show _≤_;rw[aW];have:=List.length_take_le j L;omega
   obtain⟨r',hr'⟩:∃r':Bp,r'=⟨x.order,(AC x.cube.1,AC x.cube.2),x.action⟩:=⟨_,rfl⟩;have hsz:(Bd ⟨x.order,(AC x.cube.1,AC x.cube.2),x.action⟩).size=28:=FV HR8.out;obtain⟨wx,hwx⟩:∃wx,wx=wr.alloc (.cells (Ac x) 102):=⟨_,rfl⟩;have Zx:Hid (wx.heap[wr.heap.size]?=some (.cells (Ac x) 102 (0,0))):=by show _=_;rw[hwx];exact Ab _ _ _ rfl
   obtain⟨xo,hxo⟩:∃xo,xo=x.order:=⟨_,rfl⟩;obtain⟨xc,hxc⟩:∃xc,xc=x.action:=⟨_,rfl⟩;have f3:wx.cell? ⟨wr.heap.size,3,none⟩=some (.int .i64 xo):=by rw[hxo];have:=(E8 Zx.out).c3;rw[aG] at this;exact this
   have f30:wx.cell? ⟨wr.heap.size,30,none⟩=some (.int .i64 xc):=by rw[hxc];have:=(E8 Zx.out).c30;rw[aG] at this;exact this
   rw[←hxo, ←hxc] at HRX HR8 HTK hsz;have SRx:(wr.alloc (.cells (Ac AJ) 102)).setRow wr.heap.size (Ac x)=wx:=by rw[hwx];exact Bo _ _ _ _ _ rfl
   have Bx:Hid (Below w1.heap.size w1 wx):=by show Below _ _ _;rw[hwx];exact HB.out.alloc HB.out.size _
   have Ox:Hid (wx.ownsRow w1.heap.size 189 28 u5 ((L.take j).map Ic).length (BC Bd ((L.take j).map Ic))):=by show aX _ _ _ _ _ _ _;rw[hwx];exact HO.out.alloc _
   clear hxo hxc hwx hgb hcc hxa hcx hr' r'
   go_wp2_with (first
    | ((with_reducible refine Hy _ rfl ?_);refine Dy rfl _ rfl gb (off+j*36) rfl x LD.out ?_)
    | (((with_reducible refine Ff _ _ rfl ?_);refine Ck rfl _ _ rfl wr.heap.size x AJ rfl rfl (Ab _ _ _ rfl) _ SRx ?_);refine Ak ?_))
   unfold AA;clear SRx HO;have Ox2:Hid ((wx.alloc (.cells (Bd ⟨xo,(AC x.cube.1,AC x.cube.2),xc⟩) 189)).ownsRow w1.heap.size 189 28 u5 ((L.take j).map Ic).length (BC Bd ((L.take j).map Ic))):=Ox.out.alloc _
   go_wp2_with (first
    | (refine Kh rfl _ rfl wr.heap.size 4 rfl _ _ _ (AC x.cube.1) (AC x.cube.2) (AV _) (AV _) Zx.out (fun j hj=>Hb x j hj) ?_)
    | (refine Ad3 rfl _ _ _ rfl xo (AC x.cube.1) (AC x.cube.2) xc (AV _) (AV _) rfl rfl rfl ?_)
    | (refine Ki (E:=Eh) G1 rfl _ rfl (Bd ⟨xo,(AC x.cube.1,AC x.cube.2),xc⟩) hsz rfl ?_)
    | (at_builtin;refine Ak ?_))
   unfold AA;refine KC (E:=Eh) G1 Bd rfl _ _ rfl w1.heap.size u5 ((L.take j).map Ic) ⟨xo,(AC x.cube.1,AC x.cube.2),xc⟩ (Ji HR8.out) rfl Ox2.out wx.heap.size 1 rfl (Ab _ _ _ rfl) (by have:=HLN.out;omega) (by have:=Bx.out.size;simp;omega) ?_;intro v' w3 hown3 hgr3 _;have Bx2:Below w1.heap.size w1 (wx.alloc (.cells (Bd ⟨xo,(AC x.cube.1,AC x.cube.2),xc⟩) 189)):=Bx.out.alloc Bx.out.size _;have B3:Hid (Below w1.heap.size w1 w3):=Bx2.trans ((aC _ _).grown hgr3 Bx2.size fun q hq=>(World.ownsRow.lt Ox2.out q hq).1);have O3:Hid (w3.ownsRow w1.heap.size 189 28 v' ((L.take (j+1)).map Ic).length (BC Bd ((L.take (j+1)).map Ic))):=by show aX _ _ _ _ _ _ _;rw[HTK.out];exact hown3
   clear hown3 hgr3 Bx2;simp only[Act.put,aI,aQ,aM];go_wp2_with fail;go_roundw
   case rel=>exact⟨j+1,by omega,by go_num,O3,B3⟩
   case measure=>simp[intOf];omega
  ·have hlt':¬(j:Int)<(k:Int):=by omega
   have EL:Hid (wr.ownsRow w1.heap.size 189 28 u5 (qX n.tab ep).length (BC Bd (qX n.tab ep))):=by
    have:=HO.out;rw[aD (by have:=HK.out;omega),HQ.out] at this;exact this
   clear HO;go_wp2_with fail;go_ret;exact⟨⟨_,rfl,Ti (E:=Eh) EL.out fun x hx=>FV (HQ8.out x hx)⟩,HB1.out.trans (HB.out.mono HB1.out.size)⟩
end
end Go.Proofs.YtbhkoipcpcoooaaGreat
