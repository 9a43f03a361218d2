import Derived.Test.YtbhkoipcpcoooaaGreatJ25
import Derived.Test.YtbhkoipcpcoooaaGreatJ18
import Derived.Test.YtbhkoipcpcoooaaGreatJ19
import Derived.Test.YtbhkoipcpcoooaaGreatJ24
import Derived.Test.YtbhkoipcpcoooaaGreatJ9
import Derived.Test.YtbhkoipcpcoooaaGreatJ23
import Derived.Test.YtbhkoipcpcoooaaGreatJ17
namespace Go.Proofs.YtbhkoipcpcoooaaGreat
set_option maxRecDepth 20000
set_option maxHeartbeats 64000000
open Go
open Go.Proofs.Tryz renaming prog → aA, underlying3 → aB, ntmps12 → aH, func12 → aJ, underlying24 → aN
open _root_.List renaming map_toArray → aC, map_cons → aG, map_nil → aI, all_eq_true → aO
open Go.Instr renaming build → aD
open _root_.Option.some renaming injEq → aK
open _root_.Nat renaming le_trans → aL
section
open Go.RowKit
def DA(w wr:World)(g gt gh gw:Nat)(R:Rm)(n:Af Aq):Prop:=∃r,Cb w.heap.size wr g gt gh gw R n r∧Below w.heap.size w wr
def Zn:List TypeId:=[91,161,155,102,157,112,76,72]
def Akw(W:World)(k:Nat):Prop:=∃t∈Zn,It W t k
def ET(W W':World):Prop:=As (Akw W) W W'
theorem ET.trans{a b c:World}(h:ET a b)(k:ET b c):ET a c:=
 ⟨k.os.trans h.os,k.tape.trans h.tape,k.output.trans h.output,aL h.size k.size,fun j hj hX=>by
  have e1:=h.block j hj hX
  have e2:¬Akw b j:=fun⟨t,ht,cs,fr,e⟩=>hX ⟨t,ht,cs,fr,by rw[←e1];exact e⟩
  rw[k.block j (Nat.lt_of_lt_of_le hj h.size) e2,e1]⟩
theorem ET.of{a b:World}(h:Below a.heap.size a b):ET a b:=As.of_below h
theorem Alp:∀i,i<6→∀t∈TU i,t∈Zn:=by
 have key:((List.range 6).all fun i=>(TU i).all fun t=>Zn.contains t)=true:=by decide
 intro i hi t ht;rw[aO] at key;have k1:=key i (List.mem_range.2 hi);rw[aO] at k1;exact List.contains_iff_mem.1 (k1 t ht)
theorem Cb.ndTy{B:Nat}{w:World}{g gt gh gw:Nat}{R:Rm}{n:Af Aq}{r:D0}(h:Cb B w g gt gh gw R n r):∀k,DL g gt gh gw r k→Akw w k:=by
 rintro k ⟨i,hi,hk⟩;obtain⟨t,h1,h2⟩:=h.ty i k hk;exact⟨t,Alp i hi t h1,h2⟩
theorem Cb.keptD{B:Nat}{w w':World}{g gt gh gw:Nat}{R:Rm}{n n':Af Aq}{r:D0}(h:Cb B w g gt gh gw R n r)(ht:Dl B w w' g gt gh gw R n' r):ET w w':=by
 obtain⟨u,_,h2⟩:=ht;exact h2.kept.mono fun k _ e=>h.ndTy k e
section
variable {w wr w':World} {g gt gh gw:Nat} {R:Rm} {n n':Af Aq}
theorem DA.bel(h:DA w wr g gt gh gw R n):Below w.heap.size w wr:=by obtain⟨_,_,h⟩:=h;exact h
theorem DA.grow(h:DA w wr g gt gh gw R n)(hb:Below wr.heap.size wr w'):DA w w' g gt gh gw R n:=by
 obtain⟨r,h1,h2⟩:=h;exact⟨r,h1.below hb,h2.trans (hb.mono h2.size)⟩
theorem DA.call(h:DA w wr g gt gh gw R n){f:FuncId}{xs:Array Value}{P:Ending→Prop}(hc:∀r,Cb w.heap.size wr g gt gh gw R n r→Calls aA f xs wr fun e w'=>P e∧Dl w.heap.size wr w' g gt gh gw R n' r):Calls aA f xs wr fun e w'=>P e∧DA w w' g gt gh gw R n'∧ET wr w':=by
 obtain⟨r,h1,h2⟩:=h;refine(hc r h1).mono fun e w' q=>⟨q.1,?_,h1.keptD q.2⟩;obtain⟨u,k1,k2⟩:=q.2;exact⟨u,k1,h2.trans (Dl.below h1 q.2)⟩
theorem KZ(h:DA w wr g gt gh gw R n){M:Nat}(hi:Az M R n)(hM:M≤899000)(ix:Int)(hd:List Int)(hH:AK hd)(now:Int):
  Calls aA 37 #[.pointer (some ⟨g,0,none⟩),.int .i64 ix,.agg (hv hd),.int .i64 now] wr fun e w'=>e=.returned (.tuple #[])∧DA w w' g gt gh gw R (Cl (Al R) n ix hd now)∧ET wr w':=
 h.call (P:=fun e=>e=.returned (.tuple #[])) fun r hr=>Xs _ _ g gt gh gw R n r hr hi (by omega) ix hd hH now
theorem Mi(h:DA w wr g gt gh gw R n){M:Nat}(hi:Az M R n)(hM:M≤899000)(src:Int)(data:List UInt8)(hl:data.length≤140737488355328)(now:Int):
  Calls aA 32 #[.pointer (some ⟨g,0,none⟩),.int .i64 src,.string ⟨data.toArray⟩,.int .i64 now] wr fun e w'=>e=.returned (.tuple #[])∧DA w w' g gt gh gw R (DC (Al R) n src data now)∧ET wr w':=
 h.call (P:=fun e=>e=.returned (.tuple #[])) fun r hr=>Aac _ _ g gt gh gw R n r hr hi (by omega) src data hl now
theorem Su(h:DA w wr g gt gh gw R n){M:Nat}(hi:Az M R n)(hM:M≤899000)(hb:1≤n.beat)(now:Int):
  Calls aA 31 #[.pointer (some ⟨g,0,none⟩),.int .i64 now] wr fun e w'=>e=.returned (.tuple #[])∧DA w w' g gt gh gw R (Ct (Al R) n now)∧ET wr w':=
 h.call (P:=fun e=>e=.returned (.tuple #[])) fun r hr=>Aab _ _ g gt gh gw R n r hr hi hM hb now
theorem Zb(h:DA w wr g gt gh gw R n){M:Nat}(hi:Az M R n)(hM:M≤899000):
  Calls aA 45 #[.pointer (some ⟨g,0,none⟩)] wr fun e w'=>e=.returned (.tuple #[])∧DA w w' g gt gh gw R (Fr n)∧ET wr w':=
 h.call (P:=fun e=>e=.returned (.tuple #[])) fun r hr=>Zc _ _ g gt gh gw R n r hr hi (by omega)
theorem Re(h:DA w wr g gt gh gw R n):
  Calls aA 19 #[.pointer (some ⟨g,0,none⟩)] wr fun e w'=>(∃v,e=.returned v∧BJ w.heap.size w' v n.log)∧DA w w' g gt gh gw R {n with log:=[]}∧ET wr w':=by
 obtain⟨r,h1,h2⟩:=h;refine(YH _ _ g gt gh gw R n r h1).mono ?_;rintro e w' ⟨rfl,k1,k2,k3⟩;exact⟨⟨_,rfl,k1⟩,⟨_,k2,h2.trans (k3.below (fun k e=>by obtain rfl:k=g:=e;exact h1.hB) h2.size)⟩,k3.mono fun k _ e=>h1.ndTy k ⟨0,by decide,e⟩⟩
theorem Ac5(h:DA w wr g gt gh gw R n){M:Nat}(hi:Az M R n)(hM:M≤899000)(hb:1≤n.beat)(x:CJ):
  Calls aA 12 #[.pointer (some ⟨g,0,none⟩),.agg (AO x)] wr fun e w'=>e=.returned (.tuple #[])∧DA w w' g gt gh gw R (Fq R n x)∧ET wr w':=by
 obtain⟨w0,hw0⟩:=eX (wr.alloc (.cells (AO x) 41));have Z0:w0.heap[wr.heap.size]?=some (.cells (AO x) 41 (0,0)):=by rw[hw0];exact Ab _ _ _ rfl
 have B0:Hid (Below wr.heap.size wr w0):=by show Below _ _ _;rw[hw0];exact(Below.refl _ _).alloc (Nat.le_refl _) _
 have H0:Hid (DA w w0 g gt gh gw R n):=h.grow B0.out;have HZ:Hid (∀u:Am w0,u.world.heap[wr.heap.size]?=some (.cells (AO x) 41 (0,0))):=fun u=>(u.below.block _ (gS Z0)).trans Z0;have HSZ:Hid ((AO x).size=71):=Hk x;have HC:Hid (Az M R n∧M≤899000∧1≤n.beat):=⟨hi,hM,hb⟩;have c0:w0.cell? ⟨wr.heap.size,0,none⟩=some (.int .i64 x.kind):=by rw[cell_of_row _ _ _ _ _ _ Z0,TE]
 have c1:w0.cell? ⟨wr.heap.size,1,none⟩=some (.int .i64 x.index):=by rw[cell_of_row _ _ _ _ _ _ Z0,Agx]
 have c3:w0.cell? ⟨wr.heap.size,3,none⟩=some (.int .i64 x.now):=by rw[cell_of_row _ _ _ _ _ _ Z0,Gw]
 have hsh:(hv x.head).size=13:=by rw[EW];exact x.hh.1
 have f4:=Apv x;have hDO:Hid (Fq R n x=if x.kind=1 then Cl (Al R) n x.index x.head x.now else if x.kind=2 then DC (Al R) n x.src (Dw x) x.now else if x.kind=3 then Ct (Al R) n x.now else if x.kind=4 then Fr n else n):=by show _=_;rfl
 have hw0':=hw0.symm;obtain⟨kd,hkd⟩:=eX x.kind;have HKD:Hid (x.kind=kd):=hkd.symm;rw[←hkd] at c0;have HXN:Hid (∀u:Am w0,u.world.cell? ⟨wr.heap.size,3,none⟩=some (.int .i64 x.now)):=fun u=>by rw[cell_of_row _ _ _ _ _ _ (HZ.out u),Gw]
 have HXS:Hid (∀u:Am w0,u.world.cell? ⟨wr.heap.size,2,none⟩=some (.int .i64 x.src)):=fun u=>by rw[cell_of_row _ _ _ _ _ _ (HZ.out u),Agw]
 clear hw0 hkd hi hM hb h;by_cases e1:kd=1
 ·have b1:(kd==1)=true:=by simpa using e1
  have HE:Hid _:=e1;have CI:=KZ H0.out HC.out.1 HC.out.2.1 x.index x.head x.hh x.now;clear e1;go_enter aJ,aH
  go_wp2_with (first
   | ((with_reducible refine Aw 35 _ rfl ?_);refine AH JT rfl _ rfl wr.heap.size 4 rfl _ _ _ (hv x.head) hsh Z0 f4 ?_)
   | (go_at_call 37;refine CI.mono ?_;rintro e w1 ⟨rfl,a1,k1⟩;have A1:Hid _:=a1;have K1:Hid _:=k1;clear a1 k1 CI))
  first | go_end0 | refine bodyPost_ret (results_none rfl _ _ _) rfl ?_
  exact⟨rfl,by rw[hDO.out,if_pos (HKD.out.trans HE.out)];exact A1.out,(ET.of B0.out).trans K1.out⟩
 ·have b1:(kd==1)=false:=by simpa using e1
  have HE1:Hid (x.kind≠1):=by show _≠_;rw[HKD.out];exact e1
  clear e1;by_cases e2:kd=2
  ·have b2:(kd==2)=true:=by simpa using e2
   have HE:Hid _:=HKD.out.trans e2;clear e2;go_enter aJ,aH;go_wp2_with fail;clear c1 c3 f4;have CB:∀u:Am w0,Calls aA 15 #[.agg (AO x)] u.world fun e w'=>e=.returned (.string ⟨(Dw x).toArray⟩)∧Below u.world.heap.size u.world w':=fun u=>NY x u.world;have d3:=HXN.out;have d2:=HXS.out;have ne9:=Am.ne w0;refine Cu 7 (by kernel_rfl) (by kernel_rfl) ?_;simp only[List.take_succ_cons,List.take_zero,List.drop_succ_cons,List.drop_zero]
   iterate 3 (go_big_quiet_step (fail))
   refine JJ JI rfl _ rfl wr.heap.size 0 rfl _ _ _ (AO x) HSZ.out (fun w' h=>by obtain⟨z,rfl⟩:=h;exact HZ.out z) (Ar _ _) ?_;simp only[pU];go_big_quiet_want;go_big_quiet_op;refine⟨_,fun u=>Calls.later_of (CB u),?_⟩;go_big_quiet_on;go_big_quiet_step (fail);go_big_quiet_step (fail);refine wpQuiet_nil ?_;rintro w' ⟨uL,rfl⟩;have CT:=Mi (H0.out.grow uL.below) HC.out.1 HC.out.2.1 x.src (Dw x) (Lc x) x.now;go_wp2_with (go_at_call 32;refine CT.mono ?_;rintro e w1 ⟨rfl,a1,k1⟩;have A1:Hid _:=a1;have K1:Hid _:=k1;clear a1 k1 CT)
   first | go_end0 | refine bodyPost_ret (results_none rfl _ _ _) rfl ?_
   exact⟨rfl,by rw[hDO.out,if_neg HE1.out,if_pos HE.out];exact A1.out,((ET.of B0.out).trans (ET.of uL.below)).trans K1.out⟩
  ·have b2:(kd==2)=false:=by simpa using e2
   have HE2:Hid (x.kind≠2):=by show _≠_;rw[HKD.out];exact e2
   clear e2;by_cases e3:kd=3
   ·have b3:(kd==3)=true:=by simpa using e3
    have HE:Hid _:=HKD.out.trans e3;have CT:=Su H0.out HC.out.1 HC.out.2.1 HC.out.2.2 x.now;clear e3;go_enter aJ,aH;go_wp2_with (go_at_call 31;refine CT.mono ?_;rintro e w1 ⟨rfl,a1,k1⟩;have A1:Hid _:=a1;have K1:Hid _:=k1;clear a1 k1 CT)
    first | go_end0 | refine bodyPost_ret (results_none rfl _ _ _) rfl ?_
    exact⟨rfl,by rw[hDO.out,if_neg HE1.out,if_neg HE2.out,if_pos HE.out];exact A1.out,(ET.of B0.out).trans K1.out⟩
   ·have b3:(kd==3)=false:=by simpa using e3
    have HE3:Hid (x.kind≠3):=by show _≠_;rw[HKD.out];exact e3
    clear e3;by_cases e4:kd=4
    ·have b4:(kd==4)=true:=by simpa using e4
     have HE:Hid _:=HKD.out.trans e4;have CC:=Zb H0.out HC.out.1 HC.out.2.1;clear e4;go_enter aJ,aH;go_wp2_with (go_at_call 45;refine CC.mono ?_;rintro e w1 ⟨rfl,a1,k1⟩;have A1:Hid _:=a1;have K1:Hid _:=k1;clear a1 k1 CC)
     first | go_end0 | refine bodyPost_ret (results_none rfl _ _ _) rfl ?_
     exact⟨rfl,by rw[hDO.out,if_neg HE1.out,if_neg HE2.out,if_neg HE3.out,if_pos HE.out];exact A1.out,(ET.of B0.out).trans K1.out⟩
    ·have b4:(kd==4)=false:=by simpa using e4
     have HE4:Hid (x.kind≠4):=by show _≠_;rw[HKD.out];exact e4
     clear e4;go_enter aJ,aH;go_wp2_with fail
     first | go_end0 | refine bodyPost_ret (results_none rfl _ _ _) rfl ?_
     exact⟨rfl,by rw[hDO.out,if_neg HE1.out,if_neg HE2.out,if_neg HE3.out,if_neg HE4.out];exact H0.out,ET.of B0.out⟩
end
def JK:Rm:=KK 2 4 4 0 0
def Akq:Af Aq:=NW 1 1 3 1 2 (⟨[],[],[]⟩:Aq) ⟨2,1,2,[],0⟩
def R8:An:=Cz 1 1 1 0 0 1 0 0 2 0 0 0 0 0 (Z,Z) Z
def R7:An:=Cz 3 1 0 0 0 0 0 0 0 0 0 1 0 0 (Z,Z) Z
def R5:An:=Cz 7 1 1 0 0 0 0 5 0 0 0 0 1 0 (Z,Z) Z
def Aco:Af Aq:=Cl (Al JK) Akq 7 Z 0
def Acn:Af Aq:=DC (Al JK) Aco 0 (FM R8).1 0
def Akp:Af Aq:=DC (Al JK) Acn 0 (FM R7).1 0
def Acm:Af Aq:=Cl (Al JK) Akp 8 Z 0
def Ako:Af Aq:=DC (Al JK) Acm 2 (FM R5).1 1
def Apo:Af Aq:=Cl (Al JK) Ako 9 Z 1
theorem Apn:Apo.log=[⟨6,1,0,7,0,0,2,0,Z,(Z,Z)⟩,⟨16,1,0,0,1,0,0,0,Z,(Z,Z)⟩,⟨9,1,2,8,1,0,0,0,Z,(Z,Z)⟩,⟨10,1,0,0,1,5,0,0,Z,(Z,Z)⟩,⟨5,1,0,8,0,5,0,0,Z,(Z,Z)⟩,⟨5,1,0,9,0,5,0,0,Z,(Z,Z)⟩]:=by
 kernel_rfl
theorem IK{ops:Array Oper}{rest:List Oper}{o:Oper}{a:Act}{w:World}{Q:Exit→Act→World→Prop}(hw:Region.wanted o (yielded ops a.tmps)=true)(t:TypeId)(ps:Array (Nat×Operand))(ho:o.op=.build t ps)(qs:Array (Nat×Value))(hq:(ps.map fun(i,x)=>(i,a.eval x))=qs)(v:Value)
  (hr:(aD t qs).run aA w=.ok v w) (h:wpList aA ops Q rest (a.put o.dst v) w):wpList aA ops Q (o::rest) a w:=by
 refine wpList_step fun K hK=> ?_;rw[if_pos hw];unfold Oper.wp;rw[YA ho a w qs hq v hr];exact hK _ _ h
def VF:IP:=⟨2,2,2,4,4,0,0,1,0,4,64,2,1,2,1,3,3⟩
theorem Ala:Lz VF 1 1:=by
 refine⟨by kernel_rfl,by decide,by decide,by decide,by decide⟩
set_option maxRecDepth 100000 in
theorem Yx(w:World):Calls aA 36 #[] w fun e w'=>e=.returned (.agg (Ci VF))∧Below w.heap.size w w':=by
 have BA:Hid (Below w.heap.size w (w.alloc (.cells (Ci VF) 24))):=(Below.refl _ _).alloc (Nat.le_refl _) _;have SA:Hid ((w.alloc (.cells (Ci VF) 24)).heap[w.heap.size]?=some (.cells (Ci VF) 24 (0,0))):=Ab _ _ _ rfl;go_enter Tryz.func36,Tryz.ntmps36;go_wp2_with (refine BP IG rfl _ _ rfl w.heap.size (Ci VF) (Alx _) rfl rfl stZ (Ab _ _ _ rfl) rfl _ (Bo _ _ _ _ _ rfl) ?_);refine Fa IG (p:=0) rfl rfl w.heap.size rfl (Ci VF) rfl SA.out ⟨rfl,BA.out⟩
theorem LQ(s:IP)(num inc:Int)(h:Lz s num inc)(w:World):
  Calls aA 10 #[.int .i64 num,.int .i64 inc,.agg (Ci s)] w fun e w'=> ∃g gt gh gw,e=.returned (.tuple #[.pointer (some ⟨g,0,none⟩),.int .i64 0])∧DA w w' g gt gh gw (KK s.ca s.ro s.pa s.idl s.hd) (NW num inc s.le s.be s.ca (⟨[],[],[]⟩:Aq) ⟨s.wa,s.tr,s.ti,[],0⟩):=by
 refine(Aet s num inc h w).mono ?_;rintro e w' ⟨⟨g,gt,gh,gw,r,rfl,h1⟩,h2⟩;exact⟨g,gt,gh,gw,rfl,r,h1,h2⟩
theorem Aen{B:Nat}{w:World}{v:Value}{C:List AP}(h:BJ B w v C)(hne:0<C.length):∃g cap cur t fr,v=.slice (some ⟨g,0,none⟩) C.length cap∧C.length≤cap∧cap≤maxLen∧w.heap[g]?=some (.cells cur t fr)∧∀i (hi:i<C.length),∀j,j<47→cur[i*47+j]?=(Bj C[i])[j]?:=by
 have hs:=h.sl;obtain⟨_,⟨rfl,e0⟩ | ⟨g,cap,cur',rfl,_⟩⟩:=h
 ·omega
 ·obtain⟨o,cap2,e,h1,h2,h3⟩:=hs;simp only[Value.slice.injEq] at e;obtain⟨rfl,_,rfl⟩:=e;obtain⟨g1,off,cur,t,fr,e1,hg,_⟩:=h3 0 hne;simp only[aK,Addr.mk.injEq] at e1;obtain⟨rfl,rfl,_⟩:=e1;refine⟨g,cap,cur,t,fr,rfl,h1,h2,hg,fun i hi j hj=> ?_⟩;obtain⟨g2,off2,cur2,t2,fr2,e2,hg2,hc2⟩:=h3 i hi;simp only[aK,Addr.mk.injEq] at e2;obtain⟨rfl,rfl,_⟩:=e2;rw[hg] at hg2;simp only[aK,Obj.cells.injEq] at hg2;obtain⟨rfl,_,_⟩:=hg2;have:=hc2 j hj;rw[Nat.zero_add] at this;exact this
theorem Agn(W:World):(aD 39 #[(0,.int .i64 1),(1,.int .i64 1),(2,.int .i64 1),(5,.int .i64 1),(8,.int .i64 2)]).run aA W=.ok (.agg (Ae R8)) W:=by
 unfold R8;rw[JR];kernel_rfl
theorem Agm(W:World):(aD 39 #[(0,.int .i64 3),(1,.int .i64 1),(11,.int .i64 1)]).run aA W=.ok (.agg (Ae R7)) W:=by
 unfold R7;rw[JR];kernel_rfl
theorem Agl(W:World):(aD 39 #[(0,.int .i64 7),(1,.int .i64 1),(12,.int .i64 1),(2,.int .i64 1),(7,.int .i64 5)]).run aA W=.ok (.agg (Ae R5)) W:=by
 unfold R5;rw[JR];kernel_rfl
theorem Akk(W:World):(aD 35 #[]).run aA W=.ok (.agg (hv Z)) W:=by
 rw[JR];kernel_rfl
theorem F0(x:AP){k:Nat}{z:Value}(h:(#[.int .i64 x.kind,.int .i64 x.at_,.int .i64 x.to,.int .i64 x.index,.int .i64 x.epoch,.int .i64 x.action,.int .i64 x.why,.int .i64 x.place]:Array Value)[k]?=some z):(Bj x)[k]?=some z:=by
 have hk:k<8:=(gS h);unfold Bj;rw[Array.append_assoc,Array.getElem?_append_left hk];exact h
def ZA:AP:=⟨6,1,0,7,0,0,2,0,Z,(Z,Z)⟩
def Zz:AP:=⟨5,1,0,9,0,5,0,0,Z,(Z,Z)⟩
theorem Akf(W:World):(aD 72 #[(0,.int .i64 6),(1,.int .i64 1),(3,.int .i64 7),(6,.int .i64 2)]).run aA W=.ok (.agg (Bj ZA)) W:=by
 kernel_rfl
theorem Ake(W:World):(aD 72 #[(0,.int .i64 5),(1,.int .i64 1),(3,.int .i64 9),(5,.int .i64 5)]).run aA W=.ok (.agg (Bj Zz)) W:=by
 kernel_rfl
theorem Aqu(W:World):(Op.equalIn 10000 72 (.agg (Bj ZA)) (.agg (Bj ZA))).run aA W=.ok true W:=by
 kernel_rfl
theorem Aqt(W:World):(Op.equalIn 10000 72 (.agg (Bj Zz)) (.agg (Bj Zz))).run aA W=.ok true W:=by
 kernel_rfl
theorem Ald:BB R8:=⟨rfl,BO,BO,BO⟩
theorem Alc:BB R7:=⟨rfl,BO,BO,BO⟩
theorem Alb:BB R5:=⟨rfl,BO,BO,BO⟩
theorem Anu(op:BinOp)(x y:Operand)(xs ys:Array Value)(w:World):(eqGuard op 72 x y (.agg xs) (.agg ys)).run aA w=.ok () w:=
 run_eqGuard_agg w op 72 x y xs ys (by kernel_rfl)
theorem LG(w:World):Calls aA 9 #[] w fun e w'=>e=.returned (.bool true)∧Below w.heap.size w w':=by
 have CS:=Yx w;have I0:Hid (Az 0 JK Akq):=Ot Ala;have I1:Hid (Az 4 JK Aco):=Qj I0.out 7 BO 0;have I2:Hid (Az 10 JK Acn):=Nz I1.out 0 _ 0;have I3:Hid (Az 16 JK Akp):=Nz I2.out 0 _ 0;have I4:Hid (Az 20 JK Acm):=Qj I3.out 8 BO 0;have I5:Hid (Az 26 JK Ako):=Nz I4.out 2 _ 1;go_enter Tryz.func9,Tryz.ntmps9;go_wp2_with (go_at_call 36;refine CS.mono ?_;rintro e w1 ⟨rfl,hb1⟩;have B1:Hid (Below w.heap.size w w1):=hb1;clear hb1 CS;refine Ak ?_);unfold AA;have CN:=LQ VF 1 1 Ala w1;go_wp2_with (go_at_call 10;refine CN.mono ?_;rintro e w2 ⟨g,gt,gh,gw,rfl,a2⟩;have A2:Hid (DA w1 w2 g gt gh gw JK Akq):=a2;clear a2 CN;refine Ak ?_);unfold AA;have C3:=KZ A2.out I0.out (by decide) 7 Z BO 0;have bh:=Akk;go_wp2_with (go_at_call 37;refine C3.mono ?_;rintro e w3 ⟨rfl,a3,_⟩;have A3:Hid (DA w1 w3 g gt gh gw JK Aco):=a3;clear a3 C3;refine Ak ?_);unfold AA;have D3:=Mt R8 Ald w3;have bm1:=Agn
 go_wp2_with (first
  | ((with_reducible refine Cy 39 _ rfl ?_);refine IK rfl _ _ rfl #[(0,.int .i64 1),(1,.int .i64 1),(2,.int .i64 1),(5,.int .i64 1),(8,.int .i64 2)] (by simp only[aC,aG,aI];rfl) (.agg (Ae R8)) (bm1 _) ?_)
  | (go_at_call 33;refine D3.mono ?_;rintro e w3' ⟨rfl,hb3⟩;have A3':Hid (DA w1 w3' g gt gh gw JK Aco):=A3.out.grow hb3;clear hb3 D3 A3 bm1;refine Ak ?_))
 unfold AA;have C4:=Mi A3'.out I1.out (by decide) 0 (FM R8).1 (aL (Mr Ald) (by decide)) 0;go_wp2_with (go_at_call 32;refine C4.mono ?_;rintro e w4 ⟨rfl,a4,_⟩;have A4:Hid (DA w1 w4 g gt gh gw JK Acn):=a4;clear a4 C4 A3';refine Ak ?_);unfold AA;have D4:=Mt R7 Alc w4;have bm2:=Agm
 go_wp2_with (first
  | ((with_reducible refine Cy 39 _ rfl ?_);refine IK rfl _ _ rfl #[(0,.int .i64 3),(1,.int .i64 1),(11,.int .i64 1)] (by simp only[aC,aG,aI];rfl) (.agg (Ae R7)) (bm2 _) ?_)
  | (go_at_call 33;refine D4.mono ?_;rintro e w4' ⟨rfl,hb4⟩;have A4':Hid (DA w1 w4' g gt gh gw JK Acn):=A4.out.grow hb4;clear hb4 D4 A4 bm2;refine Ak ?_))
 unfold AA;have C5:=Mi A4'.out I2.out (by decide) 0 (FM R7).1 (aL (Mr Alc) (by decide)) 0;go_wp2_with (go_at_call 32;refine C5.mono ?_;rintro e w5 ⟨rfl,a5,_⟩;have A5:Hid (DA w1 w5 g gt gh gw JK Akp):=a5;clear a5 C5 A4';refine Ak ?_);unfold AA;have C6:=KZ A5.out I3.out (by decide) 8 Z BO 0;go_wp2_with (go_at_call 37;refine C6.mono ?_;rintro e w6 ⟨rfl,a6,_⟩;have A6:Hid (DA w1 w6 g gt gh gw JK Acm):=a6;clear a6 C6 A5;refine Ak ?_);unfold AA;have D6:=Mt R5 Alb w6;have bm3:=Agl
 go_wp2_with (first
  | ((with_reducible refine Cy 39 _ rfl ?_);refine IK rfl _ _ rfl #[(0,.int .i64 7),(1,.int .i64 1),(12,.int .i64 1),(2,.int .i64 1),(7,.int .i64 5)] (by simp only[aC,aG,aI];rfl) (.agg (Ae R5)) (bm3 _) ?_)
  | (go_at_call 33;refine D6.mono ?_;rintro e w6' ⟨rfl,hb6⟩;have A6':Hid (DA w1 w6' g gt gh gw JK Acm):=A6.out.grow hb6;clear hb6 D6 A6 bm3;refine Ak ?_))
 unfold AA;have C7:=Mi A6'.out I4.out (by decide) 2 (FM R5).1 (aL (Mr Alb) (by decide)) 1;go_wp2_with (go_at_call 32;refine C7.mono ?_;rintro e w7 ⟨rfl,a7,_⟩;have A7:Hid (DA w1 w7 g gt gh gw JK Ako):=a7;clear a7 C7 A6';refine Ak ?_);unfold AA;have C8:=KZ A7.out I5.out (by decide) 9 Z BO 1;go_wp2_with (go_at_call 37;refine C8.mono ?_;rintro e w8 ⟨rfl,a8,_⟩;have A8:Hid (DA w1 w8 g gt gh gw JK Apo):=a8;clear a8 C8 A7;refine Ak ?_);unfold AA;have CL:=Re A8.out;clear A8;go_wp2_with (go_at_call 19;refine CL.mono ?_;rintro e w9 ⟨⟨v,rfl,hv9⟩,a9,_⟩;have HV9:Hid _:=hv9;have B9:Hid (Below w.heap.size w w9):=B1.out.trans (a9.bel.mono B1.out.size);clear a9 hv9 CL;refine Ak ?_);unfold AA;have hv9:=HV9.out;rw[Apn] at hv9;obtain⟨gn,cap,cur,ty,fr,rfl,hcap,hmx,hg,hc⟩:=Aen hv9 (by decide);clear hv9 HV9;simp only[List.length_cons,List.length_nil] at hcap hc ⊢;have q0:∀j,j<47→cur[0+j]?=(Bj ZA)[j]?:=fun j hj=>(congrArg (cur[·]?) (show 0+j=0*47+j by omega)).trans (hc 0 (by decide) j hj);have q5:∀j,j<47→cur[235+j]?=(Bj Zz)[j]?:=fun j hj=>(congrArg (cur[·]?) (show 235+j=5*47+j by omega)).trans (hc 5 (by decide) j hj)
 have k94:w9.cell? ⟨gn,94,none⟩=some (.int .i64 9):=by rw[cell_of_row _ _ _ _ _ _ hg];exact(hc 2 (by decide) 0 (by decide)).trans (F0 _ rfl)
 have k96:w9.cell? ⟨gn,96,none⟩=some (.int .i64 2):=by rw[cell_of_row _ _ _ _ _ _ hg];exact(hc 2 (by decide) 2 (by decide)).trans (F0 _ rfl)
 have k188:w9.cell? ⟨gn,188,none⟩=some (.int .i64 5):=by rw[cell_of_row _ _ _ _ _ _ hg];exact(hc 4 (by decide) 0 (by decide)).trans (F0 _ rfl)
 have k191:w9.cell? ⟨gn,191,none⟩=some (.int .i64 8):=by rw[cell_of_row _ _ _ _ _ _ hg];exact(hc 4 (by decide) 3 (by decide)).trans (F0 _ rfl)
 have b0:=Akf;have b5:=Ake;have e0:=Aqu;have e5:=Aqt;have eg:=Anu;have z0:=IB ZA;have z5:=IB Zz;clear hc;obtain⟨V0,hV0⟩:∃V,V=Bj ZA:=⟨_,rfl⟩;obtain⟨V5,hV5⟩:∃V,V=Bj Zz:=⟨_,rfl⟩;rw[←hV0] at q0 b0 e0 z0;rw[←hV5] at q5 b5 e5 z5;clear hV0 hV5
 go_wp2_with (first
  | ((with_reducible refine Aw 72 _ rfl ?_);refine Eu Jr rfl _ rfl gn 0 rfl cur ty fr V0 z0 hg q0 ?_)
  | ((with_reducible refine Aw 72 _ rfl ?_);refine Eu Jr rfl _ rfl gn 235 rfl cur ty fr V5 z5 hg q5 ?_)
  | ((with_reducible refine Cy 72 _ rfl ?_);refine IK rfl _ _ rfl #[(0,.int .i64 6),(1,.int .i64 1),(3,.int .i64 7),(6,.int .i64 2)] (by simp only[aC,aG,aI];rfl) (.agg V0) (b0 _) ?_)
  | ((with_reducible refine Cy 72 _ rfl ?_);refine IK rfl _ _ rfl #[(0,.int .i64 5),(1,.int .i64 1),(3,.int .i64 9),(5,.int .i64 5)] (by simp only[aC,aG,aI];rfl) (.agg V5) (b5 _) ?_))
 go_ret;exact⟨rfl,B9.out⟩
structure JS(n n':Af Aq):Prop where
 tries:n'.wait.tries=n.wait.tries
 time:n'.wait.time=n.wait.time
 room:n'.wait.room=n.wait.room
theorem JS.refl(n:Af Aq):JS n n:=⟨rfl,rfl,rfl⟩
theorem JS.trans{a b c:Af Aq}(h:JS a b)(k:JS b c):JS a c:=⟨k.tries.trans h.tries,k.time.trans h.time,k.room.trans h.room⟩
theorem ZU(R:Rm)(n:Af Aq)(x:CJ):JS n (Fq R n x):=by
 unfold Fq;split
 ·rcases Ri (O:=Al R) n x.index x.head x.now with e | ⟨_,e⟩
  ·exact⟨by rw[e],by rw[e],by rw[e]⟩
  ·exact⟨by rw[e];rfl,by rw[e];rfl,by rw[e];rfl⟩
 ·split
  ·rcases UR (O:=Al R) n x.src (Dw x) x.now with e | ⟨s,e⟩
   ·exact⟨by rw[e],by rw[e],by rw[e]⟩
   ·have a:=Ld n.wait s;exact⟨by rw[e,a.2.1],by rw[e,a.2.2.1],by rw[e,a.2.2.2.2]⟩
  ·split
   ·have a:=Kl (O:=Al R) n x.now;exact⟨a.2.1,a.2.2.1,a.2.2.2⟩
   ·split
    ·exact⟨rfl,rfl,rfl⟩
    ·exact JS.refl n
theorem Mx{P:Program}{ops:Array Oper}{Q:Exit→Act→World→Prop}{o:Oper}{rest:List Oper}{a:Act}{w:World}(t:TypeId)(_:o.op=.alloc t)(h:wpList P ops Q (o::rest) a w):wpList P ops Q (o::rest) a w:=h
structure B7(w1 W:World)(g gt gh gw:Nat)(R:Rm)(n0 n:Af Aq)(M:Nat):Prop where
 own:DA w1 W g gt gh gw R n
 inn:Az M R n
 par:II n0 n
 pk:JS n0 n
theorem B7.beat{w1 W:World}{g gt gh gw:Nat}{R:Rm}{n0 n:Af Aq}{M:Nat}(h:B7 w1 W g gt gh gw R n0 n M)(hb:1≤n0.beat):1≤n.beat:=by rw[h.par.beat];exact hb
theorem B7.grow{w1 W W':World}{g gt gh gw:Nat}{R:Rm}{n0 n:Af Aq}{M:Nat}(h:B7 w1 W g gt gh gw R n0 n M)(hb:Below W.heap.size W W'):B7 w1 W' g gt gh gw R n0 n M:=⟨h.own.grow hb,h.inn,h.par,h.pk⟩
theorem B7.does{w1 W:World}{g gt gh gw:Nat}{R:Rm}{n0 n:Af Aq}{M:Nat}(h:B7 w1 W g gt gh gw R n0 n M)(hb:1≤n0.beat)(hM:M≤899000)(x:CJ):
  Calls aA 12 #[.pointer (some ⟨g,0,none⟩),.agg (AO x)] W fun e w'=>e=.returned (.tuple #[])∧B7 w1 w' g gt gh gw R n0 (Fq R n x) (M+300)∧ET W w':=
 (Ac5 h.own h.inn hM (h.beat hb) x).mono fun _ _ q=>⟨q.1,⟨q.2.1,Aqr h.inn x,h.par.trans (Apf h.inn x),h.pk.trans (ZU R n x)⟩,q.2.2⟩
end
section
open Go.ChangeAt Go.ChangeShapes Go.RowKit Go.WideElems Go.WideMaps Go.WideShapes
theorem Wm{H:Type}{enc:TypeId×Value→H}{w:World}{base:Nat}{spare:Nat→Bool}{held:Bool}{fuel:Nat}{cs:List Value}{x:DataW H×List MemPlace}(h:DataW.trod enc aA w base spare held fuel 22 cs=some x):∃z:Nat,cs=[.float .f64 z]:=by
 cases fuel with
 | zero=>simp[DataW.trod] at h
 | succ n=>
  unfold DataW.trod at h;rw[Tryz.underlying22] at h;split at h <;> simp_all
theorem VV{H:Type}{enc:TypeId×Value→H}{W:World}{base:Nat}{spare:Nat→Bool}{held:Bool}{n:Nat}{cs:List Value}{y:Option (DataW H×List MemPlace)}{i:Nat}(hc:aA.cellsOf 22=1)
  (h:DataW.trod enc aA W base spare held n 22 ((cs.drop i).take (aA.cellsOf 22))=y) (hy:y.isSome=true):∃z:Nat,cs[i]?=some (.float .f64 z):=by
 obtain⟨y',rfl⟩:=Option.isSome_iff_exists.1 hy;obtain⟨z,h1⟩:=Wm h;rw[hc] at h1;exact⟨z,OC h1⟩
theorem KO{H:Type}{enc:TypeId×Value→H}{W:World}{r:Reach}{b0 base:Nat}{spare:Nat→Bool}{held:Bool}{v:Value}{d:DataW H}{p:List MemPlace}
  (hok:Value.okWide aA W r b0 24 v) (h:DataW.Trod enc aA W base spare held 24 v d p):∃s:IP,v=.agg (Ci s):=by
 have c3:aA.cellsOf 3=1:=by kernel_rfl
 have cf:aA.cellsOf 22=1:=by kernel_rfl
 have c5:aA.cellsOf 24=17:=by kernel_rfl
 simp only[Value.okWide,aN] at hok;obtain⟨cs,rfl,hsz,_⟩:=hok;rw[c5] at hsz;obtain⟨fuel,hf⟩:=h;simp only[Value.cells] at hf;obtain⟨xs,n,_,_,_,hxl,hf⟩:=DataW.trod_struct aN hf;obtain⟨n0,h0⟩:=Bn aB c3 (hf 0 _ rfl) (Bs hxl (by decide));obtain⟨n1,h1⟩:=Bn aB c3 (hf 1 _ rfl) (Bs hxl (by decide));obtain⟨n2,h2⟩:=Bn aB c3 (hf 2 _ rfl) (Bs hxl (by decide));obtain⟨n3,h3⟩:=Bn aB c3 (hf 3 _ rfl) (Bs hxl (by decide));obtain⟨n4,h4⟩:=Bn aB c3 (hf 4 _ rfl) (Bs hxl (by decide));obtain⟨n5,h5⟩:=Bn aB c3 (hf 5 _ rfl) (Bs hxl (by decide));obtain⟨n6,h6⟩:=Bn aB c3 (hf 6 _ rfl) (Bs hxl (by decide));obtain⟨n7,h7⟩:=Bn aB c3 (hf 7 _ rfl) (Bs hxl (by decide));obtain⟨n8,h8⟩:=VV cf (hf 8 _ rfl) (Bs hxl (by decide));obtain⟨n9,h9⟩:=Bn aB c3 (hf 9 _ rfl) (Bs hxl (by decide));obtain⟨n10,h10⟩:=Bn aB c3 (hf 10 _ rfl) (Bs hxl (by decide));obtain⟨n11,h11⟩:=Bn aB c3 (hf 11 _ rfl) (Bs hxl (by decide));obtain⟨n12,h12⟩:=Bn aB c3 (hf 12 _ rfl) (Bs hxl (by decide))
 obtain⟨n13,h13⟩:=Bn aB c3 (hf 13 _ rfl) (Bs hxl (by decide));obtain⟨n14,h14⟩:=Bn aB c3 (hf 14 _ rfl) (Bs hxl (by decide));obtain⟨n15,h15⟩:=Bn aB c3 (hf 15 _ rfl) (Bs hxl (by decide));obtain⟨n16,h16⟩:=Bn aB c3 (hf 16 _ rfl) (Bs hxl (by decide));refine⟨⟨n0,n1,n2,n3,n4,n5,n6,n7,n8,n9,n10,n11,n12,n13,n14,n15,n16⟩,?_⟩;congr 1;apply Array.ext_getElem?;intro k;rw[←Array.getElem?_toList];rcases(show k=0∨k=1∨k=2∨k=3∨k=4∨k=5∨k=6∨k=7∨k=8∨k=9∨k=10∨k=11∨k=12∨k=13∨k=14∨k=15∨k=16∨17≤k by omega) with rfl | rfl | rfl | rfl | rfl | rfl | rfl | rfl | rfl | rfl | rfl | rfl | rfl | rfl | rfl | rfl | rfl | hk
 ·exact h0
 ·exact h1
 ·exact h2
 ·exact h3
 ·exact h4
 ·exact h5
 ·exact h6
 ·exact h7
 ·exact h8
 ·exact h9
 ·exact h10
 ·exact h11
 ·exact h12
 ·exact h13
 ·exact h14
 ·exact h15
 ·exact h16
 ·rw[List.getElem?_eq_none (by simpa using by omega),Array.getElem?_eq_none (by simpa[Ci] using hk)]
end
end Go.Proofs.YtbhkoipcpcoooaaGreat
