import Derived.Test.YtbhkoipcpcoooaaGreatJ9
import Derived.Test.YtbhkoipcpcoooaaGreatJ2
import Derived.Test.YtbhkoipcpcoooaaGreatJ1
import Derived.Sort.LotA
import Derived.Test.YtbhkoipcpcoooaaGreatProg
import Derived.WalkKit
import Derived.WalkSpells
import Derived.WalkLawsBesides
import Derived.BigQuiet
import Derived.KernelRfl
import Derived.Laws.StructEq
import Derived.Laws.Tables
import Derived.Laws.Rows
import Derived.StillTailTactics
import Derived.StillTail
import Derived.Test.YtbhkoipcpcoooaaGreatJ18
import Derived.Test.YtbhkoipcpcoooaaGreatJ17
import Derived.Test.YtbhkoipcpcoooaaGreatJ16
import Derived.Test.YtbhkoipcpcoooaaGreatJ11
import Derived.Test.YtbhkoipcpcoooaaGreatJ4
import Derived.Test.YtbhkoipcpcoooaaGreatJ3
import Derived.Great.BuildSlice
import Derived.Laws.AppendOwn
import Derived.Laws.OwnMore
import Derived.Maps.AppendAt
import Derived.Lib.Bytealg
import Derived.Lib.UnsafeStr
import Derived.Lib.BufferWrite
import Derived.Laws.MakeOwn
import Derived.OwnWalk
import Derived.OrdersHeld
import Derived.Laws.CopyRow
import Derived.Lib.BitFns
import Derived.WalkMore
import Derived.Test.YtbhkoipcpcoooaaGreatJ7
import Derived.Test.YtbhkoipcpcoooaaGreatJ6
import Derived.Test.YtbhkoipcpcoooaaGreatJ5
import Derived.Deep.QuietTactic
import Derived.Lib.Hide
import Derived.Lib.Walk
import Derived.Shelf.SlSortCmp.KitK
import Derived.Deep.LoopGhost
import Derived.Deep.CutRange
import Derived.Laws.AppendOwnNone
import Derived.Great.Walk
import Derived.Laws.Cover3
import Derived.Test.YtbhkoipcpcoooaaGreatJ8
import Derived.Test.YtbhkoipcpcoooaaGreatJ10
import Derived.BigRegion
import Derived.Deep.RegionLaw
import Derived.Shelf.RegionOpenPlain
import Derived.Test.YtbhkoipcpcoooaaGreatJ12
import Derived.Test.YtbhkoipcpcoooaaGreatJ15
import Derived.Test.YtbhkoipcpcoooaaGreatJ14
import Derived.Test.YtbhkoipcpcoooaaGreatJ13
import Derived.Laws.BytesArg
import Derived.Laws.Bits64b
import Derived.Laws.CopyOwn
import Derived.Test.YtbhkoipcpcoooaaGreatRows
import Derived.ProofKit
import Derived.OpenShut
import Derived.Carry
import Derived.Deep.Slices
import Derived.SizedLaws
import Derived.Test.YtbhkoipcpcoooaaGreatJ26
import Derived.Test.YtbhkoipcpcoooaaGreatJ25
import Derived.Test.YtbhkoipcpcoooaaGreatJ24
import Derived.Test.YtbhkoipcpcoooaaGreatJ23
import Derived.Test.YtbhkoipcpcoooaaGreatJ22
import Derived.Test.YtbhkoipcpcoooaaGreatJ20
import Derived.Test.YtbhkoipcpcoooaaGreatJ19
import Derived.Test.YtbhkoipcpcoooaaGreatJ21
namespace Go.Proofs.YtbhkoipcpcoooaaGreat
set_option maxRecDepth 20000
set_option maxHeartbeats 64000000
open Go
open _root_.List renaming filter_cons → aA, map_cons → aC, sum_cons → aD, filterMap_cons → aH, mem_cons_self → aI, length_cons → aL, take_of_length_le → aM, mem_cons_of_mem → aN, mem_filterMap → aO, not_mem_nil → aQ
open _root_.Nat renaming le_refl → aB, zero_le → aP
open _root_.Option.some renaming inj → aG
open Go.Proofs.Tryz renaming prog → aJ
open _root_.Bool renaming false_eq_true → aK, and_false → aR
section
variable {T:Type} {O:Qz T}
def Lg(w:Be)(now E:Int):Prop:=∀x∈w.l,1≤x.sent∧x.sent≤w.tries+1∧max x.due (now+1)+(w.tries+1-x.sent)*w.time≤E
theorem Ag9{n:Af T}{now E:Int}(h:Lg n.wait now E)(h0:0≤now)(h1:now+1≤1099511627776)(ht:1≤n.wait.time):Lg (Ct O n (now+1)).wait (now+1) E:=by
 obtain⟨s1,s2,s3,_⟩:=Kl (O:=O) n (now+1);intro x hx;have hx2:=s1.subset hx;unfold Dc at hx2;obtain⟨y,hy,e⟩:=aO.1 hx2;obtain⟨b1,b2,b3⟩:=h y hy;have hc:EH (now+1)=now+1:=by unfold EH;omega
 rw[s2,s3];unfold Ce Ex DF at e;rw[hc] at e;split at e
 ·rename_i hd;have hd':y.due≤now+1:=of_decide_eq_true hd;split at e
  ·rename_i hm;have hm':y.sent≤n.wait.tries:=of_decide_eq_true hm;obtain rfl:=aG e;unfold Ik;dsimp only;rw[hc];refine⟨by omega,by omega,?_⟩;have e1:max y.due (now+1)=now+1:=by omega
   have e2:max (now+1+n.wait.time) (now+1+1)=now+1+n.wait.time:=by omega
   rw[e1] at b3;rw[e2]
   have e3:(n.wait.tries+1-y.sent)*n.wait.time=n.wait.time+(n.wait.tries+1-(y.sent+1))*n.wait.time:=by
    rw[show n.wait.tries+1-y.sent=1+(n.wait.tries+1-(y.sent+1)) by omega,Int.add_mul,Int.one_mul]
   rw[e3] at b3;omega
  ·cases e
 ·rename_i hd;have hd':¬y.due≤now+1:=fun h=>hd (decide_eq_true h);obtain rfl:=aG e;refine⟨b1,b2,?_⟩;have e1:max y.due (now+1)=y.due:=by omega
  have e2:max y.due (now+1+1)=y.due:=by omega
  rw[e1] at b3;rw[e2];exact b3
theorem Aga{w:Be}{now E:Int}(h:Lg w now E)(hE:E≤now)(ht:1≤w.time):w.l=[]:=by
 cases hl:w.l with
 | nil=>rfl
 | cons x l=>
  obtain⟨b1,b2,b3⟩:=h x (by rw[hl];exact aI);have:0≤(w.tries+1-x.sent)*w.time:=Int.mul_nonneg (by omega) (by omega);omega
theorem Ac3{w:Be}{now:Int}(hw:Dn w)(hd:∀x∈w.l,x.due≤now+w.time):Lg w now (now+(w.tries+1)*w.time):=by
 intro x hx;have h1:=hw.sent x hx;have h2:=hd x hx;have h3:=hw.time1;refine⟨h1.1,h1.2,?_⟩;have h4:(w.tries+1-x.sent)*w.time≤w.tries*w.time:=Int.mul_le_mul_of_nonneg_right (by omega) (by omega);have h5:(w.tries+1)*w.time=w.tries*w.time+w.time:=by rw[Int.add_mul,Int.one_mul]
 omega
end
section
variable {T:Type} {O:Qz T}
def Im(n:Af T)(now:Int):Prop:=Dn n.wait∧∀x∈n.wait.l,x.due≤now+n.wait.time
theorem Abe{n:Af T}{a b:Int}(h:Im n a)(hab:a≤b):Im n b:=⟨h.1,fun x hx=>by have:=h.2 x hx;omega⟩
theorem ZH{n n':Af T}{now:Int}(h:Im n now)(e:n'.wait=n.wait):Im n' now:=by unfold Im;rw[e];exact h
theorem YT{n:Af T}{now:Int}(h:Im n now)(index:Int)(hd:List Int)(h0:0≤now)(h1:now≤1099511627776):Im (Cl O n index hd now) now:=by
 rcases Ri (O:=O) n index hd now with e | ⟨hr,e⟩
 ·exact ZH h e
 ·have ha:Fk n.wait index hd now=(JM n.wait index hd now,(n.wait.last:Int)+1,0):=by unfold Fk;rw[if_neg hr]
  have hk:=ZZ h.1 index hd now;rw[ha] at hk;unfold Im;rw[e];refine⟨hk,fun x hx=> ?_⟩;unfold JM at hx ⊢;dsimp only at hx ⊢;rcases List.mem_append.1 hx with hx | hx
  ·exact h.2 x hx
  ·rw[List.mem_singleton.1 hx];show EH now+n.wait.time≤_;unfold EH;omega
theorem Afm{n:Af T}{t0:Int}(h:Im n t0)(src:Int)(data:List UInt8)(now:Int):Im (DC O n src data now) t0:=by
 rcases UR (O:=O) n src data now with e | ⟨s,e⟩
 ·exact ZH h e
 ·have hs:=Ld n.wait s;unfold Im;rw[e];exact⟨TC h.1 s,fun x hx=>by rw[hs.2.2.1];exact h.2 x (hs.1.subset hx)⟩
theorem Adm{w w':Be}(h:Dn w)(hs:w'.l.Sublist w.l)(h1:w'.tries=w.tries)(h2:w'.time=w.time)(h3:w'.room=w.room)(h4:w'.last=w.last):Dn w':=by
 refine⟨by rw[h2];exact h.time1,by rw[h1];exact h.tries0,by rw[h3];exact h.room1,?_,h.rise.sublist hs,fun x hx=>by rw[h4];exact h.seq x (hs.subset hx),fun x hx=>by rw[h1];exact h.sent x (hs.subset hx)⟩;have:=h.len;have:=hs.length_le;rw[h3];omega
theorem Ye(n:Af T)(now:Int)(x:AN):(DJ O n now x).wait.last=n.wait.last:=by
 unfold DJ;split
 ·rename_i t s _;split
  ·rw[(EY (AX n t) x.seq x.index x.head x.sent s).wait];rfl
  ·exact(Ld n.wait x.seq).2.2.2.1
 ·rfl
theorem Qp{α:Type}{f:Af T→α→Af T}(hf:∀n x,(f n x).wait.last=n.wait.last):∀(l:List α) (n:Af T),(l.foldl f n).wait.last=n.wait.last
 | [],_=>rfl
 | x::l,n=>(Qp hf l (f n x)).trans (hf n x)
theorem TW(n:Af T)(now:Int):(Ct O n now).wait.last=n.wait.last:=by
 have h1:(Ct O n now).wait=(DZ O n now).wait:=by
  unfold Ct;split
  ·exact(Hd _ _ _).wait
  ·rfl
 have h2:(DZ O n now).wait.last=(EI O n now).wait.last:=by
  unfold DZ;exact Qp (f:=ED) (fun _ _=>rfl) _ _
 have h3:(EI O n now).wait.last=n.wait.last:=by
  unfold EI;split
  ·exact Qp (f:=fun n x=>DJ O n now x) (fun a x=>Ye a now x) _ (Db (Ep O n now) (Dc n.wait now))
  ·rfl
 rw[h1,h2,h3]
theorem Afl{n:Af T}{now:Int}(h:Im n now)(h0:0≤now)(h1:now≤1099511627776):Im (Ct O n now) now:=by
 obtain⟨s1,s2,s3,s4⟩:=Kl (O:=O) n now;have hk:=RA h.1 now;refine⟨Adm hk s1 s2 s3 s4 (TW n now),fun x hx=> ?_⟩;rw[s3];have hx2:=s1.subset hx;unfold Dc at hx2;obtain⟨y,hy,e⟩:=aO.1 hx2;have hd:=h.2 y hy;unfold Ce at e;split at e
 ·split at e
  ·obtain rfl:=aG e;show EH now+n.wait.time≤_;unfold EH;omega
  ·cases e
 ·obtain rfl:=aG e;exact hd
theorem Abf{n:Af T}{now:Int}(h:Im n now):Im (Fr n) now:=by
 unfold Fr;refine⟨?_,fun x hx=>absurd hx (aQ)⟩;exact VC h.1
end
section
open Go.RowKit
theorem L3(B:Nat)(w:World)(g gt gh gw:Nat)(R:Rm)(n:Af Aq)(r:D0)(h:Cb B w g gt gh gw R n r)(hw:Ga n.wait):
  Calls aJ 25 #[.pointer (some ⟨g,0,none⟩)] w fun e w'=>(∃u,e=.returned u∧AU w.heap.size w' u n.wait.l)∧Below w.heap.size w w':=by
 have c6:=h.f.c6;have C:=U8 B w gw n.wait r.vw h.wait hw;clear h hw;go_enter Tryz.func25,Tryz.ntmps25;go_wp2_with (go_at_call 63;refine C.mono ?_;rintro e w1 ⟨⟨u,rfl,hu⟩,hb⟩;have HU:Hid _:=hu;have HB:Hid _:=hb;clear hu hb);go_ret;exact⟨⟨u,rfl,HU.out⟩,HB.out⟩
section
variable {w wr w':World} {g gt gh gw:Nat} {R:Rm} {n n':Af Aq}
theorem VM(h:DA w wr g gt gh gw R n){M:Nat}(hi:Az M R n):
  Calls aJ 25 #[.pointer (some ⟨g,0,none⟩)] wr fun e w'=>(∃v,e=.returned v∧AU w.heap.size w' v n.wait.l)∧DA w w' g gt gh gw R n:=by
 obtain⟨r,h1,h2⟩:=h;refine(L3 _ _ g gt gh gw R n r h1 hi.wait).mono ?_;rintro e w' ⟨⟨v,rfl,k1⟩,k2⟩;exact⟨⟨v,rfl,k1.base h2.size⟩,r,h1.below k2,h2.trans (k2.mono h2.size)⟩
end
def JN(t:Int)(l:List AN):Nat:=(l.map fun x=>(t+2-x.sent).toNat).sum
theorem WO{t:Int}{l l':List AN}(h:l.Sublist l'):JN t l≤JN t l':=by
 unfold JN;induction h with
 | slnil=>exact aB _
 | cons a _ ih=>rw[aC,aD];omega
 | cons_cons a _ ih=>rw[aC,aC,aD,aD];omega
theorem UP(w:Be)(now:Int):∀l:List AN,(∀x∈l,1≤x.sent∧x.sent≤w.tries+1)→JN w.tries (l.filterMap (Ce w now))+(l.filter fun x=>Ex now x&&DF w x).length+(l.filter fun x=>Ex now x&& !DF w x).length≤JN w.tries l
 | [],_=>aB _
 | x::l,h=>by
  have ih:=UP w now l fun y hy=>h y (aN _ hy)
  have hx:=h x aI
  have e:∀(y:AN) (k:List AN),JN w.tries (y::k)=(w.tries+2-y.sent).toNat+JN w.tries k:=fun y k=>by unfold JN;rw[aC,aD]
  rw[e]
  cases hd:Ex now x with
  | false=>
   have hs:Ce w now x=some x:=by unfold Ce;rw[hd];rfl
   rw[aH,hs]
   dsimp only
   rw[e,aA,aA,hd]
   simp only[Bool.false_and,aK,if_false]
   omega
  | true=>
   cases hm:DF w x with
   | true=>
    have hs:Ce w now x=some (Ik w now x):=by unfold Ce;rw[hd,hm];rfl
    rw[aH,hs]
    dsimp only
    rw[e,aA,aA,hd,hm]
    simp only[Bool.and_self,Bool.not_true,aR,aK,if_false,if_true,aL]
    have h2:x.sent≤w.tries:=by unfold DF at hm;exact of_decide_eq_true hm
    have h3:(Ik w now x).sent=x.sent+1:=rfl
    rw[h3]
    omega
   | false=>
    have hs:Ce w now x=none:=by unfold Ce;rw[hd,hm];rfl
    rw[aH,hs]
    dsimp only
    rw[aA,aA,hd,hm]
    simp only[Bool.and_self,Bool.not_false,aR,aK,if_false,if_true,aL]
    omega
theorem Wq{w:Be}(hw:Dn w)(now:Int):JN w.tries (Dc w now).l+(Cv w now).length+(EE w now).length≤JN w.tries w.l:=by
 have h:=UP w now w.l hw.sent;unfold Dc Cv EE;dsimp only;rw[List.length_map];exact h
theorem ZJ{R:Rm}{N:Nat}{n:Af Aq}(h:Az N R n)(now:Int)(k:Nat):Az (N+2+3*(Cv n.wait now).length) R (((Cv n.wait now).take k).foldl (fun n x=>DJ (Al R) n now x) (Db (Ep (Al R) n now) (Dc n.wait now))):=by
 have h1:Az (N+1) R (Ep (Al R) n now):=by
  have:=Ul h now ((Al R).tick n.tab now).2.length;rw[aM (aB _)] at this;exact this
 have hw:(Ep (Al R) n now).wait=n.wait:=(LZ n now).2.wait;obtain⟨q1,q2,q3⟩:=RR (n:=Ep (Al R) n now) h1 now;rw[hw] at q1 q2 q3;have h2:=Uk (now:=now) ((Cv n.wait now).take k) (Kt h1 q1 q2 q3);refine h2.le ?_;have:=List.length_take_le' k (Cv n.wait now);omega
theorem Ajd{R:Rm}{N:Nat}{n:Af Aq}(h:Az N R n)(now:Int):Az (N+3+3*(JN n.wait.tries n.wait.l-JN n.wait.tries (Ct (Al R) n now).wait.l)) R (Ct (Al R) n now):=by
 have h1:Az (N+2+3*(Cv n.wait now).length) R (EI (Al R) n now):=by
  have hm:=ZJ h now (Cv n.wait now).length;rw[aM (aB _)] at hm;have h0:=ZJ h now 0;unfold EI;split
  ·exact hm
  ·exact h0
 have h2:Az (N+2+3*(Cv n.wait now).length+(EE n.wait now).length) R (DZ (Al R) n now):=M4 _ h1;have h3:=Wq h.wait.ok now;have h4:=WO (t:=n.wait.tries) (Kl (O:=Al R) n now).1
 have key:Az (N+3+3*(Cv n.wait now).length+(EE n.wait now).length) R (Ct (Al R) n now):=by
  unfold Ct;split
  ·exact(Ku h2 _ _).le (by omega)
  ·exact h2.le (by omega)
 exact key.le (by omega)
def Yp(M c:Nat)(R:Rm)(n:Af Aq)(j:Nat):Prop:=∃k,Az k R n∧k+3*JN n.wait.tries n.wait.l≤M+3*c+3*j
theorem Ajj{M c:Nat}{R:Rm}{n:Af Aq}{j:Nat}(h:Yp M c R n j)(now:Int):Yp M c R (Ct (Al R) n now) (j+1):=by
 obtain⟨k,h1,h2⟩:=h;have h4:=(Kl (O:=Al R) n now);have h5:=WO (t:=n.wait.tries) h4.1;have h3:=Wq h1.wait.ok now;refine⟨_,Ajd h1 now,?_⟩;rw[h4.2.1];omega
theorem Afu{M c:Nat}{R:Rm}{n:Af Aq}{j:Nat}(h:Yp M c R n j):Az (M+3*c+3*j) R n:=by
 obtain⟨k,h1,h2⟩:=h;exact h1.le (by omega)
theorem Amc{w:Be}(hw:Ga w):JN w.tries w.l≤640:=by
 have key:∀l:List AN,(∀x∈l,1≤x.sent)→JN w.tries l≤10*l.length:=by
  intro l;induction l with
  | nil=>intro _;exact aB _
  | cons x l ih=>
   intro h;have h1:=ih fun y hy=>h y (aN _ hy);have h2:=h x aI;have h3:=hw.t8;unfold JN at h1 ⊢;rw[aC,aD,aL];omega
 have h1:=key w.l fun x hx=>(hw.ok.sent x hx).1;have h2:=hw.len;omega
theorem And{M:Nat}{R:Rm}{n:Af Aq}(h:Az M R n):Yp M 640 R n 0:=⟨M,h,by have:=Amc h.wait;omega⟩
theorem Anv{R:Rm}{n:Af Aq}{now:Int}(h:Im n now)(x:CJ)(hx:x.now=now)(h0:0≤now)(h1:now≤1099511627776):Im (Fq R n x) now:=by
 subst hx;unfold Fq;split
 ·exact YT h _ _ h0 h1
 ·split
  ·exact Afm h _ _ _
  ·split
   ·exact Afl h h0 h1
   ·split
    ·exact Abf h
    ·exact h
def CJ.at(x:CJ)(now:Int):CJ:={x with now:=now}
theorem Aoe(x:CJ)(now:Int):(AO x).setIfInBounds 3 (.int .i64 now)=AO (x.at now):=by
 unfold AO Le CJ.at;rw[List.setIfInBounds_toArray];rfl
theorem Xi(w:World)(num inc:Int)(s:IP)(va:Value)(l:List CJ)(hl:Ee Fj AO w va l):Calls aJ 7 #[.int .i64 num,.int .i64 inc,.agg (Ci s),va] w fun e w'=>e=.returned (.bool true)∧Below w.heap.size w w':=by
 obtain⟨oA,cA,hva,hcA,hcA2⟩:=hl.slice;obtain⟨q,hq⟩:=eX l.length;rw[←hq] at hva hcA;have HL:Hid (∀W,Below w.heap.size w W→Ee Fj AO W va l):=fun W hb=>hl.below hb;have HQ:Hid _:=hq;unfold maxLen at hcA2;clear hl hq;subst hva;obtain⟨w0,hw0⟩:=eX (w.alloc (.cells (Ci s) 24));have Z0:Hid (w0.heap[w.heap.size]?=some (.cells (Ci s) 24 (0,0))):=by show _=_;rw[hw0];exact Ab _ _ _ rfl
 have B0:Hid (Below w.heap.size w w0):=by show Below _ _ _;rw[hw0];exact(Below.refl _ _).alloc (aB _) _
 have HW:=LG w0;have hw0':=hw0.symm;clear hw0;by_cases hnew:Lz s num inc
 case neg=>
  have HN:Hid (∀W,Calls aJ 10 #[.int .i64 num,.int .i64 inc,.agg (Ci s)] W fun e w'=>e=.returned (.tuple #[.pointer none,.int .i64 1])∧Below W.heap.size W w'):=fun W=>OX s num inc hnew W;clear hnew;go_enter Tryz.func7,Tryz.ntmps7;go_wp2_with (go_at_call 9;refine HW.mono ?_;rintro e w1 ⟨rfl,hb1⟩;have B1:Hid _:=hb1;clear hb1 HW hw0';refine Ak ?_);unfold AA;have Z1:Hid (w1.heap[w.heap.size]?=some (.cells (Ci s) 24 (0,0))):=(B1.out.block _ (gS Z0.out)).trans Z0.out;have CN:=HN.out w1
  go_wp2_with (first
   | ((with_reducible refine Aw 24 _ rfl ?_);refine AH IG rfl _ rfl w.heap.size 0 rfl _ _ _ (Ci s) rfl Z1.out (Ar _ _) ?_)
   | (go_at_call 10;refine CN.mono ?_;rintro e w2 ⟨rfl,hb2⟩))
  go_ret;have x1:=B0.out.trans (B1.out.mono B0.out.size);exact⟨rfl,x1.trans (hb2.mono x1.size)⟩
 obtain⟨R,n0,HD0⟩:∃R n0,Hid (R=KK s.ca s.ro s.pa s.idl s.hd∧n0=NW num inc s.le s.be s.ca (⟨[],[],[]⟩:Aq) ⟨s.wa,s.tr,s.ti,[],0⟩):=⟨_,_,rfl,rfl⟩;have HN:Hid (∀W,Calls aJ 10 #[.int .i64 num,.int .i64 inc,.agg (Ci s)] W fun e w'=> ∃g gt gh gw,e=.returned (.tuple #[.pointer (some ⟨g,0,none⟩),.int .i64 0])∧DA W w' g gt gh gw R n0):=fun W=>by rw[HD0.out.1,HD0.out.2];exact LQ s num inc hnew W
 have HI0:Hid (Az 0 R n0):=by show Az _ _ _;rw[HD0.out.1,HD0.out.2];exact Ot hnew
 have HB0:Hid (1≤n0.beat):=by show 1≤_;rw[HD0.out.2];exact(Io hnew.1).2.2
 have HOK:Hid _:=hnew;clear hnew;go_enter Tryz.func7,Tryz.ntmps7;go_wp2_with (go_at_call 9;refine HW.mono ?_;rintro e w1 ⟨rfl,hb1⟩;have B1:Hid _:=hb1;clear hb1 HW hw0';refine Ak ?_);unfold AA;have Z1:Hid (w1.heap[w.heap.size]?=some (.cells (Ci s) 24 (0,0))):=(B1.out.block _ (gS Z0.out)).trans Z0.out;have HBW:Hid _:=B0.out.trans (B1.out.mono B0.out.size);have HZ:Hid (∀W,Below w1.heap.size w1 W→W.heap[w.heap.size]?=some (.cells (Ci s) 24 (0,0))):=fun W hW=>(hW.block _ (gS Z1.out)).trans Z1.out;have CN:=HN.out w1
 go_wp2_with (first
  | ((with_reducible refine Aw 24 _ rfl ?_);refine AH IG rfl _ rfl w.heap.size 0 rfl _ _ _ (Ci s) rfl Z1.out (Ar _ _) ?_)
  | (go_at_call 10;refine CN.mono ?_;rintro e w2 ⟨g,gt,gh,gw,rfl,a2⟩;have A2:Hid _:=a2;clear a2 CN HN;refine Ak ?_))
 unfold AA;clear B0 Z0 B1;obtain⟨a,ha⟩:=eX s.tr;obtain⟨b,hb⟩:=eX s.ti;have hon:=(Io HOK.out.1).2.1;unfold TK at hon;rw[←ha, ←hb] at hon;have a0:0≤a:=hon.2.2.1;have a8:a≤8:=hon.2.2.2.1;have b0:1≤b:=hon.2.2.2.2.1;have b1:b≤1000:=hon.2.2.2.2.2;obtain⟨N,hN⟩:∃N:Nat,(N:Int)=(a+1)*b:=⟨((a+1)*b).toNat,by have:0≤(a+1)*b:=Int.mul_nonneg (by omega) (by omega);omega⟩
 have hN1:N≤9000:=by
  have h1:(a+1)*b≤9*1000:=Int.mul_le_mul (by omega) b1 (by omega) (by decide);omega
 have hwm:IntKind.i64.wrap ((a+1)*b)=(N:Int):=by rw[←hN,IntKind.wrap_i64];omega
 have HN9:Hid _:=hN
 have HAB:Hid (∀W,Below w1.heap.size w1 W→W.cell? ⟨w.heap.size,12,none⟩=some (.int .i64 a)∧W.cell? ⟨w.heap.size,13,none⟩=some (.int .i64 b)):=fun W hW=>by
  rw[cell_of_row _ _ _ _ _ _ (HZ.out W hW),cell_of_row _ _ _ _ _ _ (HZ.out W hW),ha,hb];exact⟨rfl,rfl⟩
 have HW0:Hid (n0.wait.tries=a∧n0.wait.time=b):=by show _∧_;rw[HD0.out.2,ha,hb];exact⟨rfl,rfl⟩
 have H0:Hid (B7 w1 w2 g gt gh gw R n0 n0 0):=⟨A2.out,HI0.out,II.refl _,JS.refl _⟩;have HV0:Hid (Im n0 0):=⟨HI0.out.wait.ok,by rw[HD0.out.2];exact fun x hx=>absurd hx (aQ)⟩;clear hon ha hb hN HD0;go_wp2_with fail;go_loopw [11,12] (fun s11 s12 wr=> ∃(i:Nat) (now:Int) (n:Af Aq),i≤q∧i≤80∧s12=.int .i64 (i:Int)∧s11=.int .i64 now∧0≤now∧now≤1073741824∧Hid (B7 w1 wr g gt gh gw R n0 n (300*i))∧Hid (Im n now)) (fun _ s12 _=>80-(intOf s12).toNat)
 case atStart=>exact⟨0,0,n0,aP _,aP _,rfl,rfl,by decide,by decide,H0,HV0⟩
 case round=>
  obtain⟨i,now,n,hi,hi80,rfl,rfl,hn0,hn1,HR,HV⟩:=hrel;have HBr:Hid _:=HBW.out.trans (HR.out.own.bel.mono HBW.out.size);by_cases hand:i<q∧i<80
  case neg=>
   have HEN:Hid (Yp 24000 640 R n 0):=And (HR.out.inn.le (by omega))
   have HEB:Hid (Lg n.wait now (now+(N:Int))):=by
    have h1:=Ac3 HV.out.1 HV.out.2;rw[HR.out.pk.tries,HR.out.pk.time,HW0.out.1,HW0.out.2, ←HN9.out] at h1;exact h1
   have HT1:Hid (1≤n0.wait.time):=by show 1≤_;rw[HW0.out.2];exact b0
   have HA:Hid (DA w1 wr g gt gh gw R n∧II n0 n∧JS n0 n):=⟨HR.out.own,HR.out.par,HR.out.pk⟩;clear H0 HV0 HI0 HV HR;by_cases hlt:i<q
   focus
    have hlt':(i:Int)<(q:Int):=by omega
    have hlt2':¬(i:Int)<80:=by omega
   rotate_left
   focus
    have hlt':¬(i:Int)<(q:Int):=by omega
   all_goals
    go_wp2_with fail;go_loopw [11,14] (fun s11 s14 W=> ∃(k:Nat) (n':Af Aq),k≤N∧s14=.int .i64 (k:Int)∧s11=.int .i64 (now+(k:Int))∧Hid (Yp 24000 640 R n' k)∧Hid (Lg n'.wait (now+(k:Int)) (now+(N:Int)))∧Hid (DA w1 W g gt gh gw R n'∧II n0 n'∧JS n0 n')) (fun _ s14 _=>N-(intOf s14).toNat)
    case atStart=>exact⟨0,n,aP _,rfl,by simp,HEN,by show Lg _ _ _;simpa using HEB.out,HA⟩
    case round=>
     obtain⟨k,n',hk,rfl,rfl,HEk,HBk,HAk⟩:=hrel;have c12:=(HAB.out wr HAk.out.1.bel).1;have c13:=(HAB.out wr HAk.out.1.bel).2;by_cases hkn:k<N
     ·have hkn':(k:Int)<(N:Int):=by omega
      have CT:=Su HAk.out.1 (Afu HEk.out) (by omega) (by rw[HAk.out.2.1.beat];exact HB0.out) (now+(k:Int)+1);have HE2:Hid (Yp 24000 640 R (Ct (Al R) n' (now+(k:Int)+1)) (k+1)):=Ajj HEk.out _;have HB2:Hid (Lg (Ct (Al R) n' (now+(k:Int)+1)).wait (now+(k:Int)+1) (now+(N:Int))):=Ag9 HBk.out (by omega) (by omega) (by rw[HAk.out.2.2.time];exact HT1.out)
      have HP2:Hid (II n0 (Ct (Al R) n' (now+(k:Int)+1))∧JS n0 (Ct (Al R) n' (now+(k:Int)+1))):=⟨HAk.out.2.1.trans (LK n' _).2.par,by
       have a:=Kl (O:=Al R) n' (now+(k:Int)+1);exact HAk.out.2.2.trans ⟨a.2.1,a.2.2.1,a.2.2.2⟩⟩
      clear HEk HBk HAk;go_wp2_with (go_at_call 31;refine CT.mono ?_;rintro e w4 ⟨rfl,a4,_⟩;have A4:Hid _:=a4;clear a4 CT);go_roundw
      case rel=>exact⟨k+1,_,by omega,by go_num,by go_num,HE2,by show Lg _ _ _;rw[show now+((k+1:Nat):Int)=now+(k:Int)+1 by omega];exact HB2.out,A4.out,HP2.out.1,HP2.out.2⟩
      case measure=>simp[intOf];omega
     ·have hkn':¬(k:Int)<(N:Int):=by omega
      obtain rfl:k=N:=by omega
      have hnil:n'.wait.l=[]:=Aga HBk.out (Int.le_refl _) (by rw[HAk.out.2.2.time];exact HT1.out)
      have CW:Calls aJ 25 #[.pointer (some ⟨g,0,none⟩)] wr fun e w'=> ∃o c,e=.returned (.slice o 0 c)∧Below w1.heap.size w1 w':=by
       refine(VM HAk.out.1 (Afu HEk.out)).mono ?_;rintro e w' ⟨⟨v,rfl,hv⟩,ho⟩;obtain⟨o,c,eu,_⟩:=hv.slice;rw[hnil] at eu;exact⟨o,c,by rw[eu];rfl,ho.bel⟩
      clear HEk HBk HAk hnil;go_wp2_with (go_at_call 25;refine CW.mono ?_;rintro e w4 ⟨o4,c4,rfl,hb4⟩;have HB4:Hid _:=HBW.out.trans (hb4.mono HBW.out.size);clear hb4);go_ret;exact⟨rfl,HB4.out⟩
  obtain⟨hlt,hlt2⟩:=hand;have hlt':(i:Int)<(q:Int):=by omega
  have hlt2':(i:Int)<80:=by omega
  obtain⟨ga,offa,cura,tya,fra,x,rfl,hga,hcca,hxa⟩:=(HL.out wr HBr.out).at i hlt;have HXA:Hid _:=hxa;obtain⟨wx,hwx⟩:=eX (wr.alloc (.cells (AO x) 41));have BX:Hid (Below wr.heap.size wr wx):=by show Below _ _ _;rw[hwx];exact(Below.refl _ _).alloc (aB _) _
  have Ax:wx.heap[wr.heap.size]?=some (.cells (AO x) 41 (0,0)):=by rw[hwx];exact Ab _ _ _ rfl
  have SRx:(wr.alloc (.cells (AO Lj) 41)).setRow wr.heap.size (AO x)=wx:=by rw[hwx];exact Bo _ _ _ _ _ rfl
  have KGa:Hid _:=hga;have KCa:Hid _:=hcca;have KS:Hid ((AO x).size=71∧(AO x).all (·.oneCell')=true):=⟨Hk x,Pz x⟩;clear hxa hwx hga hcca;obtain⟨xn,hxn⟩:=eX x.now;have k3:wx.cell? ⟨wr.heap.size,3,none⟩=some (.int .i64 xn):=by rw[cell_of_row _ _ _ _ _ _ Ax,Gw,hxn]
  have fz3:wx.frozen? ⟨wr.heap.size,3,none⟩=false:=FZ Ax rfl;clear hxn
  go_wp2_with (first
   | ((with_reducible refine Mx 41 rfl ?_);refine Hs (E:=Fj) Hq rfl rfl ?_)
   | ((with_reducible refine Aw 41 _ rfl ?_);refine Eu (E:=Fj) Hq rfl _ rfl ga (offa+i*71) rfl cura tya fra (AO x) KS.out.1 KGa.out KCa.out ?_)
   | ((with_reducible refine Bu 41 _ _ rfl ?_);refine EK (E:=Fj) Hq rfl _ _ rfl wr.heap.size (AO x) KS.out rfl rfl _ (Ab _ _ _ rfl) rfl _ SRx ?_;refine Ak ?_))
  unfold AA;clear SRx KGa KCa;obtain⟨t1,ht1⟩:=eX (max now (min xn 1073741824));have HT1:Hid (now≤t1∧t1≤1073741824):=by show _∧_;omega
  obtain⟨wy,hwy⟩:=eX (wx.setCell ⟨wr.heap.size,3,none⟩ (.int .i64 t1));have Ay:wy.heap[wr.heap.size]?=some (.cells (AO (x.at t1)) 41 (0,0)):=by rw[hwy,heap_setCell_same wx _ _ _ _ _ Ax,Aoe]
  have BY:Hid (Below wr.heap.size wr wy):=by show Below _ _ _;rw[hwy];exact BX.out.setCell (aB _) _
  have y3:wy.cell? ⟨wr.heap.size,3,none⟩=some (.int .i64 t1):=by rw[cell_of_row _ _ _ _ _ _ Ay,Gw];rfl
  have hwy':=hwy.symm;clear hwy Ax;have HSY:Hid ((AO (x.at t1)).size=71):=Hk _;have CD:=(HR.out.grow BY.out).does HB0.out (by omega) (x.at t1);have HV2:Hid (Im (Fq R n (x.at t1)) t1):=Anv (Abe HV.out HT1.out.1) (x.at t1) rfl (by have:=HT1.out;omega) (by have:=HT1.out;omega);have ht1':=ht1.symm;clear ht1
  go_wp2_with (first
   | ((with_reducible refine Aw 41 _ rfl ?_);refine AH JI rfl _ rfl wr.heap.size 0 rfl _ _ _ (AO (x.at t1)) HSY.out Ay (Ar _ _) ?_)
   | (go_at_call 12;refine CD.mono ?_;rintro e w4 ⟨rfl,a4,_⟩;have A4:Hid _:=a4;clear a4 CD))
  go_roundw
  case rel=>exact⟨i+1,t1,_,by omega,by omega,by go_num,rfl,by have:=HT1.out;omega,HT1.out.2,A4,HV2⟩
  case measure=>simp[intOf];omega
end
end Go.Proofs.YtbhkoipcpcoooaaGreat
