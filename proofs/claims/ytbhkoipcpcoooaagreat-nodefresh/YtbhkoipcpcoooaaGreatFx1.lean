import Derived.Test.YtbhkoipcpcoooaaGreatJ1
import Derived.Test.YtbhkoipcpcoooaaGreatProg
import Derived.Test.YtbhkoipcpcoooaaGreatJ9
import Derived.Test.YtbhkoipcpcoooaaGreatJ2
import Derived.Sort.LotA
import Derived.WalkKit
import Derived.WalkSpells
import Derived.WalkLawsBesides
import Derived.BigQuiet
import Derived.KernelRfl
import Derived.Laws.StructEq
import Derived.Laws.Tables
import Derived.Laws.Rows
import Derived.StillTailTactics
import Derived.StillTail
import Derived.Test.YtbhkoipcpcoooaaGreatJ17
import Derived.Test.YtbhkoipcpcoooaaGreatJ3
import Derived.OrdersHeld
import Derived.Test.YtbhkoipcpcoooaaGreatJ12
import Derived.Test.YtbhkoipcpcoooaaGreatJ7
import Derived.Great.BuildSlice
import Derived.Laws.AppendOwn
import Derived.Laws.OwnMore
import Derived.Maps.AppendAt
import Derived.Test.YtbhkoipcpcoooaaGreatJ6
import Derived.Test.YtbhkoipcpcoooaaGreatJ5
import Derived.Test.YtbhkoipcpcoooaaGreatJ4
import Derived.OwnWalk
import Derived.Laws.CopyRow
import Derived.Deep.QuietTactic
import Derived.Lib.Hide
import Derived.Lib.Walk
import Derived.Shelf.SlSortCmp.KitK
import Derived.Deep.LoopGhost
import Derived.Deep.CutRange
import Derived.Laws.AppendOwnNone
import Derived.Great.Walk
import Derived.Laws.Cover3
import Derived.Test.YtbhkoipcpcoooaaGreatJ24
import Derived.Test.YtbhkoipcpcoooaaGreatJ23
import Derived.Test.YtbhkoipcpcoooaaGreatJ15
import Derived.Test.YtbhkoipcpcoooaaGreatJ14
import Derived.Test.YtbhkoipcpcoooaaGreatJ13
import Derived.Lib.UnsafeStr
import Derived.Laws.BytesArg
import Derived.Laws.Bits64b
import Derived.Lib.BitFns
import Derived.WalkMore
import Derived.Laws.CopyOwn
import Derived.Lib.Bytealg
import Derived.Lib.BufferWrite
import Derived.Laws.MakeOwn
import Derived.BigRegion
import Derived.Test.YtbhkoipcpcoooaaGreatJ25
import Derived.Test.YtbhkoipcpcoooaaGreatJ18
import Derived.Test.YtbhkoipcpcoooaaGreatJ16
import Derived.Test.YtbhkoipcpcoooaaGreatJ11
import Derived.Test.YtbhkoipcpcoooaaGreatJ8
import Derived.Test.YtbhkoipcpcoooaaGreatJ10
import Derived.Deep.RegionLaw
import Derived.Shelf.RegionOpenPlain
import Derived.Test.YtbhkoipcpcoooaaGreatRows
import Derived.ProofKit
import Derived.OpenShut
import Derived.Carry
import Derived.Deep.Slices
import Derived.SizedLaws
import Derived.Test.YtbhkoipcpcoooaaGreatJ26
import Derived.Test.YtbhkoipcpcoooaaGreatJ22
import Derived.Test.YtbhkoipcpcoooaaGreatJ20
import Derived.Test.YtbhkoipcpcoooaaGreatJ19
import Derived.Test.YtbhkoipcpcoooaaGreatJ21
namespace Go.Proofs.YtbhkoipcpcoooaaGreat
set_option maxRecDepth 20000
set_option maxHeartbeats 64000000
open Go
open Go.Proofs.Tryz renaming prog → aA, ntmps70 → aD, func70 → aG, ntmps69 → aN, ntmps65 → aO, func62 → aP, func69 → aQ, func65 → aT
open Go.RowKit.Below renaming refl → aB
open _root_.Nat renaming le_refl → aC, le_succ → aH, zero_le → aZ
open Go.World renaming drew → aI
open _root_.List renaming take_succ_cons → aJ, drop_zero → aK, take_zero → aL, setIfInBounds_toArray → aM, take_of_length_le → aR, drop_succ_cons → aV, set_cons_succ → aW, set_cons_zero → aX
theorem Af7(h:Bb)(f:Int):h.floor≤(Dp h f).floor∧h.top≤(Dp h f).top:=by
  unfold Dp;split
  · unfold Ei;dsimp only;omega
  · exact⟨Int.le_refl _,Int.le_refl _⟩
def Jy(h h':Bb):Prop:=(h'.use=h.use∧h'.said=h.said)∨(h'.use=0∧h.use≠h'.floor∧h.use≠h'.top)
theorem Mh(h:Bb):Jy h h:=.inl ⟨rfl,rfl⟩
theorem Tp(h:Bb)(f t:Int):Jy h (Ei {h with floor:=f,top:=t}):=by
  unfold Jy Ei;dsimp only;by_cases hc:h.use=f∨h.use=t
  · rw[if_pos hc,if_pos hc];exact .inl ⟨rfl,rfl⟩
  · rw[if_neg hc];exact .inr ⟨rfl,fun e=>hc (.inl e),fun e=>hc (.inr e)⟩
theorem W9(h:Bb)(f:Int):Jy h (Dp h f):=by
  unfold Dp;split
  · exact Tp h _ _
  · exact Mh h
theorem Ahw(h:Bb)(e:Int):Jy h (EM h e):=by
  unfold EM;split
  · exact Tp h h.floor e
  · exact Mh h
theorem Yv{a b c:Bb}(hbc:b.floor=c.floor∨c.floor≠a.use)(hbt:b.top=c.top∨c.top≠a.use)(h1:Jy a b)(h2:Jy b c)(h0:b.use=0→c.use=0):Jy a c:=by
  rcases h1 with ⟨e1,e2⟩ | ⟨e1,e2,e3⟩
  · rcases h2 with ⟨g1,g2⟩ | ⟨g1,g2,g3⟩
    · exact .inl ⟨g1.trans e1,g2.trans e2⟩
    · rw[e1] at g2 g3;exact .inr ⟨g1,g2,g3⟩
  · refine .inr ⟨h0 e1,?_,?_⟩
    · rcases hbc with e | e
      · rw[←e];exact e2
      · exact fun x=>e x.symm
    · rcases hbt with e | e
      · rw[←e];exact e3
      · exact fun x=>e x.symm
theorem Xl{h:Bb}(hk:DO h)(floor epoch at_ of:Int):Jy h (DK h floor epoch at_ of).1:=by
  have key:Jy h (EM (Dp h floor) epoch):=by
    have h1:=W9 h floor;have h2:=Ahw (Dp h floor) epoch
    have hfl:(EM (Dp h floor) epoch).floor=(Dp h floor).floor:=by
      unfold EM;split
      · rfl
      · rfl
    have hul:h.use≤(Dp h floor).top:=by
      have:=(Af7 h floor).2;by_cases hu:h.use=0
      · have:=hk.floor0;have:=hk.le;omega
      · have h3:=(Hw.1 (hk.uses hu)).1;rcases(hk.two _ h3).1 with e | e
        · have:=hk.le;omega
        · omega
    refine Yv (.inl hfl.symm) ?_ h1 h2 ?_
    · unfold EM;split
      · right;show epoch≠h.use;omega
      · exact .inl rfl
    · intro h0;rcases h2 with ⟨g1,_⟩ | ⟨g1,_⟩
      · rw[g1];exact h0
      · exact g1
  unfold DK;split
  · exact Mh h
  · split
    · exact key
    · split
      · exact key
      · exact key
section
variable {T:Type} {O:Qz T}
structure Uy(O:Qz T):Prop where
 look:∀t now e h,O.cach (O.look t now e h).1=O.cach t
 lay:∀t s,s.bank≠1→O.cach (O.lay t s).1=O.cach t
 keep:∀t a b,O.cach (O.keep t a b)≤O.cach t
 tick:∀t now,O.cach (O.tick t now).1≤O.cach t
def Gb(O:Qz T)(n:Af T):Prop:=DO n.hold∧n.hold.use=0∧O.cach n.tab=0
theorem Pc{n:Af T}(h:Gb O n)(now:Int):EC n now=false:=by
 unfold EC OZ;rw[h.2.1];rfl
def Ou(y:AP):Prop:=y.kind=6∨y.kind=12∨y.kind=13∨y.kind=20
theorem XD{n:Af T}(h:Gb O n)(index:Int)(hd:List Int)(now:Int):Gb O (Cl O n index hd now)∧AS Ou n (Cl O n index hd now):=by
 unfold Cl;rw[if_neg (by rw[Pc h];decide)];exact⟨h,(AS.refl _ n).write (.inl rfl)⟩
theorem Wp(hC:Uy O){n:Af T}{h:Bb}(hu:n.hold.use=h.use):(Cs O n h).log=n.log∧O.cach (Cs O n h).tab≤O.cach n.tab:=by
 unfold Cs;dsimp only;rw[if_neg (by simpa using hu)];split
 ·exact⟨rfl,hC.keep _ _ _⟩
 ·exact⟨rfl,aC _⟩
theorem OH(n:Af T)(«to»:Int)(m:An):(Cx n «to» m).tab=n.tab:=(Ew n «to» m).2.2.2.1
theorem Aa9{h h':Bb}(hu:Jy h h')(h0:h.use=0):h'.use=0:=by
 rcases hu with ⟨e,_⟩ | ⟨e,_⟩
 ·rw[e,h0]
 ·exact e
theorem An0(hC:Uy O)(n:Af T)(m:An):O.cach (JP O n m).tab=O.cach n.tab:=by
 have hb:(Iy m).bank≠1:=by
  unfold Iy;split <;> exact fun e=>by cases e
 have hl:=hC.lay n.tab (Iy m) hb;unfold JP;split;rename_i t e he;rw[he] at hl;split
 ·exact hl
 ·exact hl
theorem Abr(hC:Uy O){n:Af T}(h:Gb O n)(m:An):Gb O (Ea O n m).1∧AS Ou n (Ea O n m).1:=by
 have hok:=Ui h.1 (Ad m 2) (Ad m 1) (Ad m 3) (Ad m 4);have hu:=Aa9 (Xl h.1 (Ad m 2) (Ad m 1) (Ad m 3) (Ad m 4)) h.2.1;have hh:=(Ny (O:=O) n m).2.1;refine⟨⟨by rw[hh];exact hok,by rw[hh];exact hu,?_⟩,?_⟩
 ·unfold Ea;split;rename_i h' v e;rw[e] at hu;dsimp only;obtain⟨_,t2⟩:=Wp hC (n:=Bi n h') (h:=n.hold) (by show h'.use=_;rw[h.2.1];exact hu)
  have t3:O.cach (Cs O (Bi n h') n.hold).tab=0:=by
   have:O.cach (Bi n h').tab=0:=h.2.2;omega
  split
  ·exact t3
  ·dsimp only;unfold Mb;split
   ·rw[OH,An0 hC];exact t3
   ·rw[OH];exact t3
 ·unfold Ea;split;rename_i h' v e;rw[e] at hu;dsimp only;obtain⟨t1,_⟩:=Wp hC (n:=Bi n h') (h:=n.hold) (by show h'.use=_;rw[h.2.1];exact hu);have t4:AS Ou n (Cs O (Bi n h') n.hold):=AS.of_eq t1;split
  ·exact t4
  ·dsimp only;unfold Mb;split
   ·exact(t4.trans ((Xc _ m).1.mono fun _ e=> .inr (.inr (.inr e)))).trans (AS.of_eq (Ew _ _ _).1)
   ·exact t4.trans (AS.of_eq (Ew _ _ _).1)
theorem Acs(n:Af T)(src:Int)(m:An):(DT O n src m).1.tab=n.tab:=by
 unfold DT;split
 ·split
  ·rw[OH]
  ·rfl
 ·rfl
theorem Abq(hC:Uy O){n:Af T}(h:Gb O n)(src:Int)(data:List UInt8)(now:Int)(hno:∀m,DQ data=some m→m.kind=3→Ad m 0≠n.hold.life):Gb O (DC O n src data now)∧AS Ou n (DC O n src data now):=by
 have key:Gb O (IA O n src data now).1∧AS Ou n (IA O n src data now).1:=by
  unfold IA;split
  ·exact⟨h,AS.refl _ n⟩
  ·rename_i m hd;dsimp only;split
   ·split
    ·exact Abr hC h m
    ·exact⟨h,AS.refl _ n⟩
   ·split
    ·rename_i hk;split
     ·rename_i hs;exact absurd (of_decide_eq_true hs.2) (hno m hd hk)
     ·exact⟨h,AS.refl _ n⟩
    ·split
     ·split
      ·obtain⟨a1,a2,_⟩:=LH (O:=O) n src m;exact⟨⟨by rw[a2.hold];exact h.1,by rw[a2.hold];exact h.2.1,by rw[Acs];exact h.2.2⟩,AS.of_eq a1⟩
      ·exact⟨h,AS.refl _ n⟩
     ·split
      ·split
       ·unfold FL;rw[if_neg (by rw[Pc h];decide)];exact⟨h,AS.refl _ n⟩
       ·exact⟨h,AS.refl _ n⟩
      ·exact⟨h,AS.refl _ n⟩
 unfold DC;split
 ·rename_i a e;rw[e] at key;exact key
 ·rename_i a e;rw[e] at key;exact⟨key.1,key.2.write (.inr (.inr (.inl rfl)))⟩
theorem Abp(hC:Uy O){n:Af T}(h:Gb O n)(now:Int):Gb O (Ct O n now)∧AS Ou n (Ct O n now):=by
 obtain⟨⟨l,el,ql⟩,s⟩:=LK (O:=O) n now;refine⟨⟨by rw[s.hold];exact h.1,by rw[s.hold];exact h.2.1,?_⟩,l,el,fun y hy=> ?_⟩
 ·have h1:(Ct O n now).tab=(DZ O n now).tab:=by
   unfold Ct;split
   ·exact OH _ _ _
   ·rfl
  have h2:(DZ O n now).tab=(EI O n now).tab:=by
   unfold DZ;exact Pm (f:=ED) (fun _ _=>rfl) _ _
  have h3:(EI O n now).tab=(Ep O n now).tab:=by
   unfold EI;rw[if_neg (by rw[Pc h];decide)];rfl
  have h4:(Ep O n now).tab=(O.tick n.tab now).1:=by
   unfold Ep;exact Pm (f:=Il) (fun _ _=>rfl) _ _
  rw[h1,h2,h3,h4];have:=hC.tick n.tab now;have:=h.2.2;omega
 ·rcases ql y hy with ⟨_,hm⟩ | e | e
  ·rw[Pc h] at hm
   cases hm
  ·exact .inr (.inl e)
  ·exact .inl e
theorem YY{n:Af T}(h:Gb O n):Gb O (Fr n)∧AS Ou n (Fr n):=by
 obtain⟨c1,c2⟩:=Pt n;refine⟨⟨by rw[c2.hold];exact h.1,by rw[c2.hold];exact h.2.1,?_⟩,c1.mono fun _ e=> .inl e⟩
 have:(Fr n).tab=n.tab:=by
  unfold Fr;exact Pm (f:=fun n (x:AN)=>Eb n x.index 5) (fun _ _=>rfl) _ _
 rw[this];exact h.2.2
theorem Ajc(num inc lease beat cache:Int)(t:T)(w:Be)(ht:O.cach t=0):Gb O (NW num inc lease beat cache t w):=⟨Uc inc,rfl,ht⟩
end
section
open Go.RowKit
theorem UD{ops:Array Oper}{Q:Exit→Act→World→Prop}{i:Nat}{o:Oper}{K:Act→World→Prop}{a:Act}{w:World}(hi:ops[i]?=some o)(hw:Region.wanted o (yielded ops a.tmps)=true)(v:Value)(hx:(execOp a.eval o).run aA w=.ok (.value v) w)(d:Option Tmp)(hd:o.dst=d)(hK:K (a.put d v) w):wpOp aA ops Q i K a w:=
 FF hi hw v hx d hd hK
def Ib(S:Aq)(k:Int):List Ai:=if 0≤k∧k≤3 then Bv S k.toNat else []
theorem Age(B:Nat)(w:World)(g:Nat)(R:Rm)(S:Aq)(v1 v2 v3:Value)(h:Cw B w g R S v1 v2 v3)(k:Int):
  Calls aA 62 #[.pointer (some ⟨g,0,none⟩),.int .i64 k] w fun e w'=>e=.returned (.int .i64 ((Ib S k).length:Nat))∧w'=w:=by
 have WI:Hid (∀b,decide (0≤k∧k≤3)=b→∀W,Calls aA 88 #[.int .i64 k,.int .i64 3] W fun e w'=>e=.returned (.bool b)∧w'=W):=by
  intro b hb W;rw[←hb];exact PL k 3 W
 by_cases hk:0≤k∧k≤3
 focus
  have e1:Ib S k=Bv S k.toNat:=by unfold Ib;rw[if_pos hk]
  rw[e1];obtain⟨b,rfl⟩:=Int.eq_ofNat_of_zero_le hk.1;have hb:b<4:=by omega
  have hb4:(b:Int)<4:=by omega
  have hw:=WI.out true (decide_eq_true hk);have WT:Hid _:=hw;have c1:=h.f.bankCell b hb;obtain⟨o,cap,e,he,hm⟩:=(h.bank b).slice;unfold maxLen at hm;rw[e] at c1;rw[Int.toNat_natCast];generalize (Bv S b).length=n at c1 he ⊢;clear h e WI hw hk e1
 rotate_left
 focus
  have e1:Ib S k=[]:=by unfold Ib;rw[if_neg hk]
  rw[e1];have hw:=WI.out false (decide_eq_false hk);have WT:Hid _:=hw;clear h WI hw hk e1
 all_goals
  go_enter aP,Tryz.ntmps62;go_wp2_with (go_at_call 88;refine(WT.out _).mono ?_;rintro e w1 ⟨rfl,rfl⟩);go_ret;exact⟨rfl,rfl⟩
end
section
open Go.Lib Go.RowKit
theorem Aqc(m:An)(hm:BB m)(x:Int)(w:World):Calls aA 70 #[.agg (Ae m),.int .u8 105,.int .i64 x] w fun e w'=>e=.returned (.agg (Ae (AR m 0 x)))∧Below w.heap.size w w':=by
 have g0:((w.alloc (.cells (Ae m) 39)).alloc (.cells Ao 39)).heap[w.heap.size]?=some (.cells (Ae m) 39 (0,0)):=Ah _ _ _ _ (Ab _ _ _ rfl)
 have hc:((w.alloc (.cells (Ae m) 39)).alloc (.cells Ao 39)).cell? ⟨w.heap.size,1,none⟩=some (.int .i64 (Ad m 0)):=by
  rw[cell_of_row _ _ _ _ _ _ g0];exact BK hm 0 (by decide)
 have hf:((w.alloc (.cells (Ae m) 39)).alloc (.cells Ao 39)).frozen? ⟨w.heap.size,1,none⟩=false:=frozen_of_row _ _ _ _ _ g0;have hm2:=EU hm 0 x;have hms:=BG hm2;have es:=FK hm 0 (by decide) x;clear g0;go_enter aG,aD;go_wp2_with ((with_reducible refine Aw 39 _ rfl ?_);refine Dk ?_);unfold E6
 try rw[es]
 clear hc hf es;have g1:((w.alloc (.cells (Ae (AR m 0 x)) 39)).alloc (.cells Ao 39)).heap[w.heap.size]?=some (.cells (Ae (AR m 0 x)) 39 (0,0)):=Ah _ _ _ _ (Ab _ _ _ rfl);have z1:((w.alloc (.cells (Ae (AR m 0 x)) 39)).alloc (.cells Ao 39)).heap[w.heap.size+1]?=some (.cells Ao 39 (0,0)):=Ab _ _ _ (by simp);have B1:Below w.heap.size w ((w.alloc (.cells (Ae (AR m 0 x)) 39)).alloc (.cells Ao 39)):=((aB _ _).alloc (aC _) _).alloc (by simp) _
 go_wp2_with (first
  | ((with_reducible refine Aw 39 _ rfl ?_);refine AH BD rfl _ rfl w.heap.size 0 rfl _ _ _ (Ae (AR m 0 x)) hms g1 (Ar _ _) ?_)
  | ((with_reducible refine Bu 39 _ _ rfl ?_);refine BP BD rfl _ _ rfl (w.heap.size+1) (Ae (AR m 0 x)) (CY hm2) rfl rfl _ z1 rfl _ rfl ?_))
 refine Fa BD (p:=6) rfl rfl (w.heap.size+1) rfl (Ae (AR m 0 x)) hms (setRow_heap _ _ _ _ _ _ z1) ⟨rfl,Aj B1 (aH _) _⟩
theorem Aqb(m:An)(hm:BB m)(x:Int)(w:World):Calls aA 70 #[.agg (Ae m),.int .u8 101,.int .i64 x] w fun e w'=>e=.returned (.agg (Ae (AR m 1 x)))∧Below w.heap.size w w':=by
 have g0:((w.alloc (.cells (Ae m) 39)).alloc (.cells Ao 39)).heap[w.heap.size]?=some (.cells (Ae m) 39 (0,0)):=Ah _ _ _ _ (Ab _ _ _ rfl)
 have hc:((w.alloc (.cells (Ae m) 39)).alloc (.cells Ao 39)).cell? ⟨w.heap.size,2,none⟩=some (.int .i64 (Ad m 1)):=by
  rw[cell_of_row _ _ _ _ _ _ g0];exact BK hm 1 (by decide)
 have hf:((w.alloc (.cells (Ae m) 39)).alloc (.cells Ao 39)).frozen? ⟨w.heap.size,2,none⟩=false:=frozen_of_row _ _ _ _ _ g0;have hm2:=EU hm 1 x;have hms:=BG hm2;have es:=FK hm 1 (by decide) x;clear g0;go_enter aG,aD;go_wp2_with ((with_reducible refine Aw 39 _ rfl ?_);refine Dk ?_);unfold E6
 try rw[es]
 clear hc hf es;have g1:((w.alloc (.cells (Ae (AR m 1 x)) 39)).alloc (.cells Ao 39)).heap[w.heap.size]?=some (.cells (Ae (AR m 1 x)) 39 (0,0)):=Ah _ _ _ _ (Ab _ _ _ rfl);have z1:((w.alloc (.cells (Ae (AR m 1 x)) 39)).alloc (.cells Ao 39)).heap[w.heap.size+1]?=some (.cells Ao 39 (0,0)):=Ab _ _ _ (by simp);have B1:Below w.heap.size w ((w.alloc (.cells (Ae (AR m 1 x)) 39)).alloc (.cells Ao 39)):=((aB _ _).alloc (aC _) _).alloc (by simp) _
 go_wp2_with (first
  | ((with_reducible refine Aw 39 _ rfl ?_);refine AH BD rfl _ rfl w.heap.size 0 rfl _ _ _ (Ae (AR m 1 x)) hms g1 (Ar _ _) ?_)
  | ((with_reducible refine Bu 39 _ _ rfl ?_);refine BP BD rfl _ _ rfl (w.heap.size+1) (Ae (AR m 1 x)) (CY hm2) rfl rfl _ z1 rfl _ rfl ?_))
 refine Fa BD (p:=6) rfl rfl (w.heap.size+1) rfl (Ae (AR m 1 x)) hms (setRow_heap _ _ _ _ _ _ z1) ⟨rfl,Aj B1 (aH _) _⟩
theorem Aqa(m:An)(hm:BB m)(x:Int)(w:World):Calls aA 70 #[.agg (Ae m),.int .u8 102,.int .i64 x] w fun e w'=>e=.returned (.agg (Ae (AR m 2 x)))∧Below w.heap.size w w':=by
 have g0:((w.alloc (.cells (Ae m) 39)).alloc (.cells Ao 39)).heap[w.heap.size]?=some (.cells (Ae m) 39 (0,0)):=Ah _ _ _ _ (Ab _ _ _ rfl)
 have hc:((w.alloc (.cells (Ae m) 39)).alloc (.cells Ao 39)).cell? ⟨w.heap.size,3,none⟩=some (.int .i64 (Ad m 2)):=by
  rw[cell_of_row _ _ _ _ _ _ g0];exact BK hm 2 (by decide)
 have hf:((w.alloc (.cells (Ae m) 39)).alloc (.cells Ao 39)).frozen? ⟨w.heap.size,3,none⟩=false:=frozen_of_row _ _ _ _ _ g0;have hm2:=EU hm 2 x;have hms:=BG hm2;have es:=FK hm 2 (by decide) x;clear g0;go_enter aG,aD;go_wp2_with ((with_reducible refine Aw 39 _ rfl ?_);refine Dk ?_);unfold E6
 try rw[es]
 clear hc hf es;have g1:((w.alloc (.cells (Ae (AR m 2 x)) 39)).alloc (.cells Ao 39)).heap[w.heap.size]?=some (.cells (Ae (AR m 2 x)) 39 (0,0)):=Ah _ _ _ _ (Ab _ _ _ rfl);have z1:((w.alloc (.cells (Ae (AR m 2 x)) 39)).alloc (.cells Ao 39)).heap[w.heap.size+1]?=some (.cells Ao 39 (0,0)):=Ab _ _ _ (by simp);have B1:Below w.heap.size w ((w.alloc (.cells (Ae (AR m 2 x)) 39)).alloc (.cells Ao 39)):=((aB _ _).alloc (aC _) _).alloc (by simp) _
 go_wp2_with (first
  | ((with_reducible refine Aw 39 _ rfl ?_);refine AH BD rfl _ rfl w.heap.size 0 rfl _ _ _ (Ae (AR m 2 x)) hms g1 (Ar _ _) ?_)
  | ((with_reducible refine Bu 39 _ _ rfl ?_);refine BP BD rfl _ _ rfl (w.heap.size+1) (Ae (AR m 2 x)) (CY hm2) rfl rfl _ z1 rfl _ rfl ?_))
 refine Fa BD (p:=6) rfl rfl (w.heap.size+1) rfl (Ae (AR m 2 x)) hms (setRow_heap _ _ _ _ _ _ z1) ⟨rfl,Aj B1 (aH _) _⟩
theorem Aq9(m:An)(hm:BB m)(x:Int)(w:World):Calls aA 70 #[.agg (Ae m),.int .u8 97,.int .i64 x] w fun e w'=>e=.returned (.agg (Ae (AR m 3 x)))∧Below w.heap.size w w':=by
 have g0:((w.alloc (.cells (Ae m) 39)).alloc (.cells Ao 39)).heap[w.heap.size]?=some (.cells (Ae m) 39 (0,0)):=Ah _ _ _ _ (Ab _ _ _ rfl)
 have hc:((w.alloc (.cells (Ae m) 39)).alloc (.cells Ao 39)).cell? ⟨w.heap.size,4,none⟩=some (.int .i64 (Ad m 3)):=by
  rw[cell_of_row _ _ _ _ _ _ g0];exact BK hm 3 (by decide)
 have hf:((w.alloc (.cells (Ae m) 39)).alloc (.cells Ao 39)).frozen? ⟨w.heap.size,4,none⟩=false:=frozen_of_row _ _ _ _ _ g0;have hm2:=EU hm 3 x;have hms:=BG hm2;have es:=FK hm 3 (by decide) x;clear g0;go_enter aG,aD;go_wp2_with ((with_reducible refine Aw 39 _ rfl ?_);refine Dk ?_);unfold E6
 try rw[es]
 clear hc hf es;have g1:((w.alloc (.cells (Ae (AR m 3 x)) 39)).alloc (.cells Ao 39)).heap[w.heap.size]?=some (.cells (Ae (AR m 3 x)) 39 (0,0)):=Ah _ _ _ _ (Ab _ _ _ rfl);have z1:((w.alloc (.cells (Ae (AR m 3 x)) 39)).alloc (.cells Ao 39)).heap[w.heap.size+1]?=some (.cells Ao 39 (0,0)):=Ab _ _ _ (by simp);have B1:Below w.heap.size w ((w.alloc (.cells (Ae (AR m 3 x)) 39)).alloc (.cells Ao 39)):=((aB _ _).alloc (aC _) _).alloc (by simp) _
 go_wp2_with (first
  | ((with_reducible refine Aw 39 _ rfl ?_);refine AH BD rfl _ rfl w.heap.size 0 rfl _ _ _ (Ae (AR m 3 x)) hms g1 (Ar _ _) ?_)
  | ((with_reducible refine Bu 39 _ _ rfl ?_);refine BP BD rfl _ _ rfl (w.heap.size+1) (Ae (AR m 3 x)) (CY hm2) rfl rfl _ z1 rfl _ rfl ?_))
 refine Fa BD (p:=6) rfl rfl (w.heap.size+1) rfl (Ae (AR m 3 x)) hms (setRow_heap _ _ _ _ _ _ z1) ⟨rfl,Aj B1 (aH _) _⟩
theorem Aq8(m:An)(hm:BB m)(x:Int)(w:World):Calls aA 70 #[.agg (Ae m),.int .u8 116,.int .i64 x] w fun e w'=>e=.returned (.agg (Ae (AR m 4 x)))∧Below w.heap.size w w':=by
 have g0:((w.alloc (.cells (Ae m) 39)).alloc (.cells Ao 39)).heap[w.heap.size]?=some (.cells (Ae m) 39 (0,0)):=Ah _ _ _ _ (Ab _ _ _ rfl)
 have hc:((w.alloc (.cells (Ae m) 39)).alloc (.cells Ao 39)).cell? ⟨w.heap.size,5,none⟩=some (.int .i64 (Ad m 4)):=by
  rw[cell_of_row _ _ _ _ _ _ g0];exact BK hm 4 (by decide)
 have hf:((w.alloc (.cells (Ae m) 39)).alloc (.cells Ao 39)).frozen? ⟨w.heap.size,5,none⟩=false:=frozen_of_row _ _ _ _ _ g0;have hm2:=EU hm 4 x;have hms:=BG hm2;have es:=FK hm 4 (by decide) x;clear g0;go_enter aG,aD;go_wp2_with ((with_reducible refine Aw 39 _ rfl ?_);refine Dk ?_);unfold E6
 try rw[es]
 clear hc hf es;have g1:((w.alloc (.cells (Ae (AR m 4 x)) 39)).alloc (.cells Ao 39)).heap[w.heap.size]?=some (.cells (Ae (AR m 4 x)) 39 (0,0)):=Ah _ _ _ _ (Ab _ _ _ rfl);have z1:((w.alloc (.cells (Ae (AR m 4 x)) 39)).alloc (.cells Ao 39)).heap[w.heap.size+1]?=some (.cells Ao 39 (0,0)):=Ab _ _ _ (by simp);have B1:Below w.heap.size w ((w.alloc (.cells (Ae (AR m 4 x)) 39)).alloc (.cells Ao 39)):=((aB _ _).alloc (aC _) _).alloc (by simp) _
 go_wp2_with (first
  | ((with_reducible refine Aw 39 _ rfl ?_);refine AH BD rfl _ rfl w.heap.size 0 rfl _ _ _ (Ae (AR m 4 x)) hms g1 (Ar _ _) ?_)
  | ((with_reducible refine Bu 39 _ _ rfl ?_);refine BP BD rfl _ _ rfl (w.heap.size+1) (Ae (AR m 4 x)) (CY hm2) rfl rfl _ z1 rfl _ rfl ?_))
 refine Fa BD (p:=6) rfl rfl (w.heap.size+1) rfl (Ae (AR m 4 x)) hms (setRow_heap _ _ _ _ _ _ z1) ⟨rfl,Aj B1 (aH _) _⟩
theorem Aq7(m:An)(hm:BB m)(x:Int)(w:World):Calls aA 70 #[.agg (Ae m),.int .u8 111,.int .i64 x] w fun e w'=>e=.returned (.agg (Ae (AR m 5 x)))∧Below w.heap.size w w':=by
 have g0:((w.alloc (.cells (Ae m) 39)).alloc (.cells Ao 39)).heap[w.heap.size]?=some (.cells (Ae m) 39 (0,0)):=Ah _ _ _ _ (Ab _ _ _ rfl)
 have hc:((w.alloc (.cells (Ae m) 39)).alloc (.cells Ao 39)).cell? ⟨w.heap.size,6,none⟩=some (.int .i64 (Ad m 5)):=by
  rw[cell_of_row _ _ _ _ _ _ g0];exact BK hm 5 (by decide)
 have hf:((w.alloc (.cells (Ae m) 39)).alloc (.cells Ao 39)).frozen? ⟨w.heap.size,6,none⟩=false:=frozen_of_row _ _ _ _ _ g0;have hm2:=EU hm 5 x;have hms:=BG hm2;have es:=FK hm 5 (by decide) x;clear g0;go_enter aG,aD;go_wp2_with ((with_reducible refine Aw 39 _ rfl ?_);refine Dk ?_);unfold E6
 try rw[es]
 clear hc hf es;have g1:((w.alloc (.cells (Ae (AR m 5 x)) 39)).alloc (.cells Ao 39)).heap[w.heap.size]?=some (.cells (Ae (AR m 5 x)) 39 (0,0)):=Ah _ _ _ _ (Ab _ _ _ rfl);have z1:((w.alloc (.cells (Ae (AR m 5 x)) 39)).alloc (.cells Ao 39)).heap[w.heap.size+1]?=some (.cells Ao 39 (0,0)):=Ab _ _ _ (by simp);have B1:Below w.heap.size w ((w.alloc (.cells (Ae (AR m 5 x)) 39)).alloc (.cells Ao 39)):=((aB _ _).alloc (aC _) _).alloc (by simp) _
 go_wp2_with (first
  | ((with_reducible refine Aw 39 _ rfl ?_);refine AH BD rfl _ rfl w.heap.size 0 rfl _ _ _ (Ae (AR m 5 x)) hms g1 (Ar _ _) ?_)
  | ((with_reducible refine Bu 39 _ _ rfl ?_);refine BP BD rfl _ _ rfl (w.heap.size+1) (Ae (AR m 5 x)) (CY hm2) rfl rfl _ z1 rfl _ rfl ?_))
 refine Fa BD (p:=6) rfl rfl (w.heap.size+1) rfl (Ae (AR m 5 x)) hms (setRow_heap _ _ _ _ _ _ z1) ⟨rfl,Aj B1 (aH _) _⟩
theorem Aq6(m:An)(hm:BB m)(x:Int)(w:World):Calls aA 70 #[.agg (Ae m),.int .u8 114,.int .i64 x] w fun e w'=>e=.returned (.agg (Ae (AR m 6 x)))∧Below w.heap.size w w':=by
 have g0:((w.alloc (.cells (Ae m) 39)).alloc (.cells Ao 39)).heap[w.heap.size]?=some (.cells (Ae m) 39 (0,0)):=Ah _ _ _ _ (Ab _ _ _ rfl)
 have hc:((w.alloc (.cells (Ae m) 39)).alloc (.cells Ao 39)).cell? ⟨w.heap.size,7,none⟩=some (.int .i64 (Ad m 6)):=by
  rw[cell_of_row _ _ _ _ _ _ g0];exact BK hm 6 (by decide)
 have hf:((w.alloc (.cells (Ae m) 39)).alloc (.cells Ao 39)).frozen? ⟨w.heap.size,7,none⟩=false:=frozen_of_row _ _ _ _ _ g0;have hm2:=EU hm 6 x;have hms:=BG hm2;have es:=FK hm 6 (by decide) x;clear g0;go_enter aG,aD;go_wp2_with ((with_reducible refine Aw 39 _ rfl ?_);refine Dk ?_);unfold E6
 try rw[es]
 clear hc hf es;have g1:((w.alloc (.cells (Ae (AR m 6 x)) 39)).alloc (.cells Ao 39)).heap[w.heap.size]?=some (.cells (Ae (AR m 6 x)) 39 (0,0)):=Ah _ _ _ _ (Ab _ _ _ rfl);have z1:((w.alloc (.cells (Ae (AR m 6 x)) 39)).alloc (.cells Ao 39)).heap[w.heap.size+1]?=some (.cells Ao 39 (0,0)):=Ab _ _ _ (by simp);have B1:Below w.heap.size w ((w.alloc (.cells (Ae (AR m 6 x)) 39)).alloc (.cells Ao 39)):=((aB _ _).alloc (aC _) _).alloc (by simp) _
 go_wp2_with (first
  | ((with_reducible refine Aw 39 _ rfl ?_);refine AH BD rfl _ rfl w.heap.size 0 rfl _ _ _ (Ae (AR m 6 x)) hms g1 (Ar _ _) ?_)
  | ((with_reducible refine Bu 39 _ _ rfl ?_);refine BP BD rfl _ _ rfl (w.heap.size+1) (Ae (AR m 6 x)) (CY hm2) rfl rfl _ z1 rfl _ rfl ?_))
 refine Fa BD (p:=6) rfl rfl (w.heap.size+1) rfl (Ae (AR m 6 x)) hms (setRow_heap _ _ _ _ _ _ z1) ⟨rfl,Aj B1 (aH _) _⟩
theorem Aq5(m:An)(hm:BB m)(x:Int)(w:World):Calls aA 70 #[.agg (Ae m),.int .u8 49,.int .i64 x] w fun e w'=>e=.returned (.agg (Ae (AR m 7 x)))∧Below w.heap.size w w':=by
 have g0:((w.alloc (.cells (Ae m) 39)).alloc (.cells Ao 39)).heap[w.heap.size]?=some (.cells (Ae m) 39 (0,0)):=Ah _ _ _ _ (Ab _ _ _ rfl)
 have hc:((w.alloc (.cells (Ae m) 39)).alloc (.cells Ao 39)).cell? ⟨w.heap.size,8,none⟩=some (.int .i64 (Ad m 7)):=by
  rw[cell_of_row _ _ _ _ _ _ g0];exact BK hm 7 (by decide)
 have hf:((w.alloc (.cells (Ae m) 39)).alloc (.cells Ao 39)).frozen? ⟨w.heap.size,8,none⟩=false:=frozen_of_row _ _ _ _ _ g0;have hm2:=EU hm 7 x;have hms:=BG hm2;have es:=FK hm 7 (by decide) x;clear g0;go_enter aG,aD;go_wp2_with ((with_reducible refine Aw 39 _ rfl ?_);refine Dk ?_);unfold E6
 try rw[es]
 clear hc hf es;have g1:((w.alloc (.cells (Ae (AR m 7 x)) 39)).alloc (.cells Ao 39)).heap[w.heap.size]?=some (.cells (Ae (AR m 7 x)) 39 (0,0)):=Ah _ _ _ _ (Ab _ _ _ rfl);have z1:((w.alloc (.cells (Ae (AR m 7 x)) 39)).alloc (.cells Ao 39)).heap[w.heap.size+1]?=some (.cells Ao 39 (0,0)):=Ab _ _ _ (by simp);have B1:Below w.heap.size w ((w.alloc (.cells (Ae (AR m 7 x)) 39)).alloc (.cells Ao 39)):=((aB _ _).alloc (aC _) _).alloc (by simp) _
 go_wp2_with (first
  | ((with_reducible refine Aw 39 _ rfl ?_);refine AH BD rfl _ rfl w.heap.size 0 rfl _ _ _ (Ae (AR m 7 x)) hms g1 (Ar _ _) ?_)
  | ((with_reducible refine Bu 39 _ _ rfl ?_);refine BP BD rfl _ _ rfl (w.heap.size+1) (Ae (AR m 7 x)) (CY hm2) rfl rfl _ z1 rfl _ rfl ?_))
 refine Fa BD (p:=6) rfl rfl (w.heap.size+1) rfl (Ae (AR m 7 x)) hms (setRow_heap _ _ _ _ _ _ z1) ⟨rfl,Aj B1 (aH _) _⟩
theorem Aq4(m:An)(hm:BB m)(x:Int)(w:World):Calls aA 70 #[.agg (Ae m),.int .u8 50,.int .i64 x] w fun e w'=>e=.returned (.agg (Ae (AR m 8 x)))∧Below w.heap.size w w':=by
 have g0:((w.alloc (.cells (Ae m) 39)).alloc (.cells Ao 39)).heap[w.heap.size]?=some (.cells (Ae m) 39 (0,0)):=Ah _ _ _ _ (Ab _ _ _ rfl)
 have hc:((w.alloc (.cells (Ae m) 39)).alloc (.cells Ao 39)).cell? ⟨w.heap.size,9,none⟩=some (.int .i64 (Ad m 8)):=by
  rw[cell_of_row _ _ _ _ _ _ g0];exact BK hm 8 (by decide)
 have hf:((w.alloc (.cells (Ae m) 39)).alloc (.cells Ao 39)).frozen? ⟨w.heap.size,9,none⟩=false:=frozen_of_row _ _ _ _ _ g0;have hm2:=EU hm 8 x;have hms:=BG hm2;have es:=FK hm 8 (by decide) x;clear g0;go_enter aG,aD;go_wp2_with ((with_reducible refine Aw 39 _ rfl ?_);refine Dk ?_);unfold E6
 try rw[es]
 clear hc hf es;have g1:((w.alloc (.cells (Ae (AR m 8 x)) 39)).alloc (.cells Ao 39)).heap[w.heap.size]?=some (.cells (Ae (AR m 8 x)) 39 (0,0)):=Ah _ _ _ _ (Ab _ _ _ rfl);have z1:((w.alloc (.cells (Ae (AR m 8 x)) 39)).alloc (.cells Ao 39)).heap[w.heap.size+1]?=some (.cells Ao 39 (0,0)):=Ab _ _ _ (by simp);have B1:Below w.heap.size w ((w.alloc (.cells (Ae (AR m 8 x)) 39)).alloc (.cells Ao 39)):=((aB _ _).alloc (aC _) _).alloc (by simp) _
 go_wp2_with (first
  | ((with_reducible refine Aw 39 _ rfl ?_);refine AH BD rfl _ rfl w.heap.size 0 rfl _ _ _ (Ae (AR m 8 x)) hms g1 (Ar _ _) ?_)
  | ((with_reducible refine Bu 39 _ _ rfl ?_);refine BP BD rfl _ _ rfl (w.heap.size+1) (Ae (AR m 8 x)) (CY hm2) rfl rfl _ z1 rfl _ rfl ?_))
 refine Fa BD (p:=6) rfl rfl (w.heap.size+1) rfl (Ae (AR m 8 x)) hms (setRow_heap _ _ _ _ _ _ z1) ⟨rfl,Aj B1 (aH _) _⟩
theorem Aq3(m:An)(hm:BB m)(x:Int)(w:World):Calls aA 70 #[.agg (Ae m),.int .u8 115,.int .i64 x] w fun e w'=>e=.returned (.agg (Ae (AR m 9 x)))∧Below w.heap.size w w':=by
 have g0:((w.alloc (.cells (Ae m) 39)).alloc (.cells Ao 39)).heap[w.heap.size]?=some (.cells (Ae m) 39 (0,0)):=Ah _ _ _ _ (Ab _ _ _ rfl)
 have hc:((w.alloc (.cells (Ae m) 39)).alloc (.cells Ao 39)).cell? ⟨w.heap.size,10,none⟩=some (.int .i64 (Ad m 9)):=by
  rw[cell_of_row _ _ _ _ _ _ g0];exact BK hm 9 (by decide)
 have hf:((w.alloc (.cells (Ae m) 39)).alloc (.cells Ao 39)).frozen? ⟨w.heap.size,10,none⟩=false:=frozen_of_row _ _ _ _ _ g0;have hm2:=EU hm 9 x;have hms:=BG hm2;have es:=FK hm 9 (by decide) x;clear g0;go_enter aG,aD;go_wp2_with ((with_reducible refine Aw 39 _ rfl ?_);refine Dk ?_);unfold E6
 try rw[es]
 clear hc hf es;have g1:((w.alloc (.cells (Ae (AR m 9 x)) 39)).alloc (.cells Ao 39)).heap[w.heap.size]?=some (.cells (Ae (AR m 9 x)) 39 (0,0)):=Ah _ _ _ _ (Ab _ _ _ rfl);have z1:((w.alloc (.cells (Ae (AR m 9 x)) 39)).alloc (.cells Ao 39)).heap[w.heap.size+1]?=some (.cells Ao 39 (0,0)):=Ab _ _ _ (by simp);have B1:Below w.heap.size w ((w.alloc (.cells (Ae (AR m 9 x)) 39)).alloc (.cells Ao 39)):=((aB _ _).alloc (aC _) _).alloc (by simp) _
 go_wp2_with (first
  | ((with_reducible refine Aw 39 _ rfl ?_);refine AH BD rfl _ rfl w.heap.size 0 rfl _ _ _ (Ae (AR m 9 x)) hms g1 (Ar _ _) ?_)
  | ((with_reducible refine Bu 39 _ _ rfl ?_);refine BP BD rfl _ _ rfl (w.heap.size+1) (Ae (AR m 9 x)) (CY hm2) rfl rfl _ z1 rfl _ rfl ?_))
 refine Fa BD (p:=6) rfl rfl (w.heap.size+1) rfl (Ae (AR m 9 x)) hms (setRow_heap _ _ _ _ _ _ z1) ⟨rfl,Aj B1 (aH _) _⟩
theorem Aot(m:An)(hm:BB m)(x:Int)(w:World):Calls aA 70 #[.agg (Ae m),.int .u8 117,.int .i64 x] w fun e w'=>e=.returned (.agg (Ae (AR m 10 x)))∧Below w.heap.size w w':=by
 have g0:((w.alloc (.cells (Ae m) 39)).alloc (.cells Ao 39)).heap[w.heap.size]?=some (.cells (Ae m) 39 (0,0)):=Ah _ _ _ _ (Ab _ _ _ rfl)
 have hc:((w.alloc (.cells (Ae m) 39)).alloc (.cells Ao 39)).cell? ⟨w.heap.size,11,none⟩=some (.int .i64 (Ad m 10)):=by
  rw[cell_of_row _ _ _ _ _ _ g0];exact BK hm 10 (by decide)
 have hf:((w.alloc (.cells (Ae m) 39)).alloc (.cells Ao 39)).frozen? ⟨w.heap.size,11,none⟩=false:=frozen_of_row _ _ _ _ _ g0;have hm2:=EU hm 10 x;have hms:=BG hm2;have es:=FK hm 10 (by decide) x;clear g0;go_enter aG,aD;go_wp2_with ((with_reducible refine Aw 39 _ rfl ?_);refine Dk ?_);unfold E6
 try rw[es]
 clear hc hf es;have g1:((w.alloc (.cells (Ae (AR m 10 x)) 39)).alloc (.cells Ao 39)).heap[w.heap.size]?=some (.cells (Ae (AR m 10 x)) 39 (0,0)):=Ah _ _ _ _ (Ab _ _ _ rfl);have z1:((w.alloc (.cells (Ae (AR m 10 x)) 39)).alloc (.cells Ao 39)).heap[w.heap.size+1]?=some (.cells Ao 39 (0,0)):=Ab _ _ _ (by simp);have B1:Below w.heap.size w ((w.alloc (.cells (Ae (AR m 10 x)) 39)).alloc (.cells Ao 39)):=((aB _ _).alloc (aC _) _).alloc (by simp) _
 go_wp2_with (first
  | ((with_reducible refine Aw 39 _ rfl ?_);refine AH BD rfl _ rfl w.heap.size 0 rfl _ _ _ (Ae (AR m 10 x)) hms g1 (Ar _ _) ?_)
  | ((with_reducible refine Bu 39 _ _ rfl ?_);refine BP BD rfl _ _ rfl (w.heap.size+1) (Ae (AR m 10 x)) (CY hm2) rfl rfl _ z1 rfl _ rfl ?_))
 refine Fa BD (p:=6) rfl rfl (w.heap.size+1) rfl (Ae (AR m 10 x)) hms (setRow_heap _ _ _ _ _ _ z1) ⟨rfl,Aj B1 (aH _) _⟩
theorem Aos(m:An)(hm:BB m)(x:Int)(w:World):Calls aA 70 #[.agg (Ae m),.int .u8 113,.int .i64 x] w fun e w'=>e=.returned (.agg (Ae (AR m 11 x)))∧Below w.heap.size w w':=by
 have g0:((w.alloc (.cells (Ae m) 39)).alloc (.cells Ao 39)).heap[w.heap.size]?=some (.cells (Ae m) 39 (0,0)):=Ah _ _ _ _ (Ab _ _ _ rfl)
 have hc:((w.alloc (.cells (Ae m) 39)).alloc (.cells Ao 39)).cell? ⟨w.heap.size,12,none⟩=some (.int .i64 (Ad m 11)):=by
  rw[cell_of_row _ _ _ _ _ _ g0];exact BK hm 11 (by decide)
 have hf:((w.alloc (.cells (Ae m) 39)).alloc (.cells Ao 39)).frozen? ⟨w.heap.size,12,none⟩=false:=frozen_of_row _ _ _ _ _ g0;have hm2:=EU hm 11 x;have hms:=BG hm2;have es:=FK hm 11 (by decide) x;clear g0;go_enter aG,aD;go_wp2_with ((with_reducible refine Aw 39 _ rfl ?_);refine Dk ?_);unfold E6
 try rw[es]
 clear hc hf es;have g1:((w.alloc (.cells (Ae (AR m 11 x)) 39)).alloc (.cells Ao 39)).heap[w.heap.size]?=some (.cells (Ae (AR m 11 x)) 39 (0,0)):=Ah _ _ _ _ (Ab _ _ _ rfl);have z1:((w.alloc (.cells (Ae (AR m 11 x)) 39)).alloc (.cells Ao 39)).heap[w.heap.size+1]?=some (.cells Ao 39 (0,0)):=Ab _ _ _ (by simp);have B1:Below w.heap.size w ((w.alloc (.cells (Ae (AR m 11 x)) 39)).alloc (.cells Ao 39)):=((aB _ _).alloc (aC _) _).alloc (by simp) _
 go_wp2_with (first
  | ((with_reducible refine Aw 39 _ rfl ?_);refine AH BD rfl _ rfl w.heap.size 0 rfl _ _ _ (Ae (AR m 11 x)) hms g1 (Ar _ _) ?_)
  | ((with_reducible refine Bu 39 _ _ rfl ?_);refine BP BD rfl _ _ rfl (w.heap.size+1) (Ae (AR m 11 x)) (CY hm2) rfl rfl _ z1 rfl _ rfl ?_))
 refine Fa BD (p:=6) rfl rfl (w.heap.size+1) rfl (Ae (AR m 11 x)) hms (setRow_heap _ _ _ _ _ _ z1) ⟨rfl,Aj B1 (aH _) _⟩
theorem Aor(m:An)(hm:BB m)(x:Int)(w:World):Calls aA 70 #[.agg (Ae m),.int .u8 108,.int .i64 x] w fun e w'=>e=.returned (.agg (Ae (AR m 12 x)))∧Below w.heap.size w w':=by
 have g0:((w.alloc (.cells (Ae m) 39)).alloc (.cells Ao 39)).heap[w.heap.size]?=some (.cells (Ae m) 39 (0,0)):=Ah _ _ _ _ (Ab _ _ _ rfl)
 have hc:((w.alloc (.cells (Ae m) 39)).alloc (.cells Ao 39)).cell? ⟨w.heap.size,13,none⟩=some (.int .i64 (Ad m 12)):=by
  rw[cell_of_row _ _ _ _ _ _ g0];exact BK hm 12 (by decide)
 have hf:((w.alloc (.cells (Ae m) 39)).alloc (.cells Ao 39)).frozen? ⟨w.heap.size,13,none⟩=false:=frozen_of_row _ _ _ _ _ g0;have hm2:=EU hm 12 x;have hms:=BG hm2;have es:=FK hm 12 (by decide) x;clear g0;go_enter aG,aD;go_wp2_with ((with_reducible refine Aw 39 _ rfl ?_);refine Dk ?_);unfold E6
 try rw[es]
 clear hc hf es;have g1:((w.alloc (.cells (Ae (AR m 12 x)) 39)).alloc (.cells Ao 39)).heap[w.heap.size]?=some (.cells (Ae (AR m 12 x)) 39 (0,0)):=Ah _ _ _ _ (Ab _ _ _ rfl);have z1:((w.alloc (.cells (Ae (AR m 12 x)) 39)).alloc (.cells Ao 39)).heap[w.heap.size+1]?=some (.cells Ao 39 (0,0)):=Ab _ _ _ (by simp);have B1:Below w.heap.size w ((w.alloc (.cells (Ae (AR m 12 x)) 39)).alloc (.cells Ao 39)):=((aB _ _).alloc (aC _) _).alloc (by simp) _
 go_wp2_with (first
  | ((with_reducible refine Aw 39 _ rfl ?_);refine AH BD rfl _ rfl w.heap.size 0 rfl _ _ _ (Ae (AR m 12 x)) hms g1 (Ar _ _) ?_)
  | ((with_reducible refine Bu 39 _ _ rfl ?_);refine BP BD rfl _ _ rfl (w.heap.size+1) (Ae (AR m 12 x)) (CY hm2) rfl rfl _ z1 rfl _ rfl ?_))
 refine Fa BD (p:=6) rfl rfl (w.heap.size+1) rfl (Ae (AR m 12 x)) hms (setRow_heap _ _ _ _ _ _ z1) ⟨rfl,Aj B1 (aH _) _⟩
theorem Aao(m:An)(hm:BB m)(j:Nat)(hj:j<13)(x:Int)(w:World):Calls aA 70 #[.agg (Ae m),.int .u8 ((DY j:Nat):Int),.int .i64 x] w fun e w'=>e=.returned (.agg (Ae (AR m j x)))∧Below w.heap.size w w':=by
 match j,hj with
 | 0,_=>exact Aqc m hm x w
 | 1,_=>exact Aqb m hm x w
 | 2,_=>exact Aqa m hm x w
 | 3,_=>exact Aq9 m hm x w
 | 4,_=>exact Aq8 m hm x w
 | 5,_=>exact Aq7 m hm x w
 | 6,_=>exact Aq6 m hm x w
 | 7,_=>exact Aq5 m hm x w
 | 8,_=>exact Aq4 m hm x w
 | 9,_=>exact Aq3 m hm x w
 | 10,_=>exact Aot m hm x w
 | 11,_=>exact Aos m hm x w
 | 12,_=>exact Aor m hm x w
 | j+13,hj=>omega
theorem MR{k:Int}{p j:Nat}(hj:(AQ k)[p]?=some j):(((AQ k).take (p+1)).map Cm).sum=(((AQ k).take p).map Cm).sum+Cm j:=by
 rw[List.take_add_one,hj];simp
theorem YE(k:Int)(w:World):Calls aA 67 #[.int .i64 k] w fun e w'=>e=.returned (.int .i64 ((Hc k:Nat):Int))∧w'=w:=by
 have CF:Hid (∀W,Calls aA 66 #[.int .i64 k] W fun e w'=>e=.returned (.string (DI k))∧w'=W):=fun W=>IOx k W;have HIX:Hid (∀(i j:Nat),(AQ k)[i]?=some j→∀W,(Instr.index 9 (.string (DI k)) (.int .i64 (i:Int))).run aA W=.ok (.int .u8 ((DY j:Nat):Int)) W):=fun i j h W=>Abc h W;obtain⟨s,hs⟩:=eX (DI k);obtain⟨n,hn⟩:=eX ((AQ k).length);have HN:Hid _:=hn;have hsz:s.size=n:=by rw[hs,hn,LM]
 have hn8:n≤8:=by rw[hn];exact MF k
 rw[←hs] at CF HIX;clear hs hn;go_enter Tryz.func67,Tryz.ntmps67;go_wp2_with (go_at_call 66;refine(CF.out _).mono ?_;rintro e w1 ⟨rfl,rfl⟩);go_loop [4,5] (fun a i=> ∃p:Nat,p≤n∧i=.int .i64 (p:Int)∧∃q:Nat,q=(((AQ k).take p).map Cm).sum∧a=.int .i64 (q:Int)) (fun _ i=>n-(intOf i).toNat)
 case atStart=>exact⟨0,aZ _,rfl,0,rfl,rfl⟩
 case round=>
  obtain⟨p,hp,rfl,q,hq,rfl⟩:=hrel;have HQ:Hid _:=hq;have hq2:q≤208:=by rw[hq];exact Adl k p
  clear hq;by_cases hlt:p<n
  ·obtain⟨j,hj⟩:∃j,(AQ k)[p]?=some j:=⟨_,List.getElem?_eq_getElem (by rw[←HN.out];exact hlt)⟩;have hix:=HIX.out p j hj;have hj15:=MG k j (List.mem_of_getElem? hj);have h13:(((DY j:Nat):Int)==67)=decide (j=13):=Ka (j:=13) hj15 (by decide);have h14:(((DY j:Nat):Int)==72)=decide (j=14):=Ka (j:=14) hj15 (by decide);obtain⟨c,hc⟩:∃c:Int,c=((DY j:Nat):Int):=⟨_,rfl⟩;rw[←hc] at hix h13 h14;have HS:Hid ((((AQ k).take (p+1)).map Cm).sum=q+Cm j):=by show _=_;rw[MR hj,HQ.out]
   clear hc hj;by_cases e13:j=13
   ·rw[decide_eq_true e13] at h13;have HS2:Hid ((((AQ k).take (p+1)).map Cm).sum=q+26):=by show _=_;rw[HS.out,e13];rfl
    clear e13 h14;go_wp2_with fail;go_round
    case rel=>exact⟨p+1,by omega,by go_num,q+26,HS2.out.symm,by go_num⟩
    case measure=>simp[intOf];omega
   ·rw[decide_eq_false e13] at h13;by_cases e14:j=14
    ·rw[decide_eq_true e14] at h14;have HS2:Hid ((((AQ k).take (p+1)).map Cm).sum=q+13):=by show _=_;rw[HS.out,e14];rfl
     clear e13 e14;go_wp2_with fail;go_round
     case rel=>exact⟨p+1,by omega,by go_num,q+13,HS2.out.symm,by go_num⟩
     case measure=>simp[intOf];omega
    ·rw[decide_eq_false e14] at h14;have HS2:Hid ((((AQ k).take (p+1)).map Cm).sum=q+6):=by show _=_;rw[HS.out,LN (by omega)]
     clear e13 e14;go_wp2_with fail;go_round
     case rel=>exact⟨p+1,by omega,by go_num,q+6,HS2.out.symm,by go_num⟩
     case measure=>simp[intOf];omega
  ·obtain rfl:p=n:=by omega
   have HR:Hid (q=Hc k):=by
    have:=HQ.out;rw[HN.out,List.take_length] at this;exact this
   go_wp2_with fail;go_ret;rw[←HR.out];exact⟨rfl,rfl⟩
end
section
open Go.RowKit
theorem Ae3(v:Value)(L:List UInt8)(p s:Int)(w:World)(hL:Br w v L):
  Calls aA 69 #[v,.int .i64 p,.int .i64 s] w fun e w'=>e=.returned (.tuple #[.int .u64 ((Fg L p s).1:Int),.int .i64 (Fg L p s).2])∧w'=w:=by
 have HL:Hid (Br w v L):=hL;obtain⟨ov,cv,hv,hc1,hc2⟩:=hL.slice;subst hv;clear hL;obtain⟨n,hn⟩:=eX L.length;have HN:Hid (n=L.length):=hn;rw[←hn] at HL hc1 ⊢;clear hn;unfold maxLen at hc2;by_cases hc:IF s=true
 ·have hs:=(Lw s).1 hc;obtain⟨m,rfl⟩:∃m:Nat,s=m:=⟨s.toNat,by omega⟩;have hs1:1≤(m:Int):=hs.1;have hs2:(m:Int)≤8:=hs.2;by_cases h0:0≤p
  ·obtain⟨q,rfl⟩:∃q:Nat,p=q:=⟨p.toNat,by omega⟩;by_cases hr:q+m≤n
   ·have HP:Hid (Fg L q m=(Dv ((L.drop q).take m),0)):=by
     show _=_;unfold Fg;rw[if_pos ⟨hc,h0⟩,if_pos (by rw[←HN.out];omega)];simp
    have hg:¬(n:Int)-m<q:=by omega
    clear hc hs;go_enter aQ,aN;go_wp2_with fail;go_loop [8,9] (fun a i=> ∃k:Nat,k≤m∧i=.int .i64 k∧a=.int .u64 (Dv (((L.drop q).take m).take k):Int)) (fun _ i=>m-(intOf i).toNat)
    case atStart=>exact⟨0,aZ _,rfl,rfl⟩
    case round=>
     obtain⟨k,hk,rfl,rfl⟩:=hrel;by_cases hlt:k<m
     ·obtain⟨g,off,c,rfl,hcc,hck⟩:=HL.out.at (q+k) (by omega)
      have HD:Hid (((L.drop q).take m)[k]?=some c):=by
       show _=_;rw[List.getElem?_take_of_lt hlt,List.getElem?_drop,hck]
      have hml:((L.drop q).take m).length=m:=by simp;rw[←HN.out];omega
      have HV:Hid (Dv (((L.drop q).take m).take (k+1))=Dv (((L.drop q).take m).take k)*256+c.toNat):=UK _ k c HD.out;have hv:=St ((L.drop q).take m) k (by omega) (by omega);obtain⟨x,hx⟩:=eX (Dv (((L.drop q).take m).take k));rw[←hx] at HV hv ⊢;have hcl:=c.toNat_lt;clear hx hck hml;go_wp2_with fail;refine⟨⟨k+1,by omega,by go_num,?_⟩,by simp[intOf];omega⟩;rw[HV.out]
      first | go_num | rfl
     ·obtain rfl:k=m:=by omega
      go_wp2_with fail;go_ret2;rw[HP.out,aR (by simp;omega)];exact⟨rfl,rfl⟩
   ·have HP:Hid (Fg L q m=(0,12)):=by
     show _=_;unfold Fg;rw[if_pos ⟨hc,h0⟩,if_neg (by rw[←HN.out];omega)]
    have hg:(n:Int)-m<q:=by omega
    clear hc hs;go_enter aQ,aN;go_wp2_with fail;go_ret2;rw[HP.out];exact⟨rfl,rfl⟩
  ·have HP:Hid (Fg L p m=(0,1)):=by
    show _=_;unfold Fg;rw[if_neg (fun h=>h0 h.2)]
   clear hc hs;have h0':p<0:=by omega
   go_enter aQ,aN;go_wp2_with fail;go_ret2;rw[HP.out];exact⟨rfl,rfl⟩
 ·have HP:Hid (Fg L p s=(0,1)):=by
   show _=_;unfold Fg;rw[if_neg (fun h=>hc h.1)]
  have hc':s<1∨8<s:=by have:=mt (Lw s).2 hc;omega
  clear hc;rcases hc' with hc' | hc'
  all_goals
   go_enter aQ,aN;go_wp2_with fail;go_ret2;rw[HP.out];exact⟨rfl,rfl⟩
theorem Br.later{w:World}{o:Option Addr}{n cap:Nat}{L:List UInt8}(h:Br w (.slice o n cap) L)(g off:Nat)(ho:o=some ⟨g,off,none⟩)(k:Nat)(c:UInt8)(hk:L[k]?=some c):∀u:Am w,u.world.cell? ⟨g,off+k,none⟩=some (.int .u8 (c.toNat:Int)):=fun u=>by
 have hkl:=(List.getElem?_eq_some_iff.1 hk).1
 obtain⟨g',off',c',e,hc,hc'⟩:=(h.below u.below).at k (by rw[h.len];exact hkl)
 rw[ho] at e
 simp only[Option.some.injEq,Addr.mk.injEq,and_true] at e
 obtain⟨rfl,rfl⟩:=e
 rw[hk] at hc'
 obtain rfl:=Option.some.inj hc'
 exact hc
theorem Vz(c:UInt8)(w:World):(convert 5 3 (.int .u8 (c.toNat:Int))).run aA w=.ok (.int .i64 (c.toNat:Int)) w:=by
 have:=c.toNat_lt;simp[convert,run_underlying Tryz.underlying5,run_underlying Tryz.underlying3,go_sem];rw[IntKind.wrap_i64];omega
theorem YG(a b c:UInt8)(body:List UInt8):DE (a::b::c::body)=if a.toNat*256+b.toNat=body.length then ((c.toNat:Int),body,0) else (0,[],12):=by
 show(match (if a.toNat*256+b.toNat=body.length then some (c.toNat,body) else none) with | some (k,body)=>((k:Int),body,(0:Int)) | none=>(0,[],12))=_;split <;> split <;> simp_all
theorem Ae9(v:Value)(L:List UInt8)(w:World)(hL:Br w v L)(hl:L.length≤140737488355328):
  Calls aA 65 #[v] w fun e w'=> ∃u,e=.returned (.tuple #[.int .i64 (DE L).1,u,.int .i64 (DE L).2.2])∧AB w.heap.size w' u (DE L).2.1∧Below w.heap.size w w':=by
 have HL:Hid (Br w v L):=hL;obtain⟨ov,cv,hv,hc1,hc2⟩:=hL.slice;subst hv;clear hL;have hcm:=hc2;unfold maxLen at hc2;have ne0:=Am.ne w;by_cases h3:3≤L.length
 ·obtain⟨a,b,c,body,rfl⟩:∃a b c body,L=a::b::c::body:=by
   match L,h3 with
   | a::b::c::body,_=>exact⟨a,b,c,body,rfl⟩
  obtain⟨n,hn⟩:=eX ((a::b::c::body).length);have HN:Hid (n=body.length+3):=by show _=_;rw[hn];simp
  rw[←hn] at HL hc1 hl h3 ⊢;clear hn;obtain⟨g,off,_,rfl,_,_⟩:=HL.out.at 2 (by omega);have c0:=HL.out.later g off rfl 0 a rfl;rw[Nat.add_zero] at c0;have c1:=HL.out.later g off rfl 1 b rfl;have c2:=HL.out.later g off rfl 2 c rfl;have HT:=YG a b c body;have ha:=a.toNat_lt;have hb:=b.toNat_lt;obtain⟨x,hx⟩:=eX a.toNat;obtain⟨y,hy⟩:=eX b.toNat;rw[←hx] at c0 HT ha;rw[←hy] at c1 HT hb;clear hx hy;have d3:decide ((n:Int)<3)=false:=by simp;omega
  by_cases hq:x*256+y=body.length
  ·rw[if_pos hq] at HT;have HP:Hid (DE (a::b::c::body)=((c.toNat:Int),body,0)):=HT;have hqi:((x:Int)*256+(y:Int)==(n:Int)-3)=true:=by have:=HN.out;rw[beq_iff_eq];omega
   clear HT hq;have HR:Hid (Br w.drew (.slice (some ⟨g,off,none⟩) n cv) (a::b::c::body)):=HL.out.below (aB _ _).drew;by_cases hc3:cv=3
   focus
    subst hc3;obtain rfl:n=3:=by omega
    obtain rfl:body=[]:=List.eq_nil_of_length_eq_zero (by have:=HN.out;omega);have HBd:Hid (∀u:Am w,Br u.world (.slice (some ⟨g,off,none⟩) 0 0) []):=fun u=>X5 _ _ _ (aZ _);go_enter aT,aO;go_wp2_with fail;refine rL ?_
    repeat go_big_quiet_step (fail)
    refine wpQuiet_nil ?_;rintro W ⟨u,hu⟩;have hWb:Below w.heap.size w W:=by rw[hu];exact u.below
    clear hu u;go_wp2_with fail;have ne1:=Am.ne W;have k2:∀u:Am W,u.world.cell? ⟨g,off+2,none⟩=some (.int .u8 (c.toNat:Int)):=fun z=>c2 ⟨z.world,hWb.trans (z.below.mono hWb.size)⟩
    have CB2:Hid (∀u:Am W,Calls aA 105 #[.slice (some ⟨g,off,none⟩) 0 0] u.world fun e w'=> ∃v,e=.returned v∧AB w.heap.size w' v []∧Below W.heap.size W w'):=fun z=>by
     refine(Mm _ [] z.world (HBd.out ⟨z.world,hWb.trans (z.below.mono hWb.size)⟩) (by have:=HN.out;first|(simp;done) | omega)).mono ?_;rintro e w' ⟨v,rfl,h1,h2⟩;exact⟨v,rfl,h1.base (Nat.le_trans hWb.size z.below.size),z.below.trans (h2.mono z.below.size)⟩
    clear c2;refine EZ (fun a a' w'=> ∃u y24 y25 y26 y27 y28 y29 y30,a'=((((((((((a.put (some 24) y24).put (some 25) y25).put (some 26) y26).put (some 27) y27).put (some 28) y28).put (some 29) y29).put (some 30) y30).put (some 2) (.int .i64 (c.toNat:Int))).put (some 3) u).put (some 4) (.int .i64 0))∧AB w.heap.size w' u []∧Below W.heap.size W w') ?_ ?_
    ·refine Jj 10 rfl (by kernel_rfl) ?_;refine rE 0 3 7 ⟨⟨W.drew,(aB _ _).drew⟩,rfl⟩ ?_;simp only[aK,aJ,aL]
     iterate 3 (go_big_quiet_step (fail))
     refine wpQuiet_nil ?_;have e3:∀w,(convert 5 3 (.int .u8 (c.toNat:Int))).run aA w=.ok (.int .i64 (c.toNat:Int)) w:=fun w=>Vz c w;refine KA (i:=3) (v:=.int .i64 (c.toNat:Int)) (some 27) rfl rfl (by kernel_rfl) (by kernel_rfl) (by kernel_rfl) (fun c a w h=>absurd h.1 (by simp)) (.inl ⟨rfl,fun w _=> ?_⟩) ⟨⟨W.drew,(aB _ _).drew⟩,rfl⟩ ?_
     ·simp[execOp,Act.eval,e3]
     refine rE 4 2 4 ⟨⟨W.drew,(aB _ _).drew⟩,rfl⟩ ?_;simp only[aV,aK,aJ,aL,Act.put,aM,aW,aX];go_big_quiet_step (fail);go_big_quiet_step (fail);refine wpQuiet_nil ?_;refine rO 6 ?_;refine Bm rfl rfl 105 #[.tmp 29] (by intro b w;have hf:=Tryz.func105;simp[go_sem]) #[.slice (some ⟨g,off,none⟩) 0 0] rfl (fun v w'=>AB w.heap.size w' v []∧Below W.heap.size W w') (CB2.out ⟨W.drew,(aB _ _).drew⟩) (some 30) rfl ?_;rintro z w4 ⟨ho4,hb4⟩;refine⟨⟨⟨w4,hb4⟩,rfl⟩,?_⟩;simp only[pU];refine rO 7 ?_;refine FR rfl rfl _ rfl (.int .i64 (c.toNat:Int)) rfl (some 2) rfl ?_;refine⟨⟨⟨w4,hb4⟩,rfl⟩,?_⟩;refine rO 8 ?_;refine FR rfl rfl _ rfl z rfl (some 3) rfl ?_;refine⟨⟨⟨w4,hb4⟩,rfl⟩,?_⟩;refine rO 9 ?_
     refine FR rfl rfl _ rfl (.int .i64 0) rfl (some 4) rfl ?_;refine⟨⟨⟨w4,hb4⟩,rfl⟩,?_⟩;refine rD ?_;exact⟨rfl,_,_,_,_,_,_,_,_,rfl,ho4,hb4⟩
   rotate_left
   focus
    have hc4:3<cv:=by omega
    have HBd:Hid (∀u:Am w,Br u.world (.slice (some ⟨g,off+3,none⟩) (n-3) (cv-3)) body):=fun u=>by
     have:=(HL.out.below u.below).part g off 3 (n-3) (cv-3) rfl (by omega) (by omega) (by omega);rw[aR (by have:=HN.out;simp;omega)] at this;exact this
    go_enter aT,aO;go_wp2_with fail;refine rL ?_
    repeat go_big_quiet_step (fail)
    refine wpQuiet_nil ?_;rintro W ⟨u,hu⟩;have hWb:Below w.heap.size w W:=by rw[hu];exact u.below
    clear hu u;go_wp2_with fail;have ne1:=Am.ne W;have k2:∀u:Am W,u.world.cell? ⟨g,off+2,none⟩=some (.int .u8 (c.toNat:Int)):=fun z=>c2 ⟨z.world,hWb.trans (z.below.mono hWb.size)⟩
    have CB2:Hid (∀u:Am W,Calls aA 105 #[.slice (some ⟨g,off+3,none⟩) (n-3) (cv-3)] u.world fun e w'=> ∃v,e=.returned v∧AB w.heap.size w' v body∧Below W.heap.size W w'):=fun z=>by
     refine(Mm _ body z.world (HBd.out ⟨z.world,hWb.trans (z.below.mono hWb.size)⟩) (by have:=HN.out;first|(simp;done) | omega)).mono ?_;rintro e w' ⟨v,rfl,h1,h2⟩;exact⟨v,rfl,h1.base (Nat.le_trans hWb.size z.below.size),z.below.trans (h2.mono z.below.size)⟩
    clear c2;refine EZ (fun a a' w'=> ∃u y24 y25 y26 y27 y28 y29 y30,a'=((((((((((a.put (some 24) y24).put (some 25) y25).put (some 26) y26).put (some 27) y27).put (some 28) y28).put (some 29) y29).put (some 30) y30).put (some 2) (.int .i64 (c.toNat:Int))).put (some 3) u).put (some 4) (.int .i64 0))∧AB w.heap.size w' u body∧Below W.heap.size W w') ?_ ?_
    ·refine Jj 10 rfl (by kernel_rfl) ?_;refine rE 0 3 7 ⟨⟨W.drew,(aB _ _).drew⟩,rfl⟩ ?_;simp only[aK,aJ,aL]
     iterate 3 (go_big_quiet_step (fail))
     refine wpQuiet_nil ?_;have e3:∀w,(convert 5 3 (.int .u8 (c.toNat:Int))).run aA w=.ok (.int .i64 (c.toNat:Int)) w:=fun w=>Vz c w;refine KA (i:=3) (v:=.int .i64 (c.toNat:Int)) (some 27) rfl rfl (by kernel_rfl) (by kernel_rfl) (by kernel_rfl) (fun c a w h=>absurd h.1 (by simp)) (.inl ⟨rfl,fun w _=> ?_⟩) ⟨⟨W.drew,(aB _ _).drew⟩,rfl⟩ ?_
     ·simp[execOp,Act.eval,e3]
     refine rE 4 2 4 ⟨⟨W.drew,(aB _ _).drew⟩,rfl⟩ ?_;simp only[aV,aK,aJ,aL,Act.put,aM,aW,aX];go_big_quiet_step (fail);go_big_quiet_step (fail);refine wpQuiet_nil ?_;refine rO 6 ?_;refine Bm rfl rfl 105 #[.tmp 29] (by intro b w;have hf:=Tryz.func105;simp[go_sem]) #[.slice (some ⟨g,off+3,none⟩) (n-3) (cv-3)] rfl (fun v w'=>AB w.heap.size w' v body∧Below W.heap.size W w') (CB2.out ⟨W.drew,(aB _ _).drew⟩) (some 30) rfl ?_;rintro z w4 ⟨ho4,hb4⟩;refine⟨⟨⟨w4,hb4⟩,rfl⟩,?_⟩;simp only[pU];refine rO 7 ?_;refine FR rfl rfl _ rfl (.int .i64 (c.toNat:Int)) rfl (some 2) rfl ?_;refine⟨⟨⟨w4,hb4⟩,rfl⟩,?_⟩;refine rO 8 ?_;refine FR rfl rfl _ rfl z rfl (some 3) rfl ?_;refine⟨⟨⟨w4,hb4⟩,rfl⟩,?_⟩;refine rO 9 ?_
     refine FR rfl rfl _ rfl (.int .i64 0) rfl (some 4) rfl ?_;refine⟨⟨⟨w4,hb4⟩,rfl⟩,?_⟩;refine rD ?_;exact⟨rfl,_,_,_,_,_,_,_,_,rfl,ho4,hb4⟩
   all_goals
    ·rintro a' w4 ⟨z,y24,y25,y26,y27,y28,y29,y30,rfl,ho4,hb4⟩;simp only[pU];go_wp2_with fail;go_ret3;rw[HP.out];exact⟨z,rfl,ho4,hWb.trans (hb4.mono hWb.size)⟩
  ·rw[if_neg hq] at HT;have HP:Hid (DE (a::b::c::body)=(0,[],12)):=HT;have hqi:((x:Int)*256+(y:Int)==(n:Int)-3)=false:=by have:=HN.out;rw[beq_eq_false_iff_ne];omega
   clear HT hq;go_enter aT,aO;go_wp2_with fail;refine rL ?_
   repeat go_big_quiet_step (fail)
   refine wpQuiet_nil ?_;rintro w' ⟨u,rfl⟩;go_wp2_with fail;go_ret3;rw[HP.out];exact⟨_,rfl,AB.nil _ _,u.below⟩
 ·have HP:Hid (DE L=(0,[],12)):=by show _=_;unfold DE;rw[Rd L h3]
  obtain⟨n,hn⟩:=eX L.length;rw[←hn] at h3 hc1 ⊢;clear hn hl HL;have d3:decide ((n:Int)<3)=true:=by simp;omega
  go_enter aT,aO;go_wp2_with fail;refine rL ?_
  repeat go_big_quiet_step (fail)
  refine wpQuiet_nil ?_;rintro w' ⟨u,rfl⟩;go_wp2_with fail;go_ret3;rw[HP.out];exact⟨_,rfl,AB.nil _ _,u.below⟩
def Ix(inc us:Int)(lv:Bool)(fl tp n1 n2 n3 wt lo:Int):Array Value:=#[.bool true,.int .i64 inc,.int .i64 us,.bool lv,.int .i64 fl,.int .i64 tp,.int .i64 n1,.int .i64 n2,.int .i64 n3,.int .i64 wt,.int .i64 lo]
def VZ:Array Value:=#[.bool false,.int .i64 0,.int .i64 0,.bool false,.int .i64 0,.int .i64 0,.int .i64 0,.int .i64 0,.int .i64 0,.int .i64 0,.int .i64 0]
def Are:Ag:=⟨59,11⟩
theorem Alg:Are.Ok:=⟨⟨_,Tryz.underlying59,rfl⟩,by kernel_rfl⟩
theorem Acd(inc us:Int)(lv:Bool)(fl tp n1 n2 n3 wt lo:Int)(W:World):(Instr.build 59 #[(0,.bool true),(1,.int .i64 inc),(2,.int .i64 us),(3,.bool lv),(4,.int .i64 fl),(5,.int .i64 tp),(6,.int .i64 n1),(7,.int .i64 n2),(8,.int .i64 n3),(9,.int .i64 wt),(10,.int .i64 lo)]).run aA W=.ok (.agg (Ix inc us lv fl tp n1 n2 n3 wt lo)) W:=by
 unfold Ix;kernel_rfl
def KD(n:Af Aq)(now:Int):Array Value:=Ix n.hold.life n.hold.use (EC n now) n.hold.floor n.hold.top ((Ib n.tab 1).length:Nat) ((Ib n.tab 2).length:Nat) ((Ib n.tab 3).length:Nat) (n.wait.l.length:Nat) n.load
theorem Agi(w:World)(g p:Nat)(cs:Array Value)(hp:p≠g)(k:Nat):(w.setRow p cs).cell? ⟨g,k,none⟩=w.cell? ⟨g,k,none⟩:=by
 have h:=setRow_other w p g cs (fun e=>hp e.symm);simp only[World.cell?,h]
theorem Wv(B:Nat)(w:World)(g gt gh gw:Nat)(R:Rm)(n:Af Aq)(r:D0)(h:Cb B w g gt gh gw R n r)(hh:Gl n.hold)(hw:Ga n.wait)(now:Int):
  Calls aA 22 #[.pointer (some ⟨g,0,none⟩),.int .i64 now] w fun e w'=>e=.returned (.agg (KD n now))∧Below w.heap.size w w':=by
 obtain⟨w0,hw0⟩:=eX (w.alloc (.cells VZ 59));have B0:Below w.heap.size w w0:=by rw[hw0];exact(aB _ _).alloc (aC _) _
 have Zs:w0.heap.size=w.heap.size+1:=by rw[hw0,Bf]
 have Z0:w0.heap[w.heap.size]?=some (.cells VZ 59 (0,0)):=by rw[hw0];exact Ab _ _ _ rfl
 have h0:=h.below B0;have A0d:Hid (Below w0.heap.size w0 (aI w0)):=(aB _ _).drew;have CI:Hid (∀W,Below w0.heap.size w0 W→Calls aA 57 #[.pointer (some ⟨gh,0,none⟩)] W fun e w'=>e=.returned (.int .i64 n.hold.life)∧w'=W):=fun W hW=>(FJ W gh n.hold (h0.below hW).hold).1;have CF:Hid (∀W,Below w0.heap.size w0 W→Calls aA 60 #[.pointer (some ⟨gh,0,none⟩)] W fun e w'=>e=.returned (.int .i64 n.hold.floor)∧w'=W):=fun W hW=>(FJ W gh n.hold (h0.below hW).hold).2.1;have CT:Hid (∀W,Below w0.heap.size w0 W→Calls aA 61 #[.pointer (some ⟨gh,0,none⟩)] W fun e w'=>e=.returned (.int .i64 n.hold.top)∧w'=W):=fun W hW=>(FJ W gh n.hold (h0.below hW).hold).2.2;have CU:Hid (∀W,Below w0.heap.size w0 W→Calls aA 58 #[.pointer (some ⟨gh,0,none⟩)] W fun e w'=>e=.returned (.int .i64 n.hold.use)∧w'=W):=fun W hW=>Jc W gh n.hold (h0.below hW).hold;have CM:Hid (∀W,Below w0.heap.size w0 W→Calls aA 59 #[.pointer (some ⟨g,0,none⟩),.int .i64 now] W fun e w'=>e=.returned (.bool (EC n now))∧Below W.heap.size W w'):=fun W hW=>Nv B W g gt gh gw R n r (h0.below hW) hh now
 have CN:Hid (∀W k,Below w0.heap.size w0 W→Calls aA 62 #[.pointer (some ⟨gt,0,none⟩),.int .i64 k] W fun e w'=>e=.returned (.int .i64 ((Ib n.tab k).length:Nat))∧w'=W):=fun W k hW=>Age B W gt R n.tab r.v1 r.v2 r.v3 (h0.below hW).tab k
 have CL:Hid (∀W,Below w0.heap.size w0 W→Calls aA 63 #[.pointer (some ⟨gw,0,none⟩)] W fun e w'=>(∃o c,e=.returned (.slice o n.wait.l.length c))∧Below W.heap.size W w'):=fun W hW=>
  (U8 B W gw n.wait r.vw (h0.below hW).wait hw).mono fun e w' q=>by
   obtain⟨⟨u,rfl,hu⟩,hb⟩:=q;obtain⟨o,c,rfl,_⟩:=hu.slice;exact⟨⟨o,c,rfl⟩,hb⟩
 have HSx:Hid (∀W,Below w0.heap.size w0 W→DN g gt gh gw n.num n.lease n.beat (fun W=>W.cell? ⟨g,3,none⟩=some (.int .i64 n.load)) W):=fun W hW=>⟨⟨W,⟨n,r,(h0.below hW).blk,rfl,rfl,rfl⟩,(h0.below hW).f.c3⟩,rfl⟩
 have HSs:Hid (∀W cs,Below w0.heap.size w0 W→DN g gt gh gw n.num n.lease n.beat (fun W=>W.cell? ⟨g,3,none⟩=some (.int .i64 n.load)) (W.setRow w.heap.size cs)):=fun W cs hW=>by
  have hgl:=(h.foot_in g ⟨0,by decide,rfl⟩).2;exact⟨⟨_,⟨n,r,(setRow_other _ _ _ _ (by omega)).trans (h0.below hW).blk,rfl,rfl,rfl⟩,(Agi W g w.heap.size cs (by omega) 3).trans (h0.below hW).f.c3⟩,rfl⟩
 have HZ:Hid (∀W,Below w0.heap.size w0 W→W.heap[w.heap.size]?=some (.cells VZ 59 (0,0))):=fun W hW=>(hW.block _ (by omega)).trans Z0;have HBW:Hid (∀W cs,Below w0.heap.size w0 W→Below w.heap.size w (W.setRow w.heap.size cs)):=fun W cs hW=>Aj (B0.trans (hW.mono B0.size)) (aC _) _;unfold KD;obtain⟨inc,hinc⟩:=eX n.hold.life;obtain⟨us,hus⟩:=eX n.hold.use;obtain⟨fl,hfl⟩:=eX n.hold.floor;obtain⟨tp,htp⟩:=eX n.hold.top;obtain⟨lv,hlv⟩:=eX (EC n now);have C1:Hid _:=fun W hW=>CN.out W 1 hW;have C2:Hid _:=fun W hW=>CN.out W 2 hW;have C3:Hid _:=fun W hW=>CN.out W 3 hW;obtain⟨n1,hn1⟩:∃n1:Int,n1=((Ib n.tab 1).length:Nat):=⟨_,rfl⟩;obtain⟨n2,hn2⟩:∃n2:Int,n2=((Ib n.tab 2).length:Nat):=⟨_,rfl⟩;obtain⟨n3,hn3⟩:∃n3:Int,n3=((Ib n.tab 3).length:Nat):=⟨_,rfl⟩;obtain⟨lw,hlw⟩:=eX n.wait.l.length;obtain⟨lo,hlo⟩:=eX n.load;obtain⟨nu,hnu⟩:=eX n.num;obtain⟨le,hle⟩:=eX n.lease;obtain⟨be,hbe⟩:=eX n.beat;rw[←hinc] at CI ⊢;rw[←hus] at CU ⊢;rw[←hfl] at CF ⊢;rw[←htp] at CT ⊢;rw[←hlv] at CM ⊢;rw[←hn1] at C1 ⊢;rw[←hn2] at C2 ⊢;rw[←hn3] at C3 ⊢;rw[←hlw] at CL ⊢;rw[←hlo] at HSx HSs ⊢;rw[←hnu, ←hle, ←hbe] at HSx HSs
 have HS0:Hid (DN g gt gh gw nu le be (fun W=>W.cell? ⟨g,3,none⟩=some (.int .i64 lo)) (aI w0)):=HSx.out _ A0d.out;have hw0':w.alloc (.cells #[.bool false,.int .i64 0,.int .i64 0,.bool false,.int .i64 0,.int .i64 0,.int .i64 0,.int .i64 0,.int .i64 0,.int .i64 0,.int .i64 0] 59)=w0:=hw0.symm;clear hinc hus hfl htp hlv hn1 hn2 hn3 hlw hlo hnu hle hbe CN h0 h hh hw hw0 B0 Zs Z0;go_enter Tryz.func22,Tryz.ntmps22;go_wp2_with fail;have e4:∀z:Fu g gt gh gw nu le be (fun W=>W.cell? ⟨g,3,none⟩=some (.int .i64 lo)),z.world.cell? ⟨g,4,none⟩=some (.pointer (some ⟨gt,0,none⟩)):=fun z=>z.c4;have e5:∀z:Fu g gt gh gw nu le be (fun W=>W.cell? ⟨g,3,none⟩=some (.int .i64 lo)),z.world.cell? ⟨g,5,none⟩=some (.pointer (some ⟨gh,0,none⟩)):=fun z=>z.c5;have e6:∀z:Fu g gt gh gw nu le be (fun W=>W.cell? ⟨g,3,none⟩=some (.int .i64 lo)),z.world.cell? ⟨g,6,none⟩=some (.pointer (some ⟨gw,0,none⟩)):=fun z=>z.c6;have ne9:Nonempty (Fu g gt gh gw nu le be (fun W=>W.cell? ⟨g,3,none⟩=some (.int .i64 lo))):=by obtain⟨z,_⟩:=HS0.out;exact⟨z⟩
 have e3:∀z:Fu g gt gh gw nu le be (fun W=>W.cell? ⟨g,3,none⟩=some (.int .i64 lo)),z.world.cell? ⟨g,3,none⟩=some (.int .i64 lo):=fun z=>z.x;refine Ey ?_;refine B8 (DN g gt gh gw nu le be (fun W=>W.cell? ⟨g,3,none⟩=some (.int .i64 lo))) 50 rfl (by kernel_rfl) ?_;refine rR [0,5,10,11,13,18,23,28,33,38,44,1,6,14,19,24,29,34,39,45,2,7,15,20,25,30,35,40,46,3,8,16,21,26,31,36,41,47] 38 12 HS0.out ?_;simp only[pk]
 iterate 38 (go_big_quiet_step (fail))
 refine wpQuiet_nil ?_;refine rO 4 ?_;refine Bm rfl rfl 57 #[.tmp 11] (by intro b w;have hf:=Tryz.func57;simp[go_sem]) #[.pointer (some ⟨gh,0,none⟩)] rfl (fun v w'=>v=.int .i64 inc∧w'=(aI w0)) ((CI.out (aI w0) A0d.out).mono fun e w' h=>⟨_,h.1,rfl,h.2⟩) (some 12) rfl ?_;rintro v wq ⟨rfl,hq⟩;have hq:=hq.symm;subst hq;refine⟨HS0.out,?_⟩;simp only[pU];refine rO 9 ?_;refine Bm rfl rfl 58 #[.tmp 16] (by intro b w;have hf:=Tryz.func58;simp[go_sem]) #[.pointer (some ⟨gh,0,none⟩)] rfl (fun v w'=>v=.int .i64 us∧w'=(aI w0)) ((CU.out (aI w0) A0d.out).mono fun e w' h=>⟨_,h.1,rfl,h.2⟩) (some 17) rfl ?_;rintro v wq ⟨rfl,hq⟩;have hq:=hq.symm;subst hq;refine⟨HS0.out,?_⟩;simp only[pU];refine rO 12 ?_;refine Bm rfl rfl 59 #[.tmp 18,.tmp 19] (by intro b w;have hf:=Tryz.func59;simp[go_sem]) #[.pointer (some ⟨g,0,none⟩),.int .i64 now] rfl (fun v w'=>v=.bool lv∧Below ((aI w0)).heap.size ((aI w0)) w') ((CM.out ((aI w0)) A0d.out).mono fun e w' h=>⟨_,h.1,rfl,h.2⟩) (some 20) rfl ?_;rintro v wm ⟨rfl,bm⟩;have AM:Hid _:=A0d.out.trans (bm.mono A0d.out.size)
 have IM:Hid (DN g gt gh gw nu le be (fun W=>W.cell? ⟨g,3,none⟩=some (.int .i64 lo)) wm):=HSx.out wm AM.out;clear bm;refine⟨IM.out,?_⟩;simp only[pU];refine rO 17 ?_;refine Bm rfl rfl 60 #[.tmp 24] (by intro b w;have hf:=Tryz.func60;simp[go_sem]) #[.pointer (some ⟨gh,0,none⟩)] rfl (fun v w'=>v=.int .i64 fl∧w'=wm) ((CF.out wm AM.out).mono fun e w' h=>⟨_,h.1,rfl,h.2⟩) (some 25) rfl ?_;rintro v wq ⟨rfl,hq⟩;have hq:=hq.symm;subst hq;refine⟨IM.out,?_⟩;simp only[pU];refine rO 22 ?_;refine Bm rfl rfl 61 #[.tmp 29] (by intro b w;have hf:=Tryz.func61;simp[go_sem]) #[.pointer (some ⟨gh,0,none⟩)] rfl (fun v w'=>v=.int .i64 tp∧w'=wm) ((CT.out wm AM.out).mono fun e w' h=>⟨_,h.1,rfl,h.2⟩) (some 30) rfl ?_;rintro v wq ⟨rfl,hq⟩;have hq:=hq.symm;subst hq;refine⟨IM.out,?_⟩;simp only[pU];refine rO 27 ?_;refine Bm rfl rfl 62 #[.tmp 34,.const (.int .i64 1)] (by intro b w;have hf:=aP;simp[go_sem]) #[.pointer (some ⟨gt,0,none⟩),.int .i64 1] rfl (fun v w'=>v=.int .i64 n1∧w'=wm) ((C1.out wm AM.out).mono fun e w' h=>⟨_,h.1,rfl,h.2⟩) (some 35) rfl ?_;rintro v wq ⟨rfl,hq⟩
 have hq:=hq.symm;subst hq;refine⟨IM.out,?_⟩;simp only[pU];refine rO 32 ?_;refine Bm rfl rfl 62 #[.tmp 39,.const (.int .i64 2)] (by intro b w;have hf:=aP;simp[go_sem]) #[.pointer (some ⟨gt,0,none⟩),.int .i64 2] rfl (fun v w'=>v=.int .i64 n2∧w'=wm) ((C2.out wm AM.out).mono fun e w' h=>⟨_,h.1,rfl,h.2⟩) (some 40) rfl ?_;rintro v wq ⟨rfl,hq⟩;have hq:=hq.symm;subst hq;refine⟨IM.out,?_⟩;simp only[pU];refine rO 37 ?_;refine Bm rfl rfl 62 #[.tmp 44,.const (.int .i64 3)] (by intro b w;have hf:=aP;simp[go_sem]) #[.pointer (some ⟨gt,0,none⟩),.int .i64 3] rfl (fun v w'=>v=.int .i64 n3∧w'=wm) ((C3.out wm AM.out).mono fun e w' h=>⟨_,h.1,rfl,h.2⟩) (some 45) rfl ?_;rintro v wq ⟨rfl,hq⟩;have hq:=hq.symm;subst hq;refine⟨IM.out,?_⟩;simp only[pU];refine rO 42 ?_;refine Bm rfl rfl 63 #[.tmp 49] (by intro b w;have hf:=Tryz.func63;simp[go_sem]) #[.pointer (some ⟨gw,0,none⟩)] rfl (fun v w'=>(∃o c,v=.slice o lw c)∧Below (wm).heap.size (wm) w') ((CL.out (wm) AM.out).mono fun e w' h=>by obtain⟨⟨o,c,rfl⟩,h2⟩:=h;exact⟨_,rfl,⟨o,c,rfl⟩,h2⟩) (some 50) rfl ?_
 rintro v wl ⟨⟨ol,cl,rfl⟩,bl⟩;have AL:Hid _:=AM.out.trans (bl.mono AM.out.size);have IL:Hid (DN g gt gh gw nu le be (fun W=>W.cell? ⟨g,3,none⟩=some (.int .i64 lo)) wl):=HSx.out wl AL.out;have ZL:Hid (wl.heap[w.heap.size]?=some (.cells VZ 59 (0,0))):=HZ.out wl AL.out;clear bl;refine⟨IL.out,?_⟩;simp only[pU];refine rO 43 ?_;refine UD rfl rfl (.int .i64 (lw:Int)) (by simp[go_sem,execOp,resolve,invoke,builtin,Act.eval]) (some 51) rfl ?_;refine⟨IL.out,?_⟩;simp only[pU];refine rO 48 ?_;refine Kz rfl rfl _ _ rfl #[(0,.bool true),(1,.int .i64 inc),(2,.int .i64 us),(3,.bool lv),(4,.int .i64 fl),(5,.int .i64 tp),(6,.int .i64 n1),(7,.int .i64 n2),(8,.int .i64 n3),(9,.int .i64 (lw:Int)),(10,.int .i64 lo)] rfl _ (Acd inc us lv fl tp n1 n2 n3 lw lo _) (some 56) rfl ?_;refine⟨IL.out,?_⟩;simp only[pU];refine rO 49 ?_;refine Iu Alg rfl rfl _ _ rfl w.heap.size (Ix inc us lv fl tp n1 n2 n3 lw lo) ⟨rfl,by simp[Ix,Value.oneCell']⟩ rfl rfl _ ZL.out rfl none rfl ?_
 have IS:Hid (DN g gt gh gw nu le be (fun W=>W.cell? ⟨g,3,none⟩=some (.int .i64 lo)) (wl.setRow w.heap.size (Ix inc us lv fl tp n1 n2 n3 lw lo))):=HSs.out wl _ AL.out;refine⟨IS.out,?_⟩;simp only[Act.put];refine rD ?_;refine⟨rfl,?_⟩;go_wp2_with fail;refine Fa Alg rfl rfl w.heap.size rfl (Ix inc us lv fl tp n1 n2 n3 lw lo) rfl (setRow_heap _ _ _ _ _ _ ZL.out) ?_;exact⟨rfl,HBW.out wl _ AL.out⟩
theorem ET.row{a b:World}(h:ET a b){p:Nat}{cs:Array Value}{t:TypeId}{fr:Nat×Nat}(hp:a.heap[p]?=some (.cells cs t fr))(ht:t∉Zn):b.heap[p]?=some (.cells cs t fr):=
 h.heap hp fun⟨t',h1,cs',fr',e⟩=>by
  rw[hp] at e
  simp only[Option.some.injEq,Obj.cells.injEq] at e
  exact ht (e.2.1▸h1)
section
variable {w wr w':World} {g gt gh gw:Nat} {R:Rm} {n n':Af Aq}
theorem Fl(h:DA w wr g gt gh gw R n){M:Nat}(hi:Az M R n)(now:Int):
  Calls aA 22 #[.pointer (some ⟨g,0,none⟩),.int .i64 now] wr fun e w'=>e=.returned (.agg (KD n now))∧Below wr.heap.size wr w':=by
 obtain⟨r,h1,h2⟩:=h;exact Wv _ _ g gt gh gw R n r h1 hi.hold hi.wait now
end
end
end Go.Proofs.YtbhkoipcpcoooaaGreat
