import Derived.Test.YtbhkoipcpcoooaaGreatJ1
import Derived.Test.YtbhkoipcpcoooaaGreatProg
import Derived.Test.YtbhkoipcpcoooaaGreatJ9
import Derived.Test.YtbhkoipcpcoooaaGreatJ2
import Derived.Sort.LotA
import Derived.WalkKit
import Derived.WalkSpells
import Derived.WalkLawsBesides
import Derived.BigQuiet
import Derived.KernelRfl
import Derived.Laws.StructEq
import Derived.Laws.Tables
import Derived.Laws.Rows
import Derived.StillTailTactics
import Derived.StillTail
import Derived.Test.YtbhkoipcpcoooaaGreatJ17
import Derived.Test.YtbhkoipcpcoooaaGreatJ3
import Derived.OrdersHeld
import Derived.Test.YtbhkoipcpcoooaaGreatJ12
import Derived.Test.YtbhkoipcpcoooaaGreatJ7
import Derived.Great.BuildSlice
import Derived.Laws.AppendOwn
import Derived.Laws.OwnMore
import Derived.Maps.AppendAt
import Derived.Test.YtbhkoipcpcoooaaGreatJ6
import Derived.Test.YtbhkoipcpcoooaaGreatJ5
import Derived.Test.YtbhkoipcpcoooaaGreatJ4
import Derived.OwnWalk
import Derived.Laws.CopyRow
import Derived.Deep.QuietTactic
import Derived.Lib.Hide
import Derived.Lib.Walk
import Derived.Shelf.SlSortCmp.KitK
import Derived.Deep.LoopGhost
import Derived.Deep.CutRange
import Derived.Laws.AppendOwnNone
import Derived.Great.Walk
import Derived.Laws.Cover3
import Derived.Test.YtbhkoipcpcoooaaGreatJ24
import Derived.Test.YtbhkoipcpcoooaaGreatJ23
import Derived.Test.YtbhkoipcpcoooaaGreatJ15
import Derived.Test.YtbhkoipcpcoooaaGreatJ14
import Derived.Test.YtbhkoipcpcoooaaGreatJ13
import Derived.Lib.UnsafeStr
import Derived.Laws.BytesArg
import Derived.Laws.Bits64b
import Derived.Lib.BitFns
import Derived.WalkMore
import Derived.Laws.CopyOwn
import Derived.Lib.Bytealg
import Derived.Lib.BufferWrite
import Derived.Laws.MakeOwn
import Derived.BigRegion
import Derived.Test.YtbhkoipcpcoooaaGreatJ25
namespace Go.Proofs.YtbhkoipcpcoooaaGreat
set_option maxRecDepth 20000
set_option maxHeartbeats 64000000
open Go
open Go.Proofs.Tryz renaming prog → aA, ntmps70 → aC, func70 → aD, ntmps69 → aN, ntmps65 → aO, func69 → aP, func65 → aR
open Go.RowKit.Below renaming refl → aB
open _root_.Nat renaming le_refl → aG, le_succ → aH, zero_le → aX
open _root_.List renaming take_succ_cons → aI, nil_append → aJ, drop_zero → aK, take_zero → aL, setIfInBounds_toArray → aM, take_of_length_le → aQ, drop_succ_cons → aT, set_cons_succ → aV, set_cons_zero → aW
theorem Af7(h:Bb)(f:Int):h.floor≤(Dp h f).floor∧h.top≤(Dp h f).top:=by
  unfold Dp;split
  · unfold Ei;dsimp only;omega
  · exact⟨Int.le_refl _,Int.le_refl _⟩
def Jy(h h':Bb):Prop:=(h'.use=h.use∧h'.said=h.said)∨(h'.use=0∧h.use≠h'.floor∧h.use≠h'.top)
theorem Mh(h:Bb):Jy h h:=.inl ⟨rfl,rfl⟩
theorem Tp(h:Bb)(f t:Int):Jy h (Ei {h with floor:=f,top:=t}):=by
  unfold Jy Ei;dsimp only;by_cases hc:h.use=f∨h.use=t
  · rw[if_pos hc,if_pos hc];exact .inl ⟨rfl,rfl⟩
  · rw[if_neg hc];exact .inr ⟨rfl,fun e=>hc (.inl e),fun e=>hc (.inr e)⟩
theorem W9(h:Bb)(f:Int):Jy h (Dp h f):=by
  unfold Dp;split
  · exact Tp h _ _
  · exact Mh h
theorem Ahw(h:Bb)(e:Int):Jy h (EM h e):=by
  unfold EM;split
  · exact Tp h h.floor e
  · exact Mh h
theorem Yv{a b c:Bb}(hbc:b.floor=c.floor∨c.floor≠a.use)(hbt:b.top=c.top∨c.top≠a.use)(h1:Jy a b)(h2:Jy b c)(h0:b.use=0→c.use=0):Jy a c:=by
  rcases h1 with ⟨e1,e2⟩ | ⟨e1,e2,e3⟩
  · rcases h2 with ⟨g1,g2⟩ | ⟨g1,g2,g3⟩
    · exact .inl ⟨g1.trans e1,g2.trans e2⟩
    · rw[e1] at g2 g3;exact .inr ⟨g1,g2,g3⟩
  · refine .inr ⟨h0 e1,?_,?_⟩
    · rcases hbc with e | e
      · rw[←e];exact e2
      · exact fun x=>e x.symm
    · rcases hbt with e | e
      · rw[←e];exact e3
      · exact fun x=>e x.symm
theorem Xl{h:Bb}(hk:DO h)(floor epoch at_ of:Int):Jy h (DK h floor epoch at_ of).1:=by
  have key:Jy h (EM (Dp h floor) epoch):=by
    have h1:=W9 h floor;have h2:=Ahw (Dp h floor) epoch
    have hfl:(EM (Dp h floor) epoch).floor=(Dp h floor).floor:=by
      unfold EM;split
      · rfl
      · rfl
    have hul:h.use≤(Dp h floor).top:=by
      have:=(Af7 h floor).2;by_cases hu:h.use=0
      · have:=hk.floor0;have:=hk.le;omega
      · have h3:=(Hw.1 (hk.uses hu)).1;rcases(hk.two _ h3).1 with e | e
        · have:=hk.le;omega
        · omega
    refine Yv (.inl hfl.symm) ?_ h1 h2 ?_
    · unfold EM;split
      · right;show epoch≠h.use;omega
      · exact .inl rfl
    · intro h0;rcases h2 with ⟨g1,_⟩ | ⟨g1,_⟩
      · rw[g1];exact h0
      · exact g1
  unfold DK;split
  · exact Mh h
  · split
    · exact key
    · split
      · exact key
      · exact key
theorem Af8{h:Bb}(hk:DO h){f:Int}(hne:(Dp h f).use≠h.use):h.use<(Dp h f).floor:=by
  unfold Dp at hne ⊢;by_cases hf:h.floor<f
  · rw[if_pos hf] at hne ⊢;unfold Ei at hne ⊢;dsimp only at hne ⊢;by_cases hc:h.use=f∨h.use=max h.top f
    · rw[if_pos hc] at hne;exact absurd rfl hne
    · rw[if_neg hc] at hne;rw[not_or] at hc;have h0:h.use≠0:=fun e=>hne e.symm;have:=hk.le;rcases(hk.two _ (Hw.1 (hk.uses h0)).1).1 with e | e <;> omega
  · rw[if_neg hf] at hne;exact absurd rfl hne
theorem Aix{h:Bb}(hk:DO h)(sent use floor:Int):Jy h (Dq h sent use floor).1∨
    ((Dq h sent use floor).1.use=use∧1≤use∧0≤sent∧(((Dq h sent use floor).1.said=sent∧h.use≤use)∨((Dq h sent use floor).1.said=h.said∧h.use=use))):=by
  unfold Dq;split
  · exact .inl (Mh h)
  · rename_i hc;dsimp only;have hk1:=QR hk floor;have h1:=W9 h floor;unfold J9;split
    · rename_i hf;have h2:=hk1.two _ (Hw.1 hf).1;split
      · rename_i hu;right;dsimp only;rcases h1 with ⟨g1,g2⟩ | ⟨g1,g2,g3⟩
        · refine⟨hu.symm,h2.2,by omega,?_⟩;by_cases hm:(Dp h floor).said≤sent
          · exact .inl ⟨by omega,by omega⟩
          · exact .inr ⟨by omega,by omega⟩
        · omega
      · rename_i hu;split
        · rename_i hlt;right;refine⟨rfl,h2.2,by omega,.inl ⟨rfl,?_⟩⟩;by_cases hg:(Dp h floor).use=h.use
          · omega
          · have h3:=Af8 hk hg;have h4:=hk1.le;rcases h2.1 with e | e <;> omega
        · exact .inl h1
    · exact .inl h1
def QT(P:Int→Int→Prop)(h:Bb):Prop:=h.use≠0→P h.use h.said
theorem UL{P:Int→Int→Prop}{h h':Bb}(hu:Jy h h')(hp:QT P h):QT P h':=fun h0=>by
  rcases hu with ⟨e1,e2⟩ | ⟨e1,_⟩
  · rw[e1] at h0
    rw[e1,e2];exact hp h0
  · exact absurd e1 h0
theorem Aiy{P:Int→Int→Prop}{h:Bb}(hk:DO h)(hp:QT P h){sent use floor:Int}(hn:0≤sent→P use sent):QT P (Dq h sent use floor).1:=by
  rcases Aix hk sent use floor with hu | ⟨e1,e2,e3,⟨g1,_⟩ | ⟨g1,g2⟩⟩
  · exact UL hu hp
  · intro _;rw[e1,g1];exact hn e3
  · intro _;rw[e1,g1];have:=hp (by omega);rwa [g2] at this
theorem Ais{P:Int→Int→Prop}{h:Bb}(hp:QT P h){now lease:Int}(h0:0≤now)(h1:now≤1099511627776)(hl:OZ h now lease=true):∃s,P h.use s∧now-s<lease:=by
  unfold OZ at hl;rw[Bool.and_eq_true,decide_eq_true_eq,decide_eq_true_eq] at hl;exact⟨h.said,hp (by omega),by omega⟩
section
variable {T:Type} {O:Qz T}
def Ro(y:AP):Prop:=y.kind=5∨y.kind=10
theorem ZE{y:AP}(h:y.kind≠5)(h':y.kind≠10):¬Ro y:=fun e=>by rcases e with e | e <;> contradiction
theorem Rj(n:Af T)(index:Int)(h:List Int)(now:Int):(Cl O n index h now).hold=n.hold∧(Cl O n index h now).lease=n.lease:=by
 unfold Cl;split
 ·split
  ·rename_i t s _;split
   ·split;rename_i w seq e _;split
    ·have:=EY (Db (AX n t) w) seq index h 1 s;exact⟨this.hold,this.lease⟩
    ·exact⟨rfl,rfl⟩
   ·exact⟨rfl,rfl⟩
  ·exact⟨rfl,rfl⟩
 ·exact⟨rfl,rfl⟩
theorem Afp(n:Af T)(index:Int)(h:List Int)(now:Int):AS (fun y=>Ro y→EC n now=true) n (Cl O n index h now):=by
 unfold Cl;split
 ·rename_i hm;split
  ·rename_i t s _;split
   ·split;rename_i w seq e _;split
    ·exact(AS.of_eq (n':=Db (AX n t) w) rfl).trans (PD _ _ _ _ _ _ (fun y _ _ _=>hm))
    ·exact(AS.of_eq (n':=AX n t) rfl).write (fun _=>hm)
   ·exact(AS.of_eq (n':=AX n t) rfl).write (fun _=>hm)
  ·rename_i t _ _;exact(AS.of_eq (n':=AX n t) rfl).write (fun _=>hm)
 ·exact(AS.refl _ n).write (fun e=>absurd e (ZE (show(6:Int)≠5 by decide) (show(6:Int)≠10 by decide)))
def GH(P:Int→Int→Prop)(n:Af T):Prop:=DO n.hold∧QT P n.hold
theorem Qh{P:Int→Int→Prop}{n n':Af T}(h:GH P n)(s:Fi n n'):GH P n':=by
 unfold GH at h ⊢;rw[s.hold];exact h
theorem Qi{P R:Int→Int→Prop}{n:Af T}(h:GH P n)(hp:∀u s,P u s→R u s):GH R n:=⟨h.1,fun h0=>hp _ _ (h.2 h0)⟩
theorem Ajb(P:Int→Int→Prop)(num inc lease beat cache:Int)(t:T)(w:Be):GH P (NW num inc lease beat cache t w):=⟨Uc inc,fun h=>absurd rfl h⟩
theorem Uf{P:Int→Int→Prop}{n:Af T}(h:GH P n){now:Int}(h0:0≤now)(h1:now≤1099511627776)(hm:EC n now=true):0<n.hold.use∧∃s,P n.hold.use s∧now-s<n.lease:=by
 refine⟨?_,Ais h.2 h0 h1 hm⟩;unfold EC OZ at hm;rw[Bool.and_eq_true] at hm;exact of_decide_eq_true hm.1
theorem Afn{P:Int→Int→Prop}{n:Af T}(h:GH P n){src:Int}{data:List UInt8}{now:Int}(hp:∀m,DQ data=some m→src=0→m.kind=3→Ad m 0=n.hold.life→0≤Ad m 9→P (Ad m 10) (Ad m 9)):GH P (DC O n src data now):=by
 rcases PQ (O:=O) n src data now with ⟨h1,_⟩ | ⟨m,h1,h2,h3,_,_,_,_,_,_,h10⟩
 ·exact Qh h h1
 ·rcases h10 with ⟨_,e⟩ | ⟨hk,e⟩
  ·refine⟨by rw[e];exact Ui h.1 _ _ _ _,by rw[e];exact UL (Xl h.1 _ _ _ _) h.2⟩
  ·refine⟨by rw[e];exact ZD h.1 _ _ _,by rw[e];exact Aiy h.1 h.2 (hp m h1 h2 hk h3)⟩
theorem Ahg{P:Int→Int→Prop}{n:Af T}(h:GH P n){src:Int}{data:List UInt8}{now:Int}(h0:0≤now)(h1:now≤1099511627776)(hl:n.log=[]):∀y∈(DC O n src data now).log,Ro y→0<(DC O n src data now).hold.use∧∃s,P (DC O n src data now).hold.use s∧now-s<n.lease:=by
 intro y hy he;rcases PQ (O:=O) n src data now with ⟨s1,l,el,ql⟩ | ⟨m,_,_,_,_,_,_,_,_,⟨l,el,ql⟩,_⟩
 ·rw[el,hl,aJ] at hy;rw[s1.hold];rcases ql y hy with ⟨_,hm⟩ | hk
  ·exact Uf h h0 h1 hm
  ·rcases he with he | he <;> rw[hk] at he <;> cases he
 ·rw[el,hl,aJ] at hy;exfalso;rcases ql y hy with hk | hk | hk <;> rcases he with he | he <;> rw[hk] at he <;> cases he
theorem Abi{P:Int→Int→Prop}{n:Af T}(h:GH P n){index:Int}{hd:List Int}{now:Int}(h0:0≤now)(h1:now≤1099511627776)(hl:n.log=[]):∀y∈(Cl O n index hd now).log,Ro y→0<(Cl O n index hd now).hold.use∧∃s,P (Cl O n index hd now).hold.use s∧now-s<n.lease:=by
 intro y hy he;obtain⟨l,el,ql⟩:=Afp (O:=O) n index hd now;rw[el,hl,aJ] at hy;rw[(Rj n index hd now).1];exact Uf h h0 h1 (ql y hy he)
theorem Ahd{P:Int→Int→Prop}{n:Af T}(h:GH P n){now:Int}(h0:0≤now)(h1:now≤1099511627776)(hl:n.log=[]):∀y∈(Ct O n now).log,Ro y→0<(Ct O n now).hold.use∧∃s,P (Ct O n now).hold.use s∧now-s<n.lease:=by
 intro y hy he;obtain⟨⟨l,el,ql⟩,s1⟩:=LK (O:=O) n now;rw[el,hl,aJ] at hy;rw[s1.hold];rcases ql y hy with ⟨_,hm⟩ | hk | hk
 ·exact Uf h h0 h1 hm
 ·rcases he with he | he <;> rw[hk] at he <;> cases he
 ·rcases he with he | he <;> rw[hk] at he <;> cases he
end
section
open Go.RowKit
theorem UD{ops:Array Oper}{Q:Exit→Act→World→Prop}{i:Nat}{o:Oper}{K:Act→World→Prop}{a:Act}{w:World}(hi:ops[i]?=some o)(hw:Region.wanted o (yielded ops a.tmps)=true)(v:Value)(hx:(execOp a.eval o).run aA w=.ok (.value v) w)(d:Option Tmp)(hd:o.dst=d)(hK:K (a.put d v) w):wpOp aA ops Q i K a w:=
 FF hi hw v hx d hd hK
def Ib(S:Aq)(k:Int):List Ai:=if 0≤k∧k≤3 then Bv S k.toNat else []
theorem Age(B:Nat)(w:World)(g:Nat)(R:Rm)(S:Aq)(v1 v2 v3:Value)(h:Cw B w g R S v1 v2 v3)(k:Int):
  Calls aA 62 #[.pointer (some ⟨g,0,none⟩),.int .i64 k] w fun e w'=>e=.returned (.int .i64 ((Ib S k).length:Nat))∧w'=w:=by
 have WI:Hid (∀b,decide (0≤k∧k≤3)=b→∀W,Calls aA 88 #[.int .i64 k,.int .i64 3] W fun e w'=>e=.returned (.bool b)∧w'=W):=by
  intro b hb W;rw[←hb];exact PL k 3 W
 by_cases hk:0≤k∧k≤3
 focus
  have e1:Ib S k=Bv S k.toNat:=by unfold Ib;rw[if_pos hk]
  rw[e1];obtain⟨b,rfl⟩:=Int.eq_ofNat_of_zero_le hk.1;have hb:b<4:=by omega
  have hb4:(b:Int)<4:=by omega
  have hw:=WI.out true (decide_eq_true hk);have WT:Hid _:=hw;have c1:=h.f.bankCell b hb;obtain⟨o,cap,e,he,hm⟩:=(h.bank b).slice;unfold maxLen at hm;rw[e] at c1;rw[Int.toNat_natCast];generalize (Bv S b).length=n at c1 he ⊢;clear h e WI hw hk e1
 rotate_left
 focus
  have e1:Ib S k=[]:=by unfold Ib;rw[if_neg hk]
  rw[e1];have hw:=WI.out false (decide_eq_false hk);have WT:Hid _:=hw;clear h WI hw hk e1
 all_goals
  go_enter Tryz.func62,Tryz.ntmps62;go_wp2_with (go_at_call 88;refine(WT.out _).mono ?_;rintro e w1 ⟨rfl,rfl⟩);go_ret;exact⟨rfl,rfl⟩
end
section
open Go.Lib Go.RowKit
theorem Aqc(m:An)(hm:BB m)(x:Int)(w:World):Calls aA 70 #[.agg (Ae m),.int .u8 105,.int .i64 x] w fun e w'=>e=.returned (.agg (Ae (AR m 0 x)))∧Below w.heap.size w w':=by
 have g0:((w.alloc (.cells (Ae m) 39)).alloc (.cells Ao 39)).heap[w.heap.size]?=some (.cells (Ae m) 39 (0,0)):=Ah _ _ _ _ (Ab _ _ _ rfl)
 have hc:((w.alloc (.cells (Ae m) 39)).alloc (.cells Ao 39)).cell? ⟨w.heap.size,1,none⟩=some (.int .i64 (Ad m 0)):=by
  rw[cell_of_row _ _ _ _ _ _ g0];exact BK hm 0 (by decide)
 have hf:((w.alloc (.cells (Ae m) 39)).alloc (.cells Ao 39)).frozen? ⟨w.heap.size,1,none⟩=false:=frozen_of_row _ _ _ _ _ g0;have hm2:=EU hm 0 x;have hms:=BG hm2;have es:=FK hm 0 (by decide) x;clear g0;go_enter aD,aC;go_wp2_with ((with_reducible refine Aw 39 _ rfl ?_);refine Dk ?_);unfold E6
 try rw[es]
 clear hc hf es;have g1:((w.alloc (.cells (Ae (AR m 0 x)) 39)).alloc (.cells Ao 39)).heap[w.heap.size]?=some (.cells (Ae (AR m 0 x)) 39 (0,0)):=Ah _ _ _ _ (Ab _ _ _ rfl);have z1:((w.alloc (.cells (Ae (AR m 0 x)) 39)).alloc (.cells Ao 39)).heap[w.heap.size+1]?=some (.cells Ao 39 (0,0)):=Ab _ _ _ (by simp);have B1:Below w.heap.size w ((w.alloc (.cells (Ae (AR m 0 x)) 39)).alloc (.cells Ao 39)):=((aB _ _).alloc (aG _) _).alloc (by simp) _
 go_wp2_with (first
  | ((with_reducible refine Aw 39 _ rfl ?_);refine AH BD rfl _ rfl w.heap.size 0 rfl _ _ _ (Ae (AR m 0 x)) hms g1 (Ar _ _) ?_)
  | ((with_reducible refine Bu 39 _ _ rfl ?_);refine BP BD rfl _ _ rfl (w.heap.size+1) (Ae (AR m 0 x)) (CY hm2) rfl rfl _ z1 rfl _ rfl ?_))
 refine Fa BD (p:=6) rfl rfl (w.heap.size+1) rfl (Ae (AR m 0 x)) hms (setRow_heap _ _ _ _ _ _ z1) ⟨rfl,Aj B1 (aH _) _⟩
theorem Aqb(m:An)(hm:BB m)(x:Int)(w:World):Calls aA 70 #[.agg (Ae m),.int .u8 101,.int .i64 x] w fun e w'=>e=.returned (.agg (Ae (AR m 1 x)))∧Below w.heap.size w w':=by
 have g0:((w.alloc (.cells (Ae m) 39)).alloc (.cells Ao 39)).heap[w.heap.size]?=some (.cells (Ae m) 39 (0,0)):=Ah _ _ _ _ (Ab _ _ _ rfl)
 have hc:((w.alloc (.cells (Ae m) 39)).alloc (.cells Ao 39)).cell? ⟨w.heap.size,2,none⟩=some (.int .i64 (Ad m 1)):=by
  rw[cell_of_row _ _ _ _ _ _ g0];exact BK hm 1 (by decide)
 have hf:((w.alloc (.cells (Ae m) 39)).alloc (.cells Ao 39)).frozen? ⟨w.heap.size,2,none⟩=false:=frozen_of_row _ _ _ _ _ g0;have hm2:=EU hm 1 x;have hms:=BG hm2;have es:=FK hm 1 (by decide) x;clear g0;go_enter aD,aC;go_wp2_with ((with_reducible refine Aw 39 _ rfl ?_);refine Dk ?_);unfold E6
 try rw[es]
 clear hc hf es;have g1:((w.alloc (.cells (Ae (AR m 1 x)) 39)).alloc (.cells Ao 39)).heap[w.heap.size]?=some (.cells (Ae (AR m 1 x)) 39 (0,0)):=Ah _ _ _ _ (Ab _ _ _ rfl);have z1:((w.alloc (.cells (Ae (AR m 1 x)) 39)).alloc (.cells Ao 39)).heap[w.heap.size+1]?=some (.cells Ao 39 (0,0)):=Ab _ _ _ (by simp);have B1:Below w.heap.size w ((w.alloc (.cells (Ae (AR m 1 x)) 39)).alloc (.cells Ao 39)):=((aB _ _).alloc (aG _) _).alloc (by simp) _
 go_wp2_with (first
  | ((with_reducible refine Aw 39 _ rfl ?_);refine AH BD rfl _ rfl w.heap.size 0 rfl _ _ _ (Ae (AR m 1 x)) hms g1 (Ar _ _) ?_)
  | ((with_reducible refine Bu 39 _ _ rfl ?_);refine BP BD rfl _ _ rfl (w.heap.size+1) (Ae (AR m 1 x)) (CY hm2) rfl rfl _ z1 rfl _ rfl ?_))
 refine Fa BD (p:=6) rfl rfl (w.heap.size+1) rfl (Ae (AR m 1 x)) hms (setRow_heap _ _ _ _ _ _ z1) ⟨rfl,Aj B1 (aH _) _⟩
theorem Aqa(m:An)(hm:BB m)(x:Int)(w:World):Calls aA 70 #[.agg (Ae m),.int .u8 102,.int .i64 x] w fun e w'=>e=.returned (.agg (Ae (AR m 2 x)))∧Below w.heap.size w w':=by
 have g0:((w.alloc (.cells (Ae m) 39)).alloc (.cells Ao 39)).heap[w.heap.size]?=some (.cells (Ae m) 39 (0,0)):=Ah _ _ _ _ (Ab _ _ _ rfl)
 have hc:((w.alloc (.cells (Ae m) 39)).alloc (.cells Ao 39)).cell? ⟨w.heap.size,3,none⟩=some (.int .i64 (Ad m 2)):=by
  rw[cell_of_row _ _ _ _ _ _ g0];exact BK hm 2 (by decide)
 have hf:((w.alloc (.cells (Ae m) 39)).alloc (.cells Ao 39)).frozen? ⟨w.heap.size,3,none⟩=false:=frozen_of_row _ _ _ _ _ g0;have hm2:=EU hm 2 x;have hms:=BG hm2;have es:=FK hm 2 (by decide) x;clear g0;go_enter aD,aC;go_wp2_with ((with_reducible refine Aw 39 _ rfl ?_);refine Dk ?_);unfold E6
 try rw[es]
 clear hc hf es;have g1:((w.alloc (.cells (Ae (AR m 2 x)) 39)).alloc (.cells Ao 39)).heap[w.heap.size]?=some (.cells (Ae (AR m 2 x)) 39 (0,0)):=Ah _ _ _ _ (Ab _ _ _ rfl);have z1:((w.alloc (.cells (Ae (AR m 2 x)) 39)).alloc (.cells Ao 39)).heap[w.heap.size+1]?=some (.cells Ao 39 (0,0)):=Ab _ _ _ (by simp);have B1:Below w.heap.size w ((w.alloc (.cells (Ae (AR m 2 x)) 39)).alloc (.cells Ao 39)):=((aB _ _).alloc (aG _) _).alloc (by simp) _
 go_wp2_with (first
  | ((with_reducible refine Aw 39 _ rfl ?_);refine AH BD rfl _ rfl w.heap.size 0 rfl _ _ _ (Ae (AR m 2 x)) hms g1 (Ar _ _) ?_)
  | ((with_reducible refine Bu 39 _ _ rfl ?_);refine BP BD rfl _ _ rfl (w.heap.size+1) (Ae (AR m 2 x)) (CY hm2) rfl rfl _ z1 rfl _ rfl ?_))
 refine Fa BD (p:=6) rfl rfl (w.heap.size+1) rfl (Ae (AR m 2 x)) hms (setRow_heap _ _ _ _ _ _ z1) ⟨rfl,Aj B1 (aH _) _⟩
theorem Aq9(m:An)(hm:BB m)(x:Int)(w:World):Calls aA 70 #[.agg (Ae m),.int .u8 97,.int .i64 x] w fun e w'=>e=.returned (.agg (Ae (AR m 3 x)))∧Below w.heap.size w w':=by
 have g0:((w.alloc (.cells (Ae m) 39)).alloc (.cells Ao 39)).heap[w.heap.size]?=some (.cells (Ae m) 39 (0,0)):=Ah _ _ _ _ (Ab _ _ _ rfl)
 have hc:((w.alloc (.cells (Ae m) 39)).alloc (.cells Ao 39)).cell? ⟨w.heap.size,4,none⟩=some (.int .i64 (Ad m 3)):=by
  rw[cell_of_row _ _ _ _ _ _ g0];exact BK hm 3 (by decide)
 have hf:((w.alloc (.cells (Ae m) 39)).alloc (.cells Ao 39)).frozen? ⟨w.heap.size,4,none⟩=false:=frozen_of_row _ _ _ _ _ g0;have hm2:=EU hm 3 x;have hms:=BG hm2;have es:=FK hm 3 (by decide) x;clear g0;go_enter aD,aC;go_wp2_with ((with_reducible refine Aw 39 _ rfl ?_);refine Dk ?_);unfold E6
 try rw[es]
 clear hc hf es;have g1:((w.alloc (.cells (Ae (AR m 3 x)) 39)).alloc (.cells Ao 39)).heap[w.heap.size]?=some (.cells (Ae (AR m 3 x)) 39 (0,0)):=Ah _ _ _ _ (Ab _ _ _ rfl);have z1:((w.alloc (.cells (Ae (AR m 3 x)) 39)).alloc (.cells Ao 39)).heap[w.heap.size+1]?=some (.cells Ao 39 (0,0)):=Ab _ _ _ (by simp);have B1:Below w.heap.size w ((w.alloc (.cells (Ae (AR m 3 x)) 39)).alloc (.cells Ao 39)):=((aB _ _).alloc (aG _) _).alloc (by simp) _
 go_wp2_with (first
  | ((with_reducible refine Aw 39 _ rfl ?_);refine AH BD rfl _ rfl w.heap.size 0 rfl _ _ _ (Ae (AR m 3 x)) hms g1 (Ar _ _) ?_)
  | ((with_reducible refine Bu 39 _ _ rfl ?_);refine BP BD rfl _ _ rfl (w.heap.size+1) (Ae (AR m 3 x)) (CY hm2) rfl rfl _ z1 rfl _ rfl ?_))
 refine Fa BD (p:=6) rfl rfl (w.heap.size+1) rfl (Ae (AR m 3 x)) hms (setRow_heap _ _ _ _ _ _ z1) ⟨rfl,Aj B1 (aH _) _⟩
theorem Aq8(m:An)(hm:BB m)(x:Int)(w:World):Calls aA 70 #[.agg (Ae m),.int .u8 116,.int .i64 x] w fun e w'=>e=.returned (.agg (Ae (AR m 4 x)))∧Below w.heap.size w w':=by
 have g0:((w.alloc (.cells (Ae m) 39)).alloc (.cells Ao 39)).heap[w.heap.size]?=some (.cells (Ae m) 39 (0,0)):=Ah _ _ _ _ (Ab _ _ _ rfl)
 have hc:((w.alloc (.cells (Ae m) 39)).alloc (.cells Ao 39)).cell? ⟨w.heap.size,5,none⟩=some (.int .i64 (Ad m 4)):=by
  rw[cell_of_row _ _ _ _ _ _ g0];exact BK hm 4 (by decide)
 have hf:((w.alloc (.cells (Ae m) 39)).alloc (.cells Ao 39)).frozen? ⟨w.heap.size,5,none⟩=false:=frozen_of_row _ _ _ _ _ g0;have hm2:=EU hm 4 x;have hms:=BG hm2;have es:=FK hm 4 (by decide) x;clear g0;go_enter aD,aC;go_wp2_with ((with_reducible refine Aw 39 _ rfl ?_);refine Dk ?_);unfold E6
 try rw[es]
 clear hc hf es;have g1:((w.alloc (.cells (Ae (AR m 4 x)) 39)).alloc (.cells Ao 39)).heap[w.heap.size]?=some (.cells (Ae (AR m 4 x)) 39 (0,0)):=Ah _ _ _ _ (Ab _ _ _ rfl);have z1:((w.alloc (.cells (Ae (AR m 4 x)) 39)).alloc (.cells Ao 39)).heap[w.heap.size+1]?=some (.cells Ao 39 (0,0)):=Ab _ _ _ (by simp);have B1:Below w.heap.size w ((w.alloc (.cells (Ae (AR m 4 x)) 39)).alloc (.cells Ao 39)):=((aB _ _).alloc (aG _) _).alloc (by simp) _
 go_wp2_with (first
  | ((with_reducible refine Aw 39 _ rfl ?_);refine AH BD rfl _ rfl w.heap.size 0 rfl _ _ _ (Ae (AR m 4 x)) hms g1 (Ar _ _) ?_)
  | ((with_reducible refine Bu 39 _ _ rfl ?_);refine BP BD rfl _ _ rfl (w.heap.size+1) (Ae (AR m 4 x)) (CY hm2) rfl rfl _ z1 rfl _ rfl ?_))
 refine Fa BD (p:=6) rfl rfl (w.heap.size+1) rfl (Ae (AR m 4 x)) hms (setRow_heap _ _ _ _ _ _ z1) ⟨rfl,Aj B1 (aH _) _⟩
theorem Aq7(m:An)(hm:BB m)(x:Int)(w:World):Calls aA 70 #[.agg (Ae m),.int .u8 111,.int .i64 x] w fun e w'=>e=.returned (.agg (Ae (AR m 5 x)))∧Below w.heap.size w w':=by
 have g0:((w.alloc (.cells (Ae m) 39)).alloc (.cells Ao 39)).heap[w.heap.size]?=some (.cells (Ae m) 39 (0,0)):=Ah _ _ _ _ (Ab _ _ _ rfl)
 have hc:((w.alloc (.cells (Ae m) 39)).alloc (.cells Ao 39)).cell? ⟨w.heap.size,6,none⟩=some (.int .i64 (Ad m 5)):=by
  rw[cell_of_row _ _ _ _ _ _ g0];exact BK hm 5 (by decide)
 have hf:((w.alloc (.cells (Ae m) 39)).alloc (.cells Ao 39)).frozen? ⟨w.heap.size,6,none⟩=false:=frozen_of_row _ _ _ _ _ g0;have hm2:=EU hm 5 x;have hms:=BG hm2;have es:=FK hm 5 (by decide) x;clear g0;go_enter aD,aC;go_wp2_with ((with_reducible refine Aw 39 _ rfl ?_);refine Dk ?_);unfold E6
 try rw[es]
 clear hc hf es;have g1:((w.alloc (.cells (Ae (AR m 5 x)) 39)).alloc (.cells Ao 39)).heap[w.heap.size]?=some (.cells (Ae (AR m 5 x)) 39 (0,0)):=Ah _ _ _ _ (Ab _ _ _ rfl);have z1:((w.alloc (.cells (Ae (AR m 5 x)) 39)).alloc (.cells Ao 39)).heap[w.heap.size+1]?=some (.cells Ao 39 (0,0)):=Ab _ _ _ (by simp);have B1:Below w.heap.size w ((w.alloc (.cells (Ae (AR m 5 x)) 39)).alloc (.cells Ao 39)):=((aB _ _).alloc (aG _) _).alloc (by simp) _
 go_wp2_with (first
  | ((with_reducible refine Aw 39 _ rfl ?_);refine AH BD rfl _ rfl w.heap.size 0 rfl _ _ _ (Ae (AR m 5 x)) hms g1 (Ar _ _) ?_)
  | ((with_reducible refine Bu 39 _ _ rfl ?_);refine BP BD rfl _ _ rfl (w.heap.size+1) (Ae (AR m 5 x)) (CY hm2) rfl rfl _ z1 rfl _ rfl ?_))
 refine Fa BD (p:=6) rfl rfl (w.heap.size+1) rfl (Ae (AR m 5 x)) hms (setRow_heap _ _ _ _ _ _ z1) ⟨rfl,Aj B1 (aH _) _⟩
theorem Aq6(m:An)(hm:BB m)(x:Int)(w:World):Calls aA 70 #[.agg (Ae m),.int .u8 114,.int .i64 x] w fun e w'=>e=.returned (.agg (Ae (AR m 6 x)))∧Below w.heap.size w w':=by
 have g0:((w.alloc (.cells (Ae m) 39)).alloc (.cells Ao 39)).heap[w.heap.size]?=some (.cells (Ae m) 39 (0,0)):=Ah _ _ _ _ (Ab _ _ _ rfl)
 have hc:((w.alloc (.cells (Ae m) 39)).alloc (.cells Ao 39)).cell? ⟨w.heap.size,7,none⟩=some (.int .i64 (Ad m 6)):=by
  rw[cell_of_row _ _ _ _ _ _ g0];exact BK hm 6 (by decide)
 have hf:((w.alloc (.cells (Ae m) 39)).alloc (.cells Ao 39)).frozen? ⟨w.heap.size,7,none⟩=false:=frozen_of_row _ _ _ _ _ g0;have hm2:=EU hm 6 x;have hms:=BG hm2;have es:=FK hm 6 (by decide) x;clear g0;go_enter aD,aC;go_wp2_with ((with_reducible refine Aw 39 _ rfl ?_);refine Dk ?_);unfold E6
 try rw[es]
 clear hc hf es;have g1:((w.alloc (.cells (Ae (AR m 6 x)) 39)).alloc (.cells Ao 39)).heap[w.heap.size]?=some (.cells (Ae (AR m 6 x)) 39 (0,0)):=Ah _ _ _ _ (Ab _ _ _ rfl);have z1:((w.alloc (.cells (Ae (AR m 6 x)) 39)).alloc (.cells Ao 39)).heap[w.heap.size+1]?=some (.cells Ao 39 (0,0)):=Ab _ _ _ (by simp);have B1:Below w.heap.size w ((w.alloc (.cells (Ae (AR m 6 x)) 39)).alloc (.cells Ao 39)):=((aB _ _).alloc (aG _) _).alloc (by simp) _
 go_wp2_with (first
  | ((with_reducible refine Aw 39 _ rfl ?_);refine AH BD rfl _ rfl w.heap.size 0 rfl _ _ _ (Ae (AR m 6 x)) hms g1 (Ar _ _) ?_)
  | ((with_reducible refine Bu 39 _ _ rfl ?_);refine BP BD rfl _ _ rfl (w.heap.size+1) (Ae (AR m 6 x)) (CY hm2) rfl rfl _ z1 rfl _ rfl ?_))
 refine Fa BD (p:=6) rfl rfl (w.heap.size+1) rfl (Ae (AR m 6 x)) hms (setRow_heap _ _ _ _ _ _ z1) ⟨rfl,Aj B1 (aH _) _⟩
theorem Aq5(m:An)(hm:BB m)(x:Int)(w:World):Calls aA 70 #[.agg (Ae m),.int .u8 49,.int .i64 x] w fun e w'=>e=.returned (.agg (Ae (AR m 7 x)))∧Below w.heap.size w w':=by
 have g0:((w.alloc (.cells (Ae m) 39)).alloc (.cells Ao 39)).heap[w.heap.size]?=some (.cells (Ae m) 39 (0,0)):=Ah _ _ _ _ (Ab _ _ _ rfl)
 have hc:((w.alloc (.cells (Ae m) 39)).alloc (.cells Ao 39)).cell? ⟨w.heap.size,8,none⟩=some (.int .i64 (Ad m 7)):=by
  rw[cell_of_row _ _ _ _ _ _ g0];exact BK hm 7 (by decide)
 have hf:((w.alloc (.cells (Ae m) 39)).alloc (.cells Ao 39)).frozen? ⟨w.heap.size,8,none⟩=false:=frozen_of_row _ _ _ _ _ g0;have hm2:=EU hm 7 x;have hms:=BG hm2;have es:=FK hm 7 (by decide) x;clear g0;go_enter aD,aC;go_wp2_with ((with_reducible refine Aw 39 _ rfl ?_);refine Dk ?_);unfold E6
 try rw[es]
 clear hc hf es;have g1:((w.alloc (.cells (Ae (AR m 7 x)) 39)).alloc (.cells Ao 39)).heap[w.heap.size]?=some (.cells (Ae (AR m 7 x)) 39 (0,0)):=Ah _ _ _ _ (Ab _ _ _ rfl);have z1:((w.alloc (.cells (Ae (AR m 7 x)) 39)).alloc (.cells Ao 39)).heap[w.heap.size+1]?=some (.cells Ao 39 (0,0)):=Ab _ _ _ (by simp);have B1:Below w.heap.size w ((w.alloc (.cells (Ae (AR m 7 x)) 39)).alloc (.cells Ao 39)):=((aB _ _).alloc (aG _) _).alloc (by simp) _
 go_wp2_with (first
  | ((with_reducible refine Aw 39 _ rfl ?_);refine AH BD rfl _ rfl w.heap.size 0 rfl _ _ _ (Ae (AR m 7 x)) hms g1 (Ar _ _) ?_)
  | ((with_reducible refine Bu 39 _ _ rfl ?_);refine BP BD rfl _ _ rfl (w.heap.size+1) (Ae (AR m 7 x)) (CY hm2) rfl rfl _ z1 rfl _ rfl ?_))
 refine Fa BD (p:=6) rfl rfl (w.heap.size+1) rfl (Ae (AR m 7 x)) hms (setRow_heap _ _ _ _ _ _ z1) ⟨rfl,Aj B1 (aH _) _⟩
theorem Aq4(m:An)(hm:BB m)(x:Int)(w:World):Calls aA 70 #[.agg (Ae m),.int .u8 50,.int .i64 x] w fun e w'=>e=.returned (.agg (Ae (AR m 8 x)))∧Below w.heap.size w w':=by
 have g0:((w.alloc (.cells (Ae m) 39)).alloc (.cells Ao 39)).heap[w.heap.size]?=some (.cells (Ae m) 39 (0,0)):=Ah _ _ _ _ (Ab _ _ _ rfl)
 have hc:((w.alloc (.cells (Ae m) 39)).alloc (.cells Ao 39)).cell? ⟨w.heap.size,9,none⟩=some (.int .i64 (Ad m 8)):=by
  rw[cell_of_row _ _ _ _ _ _ g0];exact BK hm 8 (by decide)
 have hf:((w.alloc (.cells (Ae m) 39)).alloc (.cells Ao 39)).frozen? ⟨w.heap.size,9,none⟩=false:=frozen_of_row _ _ _ _ _ g0;have hm2:=EU hm 8 x;have hms:=BG hm2;have es:=FK hm 8 (by decide) x;clear g0;go_enter aD,aC;go_wp2_with ((with_reducible refine Aw 39 _ rfl ?_);refine Dk ?_);unfold E6
 try rw[es]
 clear hc hf es;have g1:((w.alloc (.cells (Ae (AR m 8 x)) 39)).alloc (.cells Ao 39)).heap[w.heap.size]?=some (.cells (Ae (AR m 8 x)) 39 (0,0)):=Ah _ _ _ _ (Ab _ _ _ rfl);have z1:((w.alloc (.cells (Ae (AR m 8 x)) 39)).alloc (.cells Ao 39)).heap[w.heap.size+1]?=some (.cells Ao 39 (0,0)):=Ab _ _ _ (by simp);have B1:Below w.heap.size w ((w.alloc (.cells (Ae (AR m 8 x)) 39)).alloc (.cells Ao 39)):=((aB _ _).alloc (aG _) _).alloc (by simp) _
 go_wp2_with (first
  | ((with_reducible refine Aw 39 _ rfl ?_);refine AH BD rfl _ rfl w.heap.size 0 rfl _ _ _ (Ae (AR m 8 x)) hms g1 (Ar _ _) ?_)
  | ((with_reducible refine Bu 39 _ _ rfl ?_);refine BP BD rfl _ _ rfl (w.heap.size+1) (Ae (AR m 8 x)) (CY hm2) rfl rfl _ z1 rfl _ rfl ?_))
 refine Fa BD (p:=6) rfl rfl (w.heap.size+1) rfl (Ae (AR m 8 x)) hms (setRow_heap _ _ _ _ _ _ z1) ⟨rfl,Aj B1 (aH _) _⟩
theorem Aq3(m:An)(hm:BB m)(x:Int)(w:World):Calls aA 70 #[.agg (Ae m),.int .u8 115,.int .i64 x] w fun e w'=>e=.returned (.agg (Ae (AR m 9 x)))∧Below w.heap.size w w':=by
 have g0:((w.alloc (.cells (Ae m) 39)).alloc (.cells Ao 39)).heap[w.heap.size]?=some (.cells (Ae m) 39 (0,0)):=Ah _ _ _ _ (Ab _ _ _ rfl)
 have hc:((w.alloc (.cells (Ae m) 39)).alloc (.cells Ao 39)).cell? ⟨w.heap.size,10,none⟩=some (.int .i64 (Ad m 9)):=by
  rw[cell_of_row _ _ _ _ _ _ g0];exact BK hm 9 (by decide)
 have hf:((w.alloc (.cells (Ae m) 39)).alloc (.cells Ao 39)).frozen? ⟨w.heap.size,10,none⟩=false:=frozen_of_row _ _ _ _ _ g0;have hm2:=EU hm 9 x;have hms:=BG hm2;have es:=FK hm 9 (by decide) x;clear g0;go_enter aD,aC;go_wp2_with ((with_reducible refine Aw 39 _ rfl ?_);refine Dk ?_);unfold E6
 try rw[es]
 clear hc hf es;have g1:((w.alloc (.cells (Ae (AR m 9 x)) 39)).alloc (.cells Ao 39)).heap[w.heap.size]?=some (.cells (Ae (AR m 9 x)) 39 (0,0)):=Ah _ _ _ _ (Ab _ _ _ rfl);have z1:((w.alloc (.cells (Ae (AR m 9 x)) 39)).alloc (.cells Ao 39)).heap[w.heap.size+1]?=some (.cells Ao 39 (0,0)):=Ab _ _ _ (by simp);have B1:Below w.heap.size w ((w.alloc (.cells (Ae (AR m 9 x)) 39)).alloc (.cells Ao 39)):=((aB _ _).alloc (aG _) _).alloc (by simp) _
 go_wp2_with (first
  | ((with_reducible refine Aw 39 _ rfl ?_);refine AH BD rfl _ rfl w.heap.size 0 rfl _ _ _ (Ae (AR m 9 x)) hms g1 (Ar _ _) ?_)
  | ((with_reducible refine Bu 39 _ _ rfl ?_);refine BP BD rfl _ _ rfl (w.heap.size+1) (Ae (AR m 9 x)) (CY hm2) rfl rfl _ z1 rfl _ rfl ?_))
 refine Fa BD (p:=6) rfl rfl (w.heap.size+1) rfl (Ae (AR m 9 x)) hms (setRow_heap _ _ _ _ _ _ z1) ⟨rfl,Aj B1 (aH _) _⟩
theorem Aot(m:An)(hm:BB m)(x:Int)(w:World):Calls aA 70 #[.agg (Ae m),.int .u8 117,.int .i64 x] w fun e w'=>e=.returned (.agg (Ae (AR m 10 x)))∧Below w.heap.size w w':=by
 have g0:((w.alloc (.cells (Ae m) 39)).alloc (.cells Ao 39)).heap[w.heap.size]?=some (.cells (Ae m) 39 (0,0)):=Ah _ _ _ _ (Ab _ _ _ rfl)
 have hc:((w.alloc (.cells (Ae m) 39)).alloc (.cells Ao 39)).cell? ⟨w.heap.size,11,none⟩=some (.int .i64 (Ad m 10)):=by
  rw[cell_of_row _ _ _ _ _ _ g0];exact BK hm 10 (by decide)
 have hf:((w.alloc (.cells (Ae m) 39)).alloc (.cells Ao 39)).frozen? ⟨w.heap.size,11,none⟩=false:=frozen_of_row _ _ _ _ _ g0;have hm2:=EU hm 10 x;have hms:=BG hm2;have es:=FK hm 10 (by decide) x;clear g0;go_enter aD,aC;go_wp2_with ((with_reducible refine Aw 39 _ rfl ?_);refine Dk ?_);unfold E6
 try rw[es]
 clear hc hf es;have g1:((w.alloc (.cells (Ae (AR m 10 x)) 39)).alloc (.cells Ao 39)).heap[w.heap.size]?=some (.cells (Ae (AR m 10 x)) 39 (0,0)):=Ah _ _ _ _ (Ab _ _ _ rfl);have z1:((w.alloc (.cells (Ae (AR m 10 x)) 39)).alloc (.cells Ao 39)).heap[w.heap.size+1]?=some (.cells Ao 39 (0,0)):=Ab _ _ _ (by simp);have B1:Below w.heap.size w ((w.alloc (.cells (Ae (AR m 10 x)) 39)).alloc (.cells Ao 39)):=((aB _ _).alloc (aG _) _).alloc (by simp) _
 go_wp2_with (first
  | ((with_reducible refine Aw 39 _ rfl ?_);refine AH BD rfl _ rfl w.heap.size 0 rfl _ _ _ (Ae (AR m 10 x)) hms g1 (Ar _ _) ?_)
  | ((with_reducible refine Bu 39 _ _ rfl ?_);refine BP BD rfl _ _ rfl (w.heap.size+1) (Ae (AR m 10 x)) (CY hm2) rfl rfl _ z1 rfl _ rfl ?_))
 refine Fa BD (p:=6) rfl rfl (w.heap.size+1) rfl (Ae (AR m 10 x)) hms (setRow_heap _ _ _ _ _ _ z1) ⟨rfl,Aj B1 (aH _) _⟩
theorem Aos(m:An)(hm:BB m)(x:Int)(w:World):Calls aA 70 #[.agg (Ae m),.int .u8 113,.int .i64 x] w fun e w'=>e=.returned (.agg (Ae (AR m 11 x)))∧Below w.heap.size w w':=by
 have g0:((w.alloc (.cells (Ae m) 39)).alloc (.cells Ao 39)).heap[w.heap.size]?=some (.cells (Ae m) 39 (0,0)):=Ah _ _ _ _ (Ab _ _ _ rfl)
 have hc:((w.alloc (.cells (Ae m) 39)).alloc (.cells Ao 39)).cell? ⟨w.heap.size,12,none⟩=some (.int .i64 (Ad m 11)):=by
  rw[cell_of_row _ _ _ _ _ _ g0];exact BK hm 11 (by decide)
 have hf:((w.alloc (.cells (Ae m) 39)).alloc (.cells Ao 39)).frozen? ⟨w.heap.size,12,none⟩=false:=frozen_of_row _ _ _ _ _ g0;have hm2:=EU hm 11 x;have hms:=BG hm2;have es:=FK hm 11 (by decide) x;clear g0;go_enter aD,aC;go_wp2_with ((with_reducible refine Aw 39 _ rfl ?_);refine Dk ?_);unfold E6
 try rw[es]
 clear hc hf es;have g1:((w.alloc (.cells (Ae (AR m 11 x)) 39)).alloc (.cells Ao 39)).heap[w.heap.size]?=some (.cells (Ae (AR m 11 x)) 39 (0,0)):=Ah _ _ _ _ (Ab _ _ _ rfl);have z1:((w.alloc (.cells (Ae (AR m 11 x)) 39)).alloc (.cells Ao 39)).heap[w.heap.size+1]?=some (.cells Ao 39 (0,0)):=Ab _ _ _ (by simp);have B1:Below w.heap.size w ((w.alloc (.cells (Ae (AR m 11 x)) 39)).alloc (.cells Ao 39)):=((aB _ _).alloc (aG _) _).alloc (by simp) _
 go_wp2_with (first
  | ((with_reducible refine Aw 39 _ rfl ?_);refine AH BD rfl _ rfl w.heap.size 0 rfl _ _ _ (Ae (AR m 11 x)) hms g1 (Ar _ _) ?_)
  | ((with_reducible refine Bu 39 _ _ rfl ?_);refine BP BD rfl _ _ rfl (w.heap.size+1) (Ae (AR m 11 x)) (CY hm2) rfl rfl _ z1 rfl _ rfl ?_))
 refine Fa BD (p:=6) rfl rfl (w.heap.size+1) rfl (Ae (AR m 11 x)) hms (setRow_heap _ _ _ _ _ _ z1) ⟨rfl,Aj B1 (aH _) _⟩
theorem Aor(m:An)(hm:BB m)(x:Int)(w:World):Calls aA 70 #[.agg (Ae m),.int .u8 108,.int .i64 x] w fun e w'=>e=.returned (.agg (Ae (AR m 12 x)))∧Below w.heap.size w w':=by
 have g0:((w.alloc (.cells (Ae m) 39)).alloc (.cells Ao 39)).heap[w.heap.size]?=some (.cells (Ae m) 39 (0,0)):=Ah _ _ _ _ (Ab _ _ _ rfl)
 have hc:((w.alloc (.cells (Ae m) 39)).alloc (.cells Ao 39)).cell? ⟨w.heap.size,13,none⟩=some (.int .i64 (Ad m 12)):=by
  rw[cell_of_row _ _ _ _ _ _ g0];exact BK hm 12 (by decide)
 have hf:((w.alloc (.cells (Ae m) 39)).alloc (.cells Ao 39)).frozen? ⟨w.heap.size,13,none⟩=false:=frozen_of_row _ _ _ _ _ g0;have hm2:=EU hm 12 x;have hms:=BG hm2;have es:=FK hm 12 (by decide) x;clear g0;go_enter aD,aC;go_wp2_with ((with_reducible refine Aw 39 _ rfl ?_);refine Dk ?_);unfold E6
 try rw[es]
 clear hc hf es;have g1:((w.alloc (.cells (Ae (AR m 12 x)) 39)).alloc (.cells Ao 39)).heap[w.heap.size]?=some (.cells (Ae (AR m 12 x)) 39 (0,0)):=Ah _ _ _ _ (Ab _ _ _ rfl);have z1:((w.alloc (.cells (Ae (AR m 12 x)) 39)).alloc (.cells Ao 39)).heap[w.heap.size+1]?=some (.cells Ao 39 (0,0)):=Ab _ _ _ (by simp);have B1:Below w.heap.size w ((w.alloc (.cells (Ae (AR m 12 x)) 39)).alloc (.cells Ao 39)):=((aB _ _).alloc (aG _) _).alloc (by simp) _
 go_wp2_with (first
  | ((with_reducible refine Aw 39 _ rfl ?_);refine AH BD rfl _ rfl w.heap.size 0 rfl _ _ _ (Ae (AR m 12 x)) hms g1 (Ar _ _) ?_)
  | ((with_reducible refine Bu 39 _ _ rfl ?_);refine BP BD rfl _ _ rfl (w.heap.size+1) (Ae (AR m 12 x)) (CY hm2) rfl rfl _ z1 rfl _ rfl ?_))
 refine Fa BD (p:=6) rfl rfl (w.heap.size+1) rfl (Ae (AR m 12 x)) hms (setRow_heap _ _ _ _ _ _ z1) ⟨rfl,Aj B1 (aH _) _⟩
theorem Aao(m:An)(hm:BB m)(j:Nat)(hj:j<13)(x:Int)(w:World):Calls aA 70 #[.agg (Ae m),.int .u8 ((DY j:Nat):Int),.int .i64 x] w fun e w'=>e=.returned (.agg (Ae (AR m j x)))∧Below w.heap.size w w':=by
 match j,hj with
 | 0,_=>exact Aqc m hm x w
 | 1,_=>exact Aqb m hm x w
 | 2,_=>exact Aqa m hm x w
 | 3,_=>exact Aq9 m hm x w
 | 4,_=>exact Aq8 m hm x w
 | 5,_=>exact Aq7 m hm x w
 | 6,_=>exact Aq6 m hm x w
 | 7,_=>exact Aq5 m hm x w
 | 8,_=>exact Aq4 m hm x w
 | 9,_=>exact Aq3 m hm x w
 | 10,_=>exact Aot m hm x w
 | 11,_=>exact Aos m hm x w
 | 12,_=>exact Aor m hm x w
 | j+13,hj=>omega
theorem MR{k:Int}{p j:Nat}(hj:(AQ k)[p]?=some j):(((AQ k).take (p+1)).map Cm).sum=(((AQ k).take p).map Cm).sum+Cm j:=by
 rw[List.take_add_one,hj];simp
theorem YE(k:Int)(w:World):Calls aA 67 #[.int .i64 k] w fun e w'=>e=.returned (.int .i64 ((Hc k:Nat):Int))∧w'=w:=by
 have CF:Hid (∀W,Calls aA 66 #[.int .i64 k] W fun e w'=>e=.returned (.string (DI k))∧w'=W):=fun W=>IOx k W;have HIX:Hid (∀(i j:Nat),(AQ k)[i]?=some j→∀W,(Instr.index 9 (.string (DI k)) (.int .i64 (i:Int))).run aA W=.ok (.int .u8 ((DY j:Nat):Int)) W):=fun i j h W=>Abc h W;obtain⟨s,hs⟩:=eX (DI k);obtain⟨n,hn⟩:=eX ((AQ k).length);have HN:Hid _:=hn;have hsz:s.size=n:=by rw[hs,hn,LM]
 have hn8:n≤8:=by rw[hn];exact MF k
 rw[←hs] at CF HIX;clear hs hn;go_enter Tryz.func67,Tryz.ntmps67;go_wp2_with (go_at_call 66;refine(CF.out _).mono ?_;rintro e w1 ⟨rfl,rfl⟩);go_loop [4,5] (fun a i=> ∃p:Nat,p≤n∧i=.int .i64 (p:Int)∧∃q:Nat,q=(((AQ k).take p).map Cm).sum∧a=.int .i64 (q:Int)) (fun _ i=>n-(intOf i).toNat)
 case atStart=>exact⟨0,aX _,rfl,0,rfl,rfl⟩
 case round=>
  obtain⟨p,hp,rfl,q,hq,rfl⟩:=hrel;have HQ:Hid _:=hq;have hq2:q≤208:=by rw[hq];exact Adl k p
  clear hq;by_cases hlt:p<n
  ·obtain⟨j,hj⟩:∃j,(AQ k)[p]?=some j:=⟨_,List.getElem?_eq_getElem (by rw[←HN.out];exact hlt)⟩;have hix:=HIX.out p j hj;have hj15:=MG k j (List.mem_of_getElem? hj);have h13:(((DY j:Nat):Int)==67)=decide (j=13):=Ka (j:=13) hj15 (by decide);have h14:(((DY j:Nat):Int)==72)=decide (j=14):=Ka (j:=14) hj15 (by decide);obtain⟨c,hc⟩:∃c:Int,c=((DY j:Nat):Int):=⟨_,rfl⟩;rw[←hc] at hix h13 h14;have HS:Hid ((((AQ k).take (p+1)).map Cm).sum=q+Cm j):=by show _=_;rw[MR hj,HQ.out]
   clear hc hj;by_cases e13:j=13
   ·rw[decide_eq_true e13] at h13;have HS2:Hid ((((AQ k).take (p+1)).map Cm).sum=q+26):=by show _=_;rw[HS.out,e13];rfl
    clear e13 h14;go_wp2_with fail;go_round
    case rel=>exact⟨p+1,by omega,by go_num,q+26,HS2.out.symm,by go_num⟩
    case measure=>simp[intOf];omega
   ·rw[decide_eq_false e13] at h13;by_cases e14:j=14
    ·rw[decide_eq_true e14] at h14;have HS2:Hid ((((AQ k).take (p+1)).map Cm).sum=q+13):=by show _=_;rw[HS.out,e14];rfl
     clear e13 e14;go_wp2_with fail;go_round
     case rel=>exact⟨p+1,by omega,by go_num,q+13,HS2.out.symm,by go_num⟩
     case measure=>simp[intOf];omega
    ·rw[decide_eq_false e14] at h14;have HS2:Hid ((((AQ k).take (p+1)).map Cm).sum=q+6):=by show _=_;rw[HS.out,LN (by omega)]
     clear e13 e14;go_wp2_with fail;go_round
     case rel=>exact⟨p+1,by omega,by go_num,q+6,HS2.out.symm,by go_num⟩
     case measure=>simp[intOf];omega
  ·obtain rfl:p=n:=by omega
   have HR:Hid (q=Hc k):=by
    have:=HQ.out;rw[HN.out,List.take_length] at this;exact this
   go_wp2_with fail;go_ret;rw[←HR.out];exact⟨rfl,rfl⟩
end
section
open Go.RowKit
theorem Ae3(v:Value)(L:List UInt8)(p s:Int)(w:World)(hL:Br w v L):
  Calls aA 69 #[v,.int .i64 p,.int .i64 s] w fun e w'=>e=.returned (.tuple #[.int .u64 ((Fg L p s).1:Int),.int .i64 (Fg L p s).2])∧w'=w:=by
 have HL:Hid (Br w v L):=hL;obtain⟨ov,cv,hv,hc1,hc2⟩:=hL.slice;subst hv;clear hL;obtain⟨n,hn⟩:=eX L.length;have HN:Hid (n=L.length):=hn;rw[←hn] at HL hc1 ⊢;clear hn;unfold maxLen at hc2;by_cases hc:IF s=true
 ·have hs:=(Lw s).1 hc;obtain⟨m,rfl⟩:∃m:Nat,s=m:=⟨s.toNat,by omega⟩;have hs1:1≤(m:Int):=hs.1;have hs2:(m:Int)≤8:=hs.2;by_cases h0:0≤p
  ·obtain⟨q,rfl⟩:∃q:Nat,p=q:=⟨p.toNat,by omega⟩;by_cases hr:q+m≤n
   ·have HP:Hid (Fg L q m=(Dv ((L.drop q).take m),0)):=by
     show _=_;unfold Fg;rw[if_pos ⟨hc,h0⟩,if_pos (by rw[←HN.out];omega)];simp
    have hg:¬(n:Int)-m<q:=by omega
    clear hc hs;go_enter aP,aN;go_wp2_with fail;go_loop [8,9] (fun a i=> ∃k:Nat,k≤m∧i=.int .i64 k∧a=.int .u64 (Dv (((L.drop q).take m).take k):Int)) (fun _ i=>m-(intOf i).toNat)
    case atStart=>exact⟨0,aX _,rfl,rfl⟩
    case round=>
     obtain⟨k,hk,rfl,rfl⟩:=hrel;by_cases hlt:k<m
     ·obtain⟨g,off,c,rfl,hcc,hck⟩:=HL.out.at (q+k) (by omega)
      have HD:Hid (((L.drop q).take m)[k]?=some c):=by
       show _=_;rw[List.getElem?_take_of_lt hlt,List.getElem?_drop,hck]
      have hml:((L.drop q).take m).length=m:=by simp;rw[←HN.out];omega
      have HV:Hid (Dv (((L.drop q).take m).take (k+1))=Dv (((L.drop q).take m).take k)*256+c.toNat):=UK _ k c HD.out;have hv:=St ((L.drop q).take m) k (by omega) (by omega);obtain⟨x,hx⟩:=eX (Dv (((L.drop q).take m).take k));rw[←hx] at HV hv ⊢;have hcl:=c.toNat_lt;clear hx hck hml;go_wp2_with fail;refine⟨⟨k+1,by omega,by go_num,?_⟩,by simp[intOf];omega⟩;rw[HV.out]
      first | go_num | rfl
     ·obtain rfl:k=m:=by omega
      go_wp2_with fail;go_ret2;rw[HP.out,aQ (by simp;omega)];exact⟨rfl,rfl⟩
   ·have HP:Hid (Fg L q m=(0,12)):=by
     show _=_;unfold Fg;rw[if_pos ⟨hc,h0⟩,if_neg (by rw[←HN.out];omega)]
    have hg:(n:Int)-m<q:=by omega
    clear hc hs;go_enter aP,aN;go_wp2_with fail;go_ret2;rw[HP.out];exact⟨rfl,rfl⟩
  ·have HP:Hid (Fg L p m=(0,1)):=by
    show _=_;unfold Fg;rw[if_neg (fun h=>h0 h.2)]
   clear hc hs;have h0':p<0:=by omega
   go_enter aP,aN;go_wp2_with fail;go_ret2;rw[HP.out];exact⟨rfl,rfl⟩
 ·have HP:Hid (Fg L p s=(0,1)):=by
   show _=_;unfold Fg;rw[if_neg (fun h=>hc h.1)]
  have hc':s<1∨8<s:=by have:=mt (Lw s).2 hc;omega
  clear hc;rcases hc' with hc' | hc'
  all_goals
   go_enter aP,aN;go_wp2_with fail;go_ret2;rw[HP.out];exact⟨rfl,rfl⟩
theorem Br.later{w:World}{o:Option Addr}{n cap:Nat}{L:List UInt8}(h:Br w (.slice o n cap) L)(g off:Nat)(ho:o=some ⟨g,off,none⟩)(k:Nat)(c:UInt8)(hk:L[k]?=some c):∀u:Am w,u.world.cell? ⟨g,off+k,none⟩=some (.int .u8 (c.toNat:Int)):=fun u=>by
 have hkl:=(List.getElem?_eq_some_iff.1 hk).1
 obtain⟨g',off',c',e,hc,hc'⟩:=(h.below u.below).at k (by rw[h.len];exact hkl)
 rw[ho] at e
 simp only[Option.some.injEq,Addr.mk.injEq,and_true] at e
 obtain⟨rfl,rfl⟩:=e
 rw[hk] at hc'
 obtain rfl:=Option.some.inj hc'
 exact hc
theorem Vz(c:UInt8)(w:World):(convert 5 3 (.int .u8 (c.toNat:Int))).run aA w=.ok (.int .i64 (c.toNat:Int)) w:=by
 have:=c.toNat_lt;simp[convert,run_underlying Tryz.underlying5,run_underlying Tryz.underlying3,go_sem];rw[IntKind.wrap_i64];omega
theorem YG(a b c:UInt8)(body:List UInt8):DE (a::b::c::body)=if a.toNat*256+b.toNat=body.length then ((c.toNat:Int),body,0) else (0,[],12):=by
 show(match (if a.toNat*256+b.toNat=body.length then some (c.toNat,body) else none) with | some (k,body)=>((k:Int),body,(0:Int)) | none=>(0,[],12))=_;split <;> split <;> simp_all
theorem Ae9(v:Value)(L:List UInt8)(w:World)(hL:Br w v L)(hl:L.length≤140737488355328):
  Calls aA 65 #[v] w fun e w'=> ∃u,e=.returned (.tuple #[.int .i64 (DE L).1,u,.int .i64 (DE L).2.2])∧AB w.heap.size w' u (DE L).2.1∧Below w.heap.size w w':=by
 have HL:Hid (Br w v L):=hL;obtain⟨ov,cv,hv,hc1,hc2⟩:=hL.slice;subst hv;clear hL;have hcm:=hc2;unfold maxLen at hc2;have ne0:=Am.ne w;by_cases h3:3≤L.length
 ·obtain⟨a,b,c,body,rfl⟩:∃a b c body,L=a::b::c::body:=by
   match L,h3 with
   | a::b::c::body,_=>exact⟨a,b,c,body,rfl⟩
  obtain⟨n,hn⟩:=eX ((a::b::c::body).length);have HN:Hid (n=body.length+3):=by show _=_;rw[hn];simp
  rw[←hn] at HL hc1 hl h3 ⊢;clear hn;obtain⟨g,off,_,rfl,_,_⟩:=HL.out.at 2 (by omega);have c0:=HL.out.later g off rfl 0 a rfl;rw[Nat.add_zero] at c0;have c1:=HL.out.later g off rfl 1 b rfl;have c2:=HL.out.later g off rfl 2 c rfl;have HT:=YG a b c body;have ha:=a.toNat_lt;have hb:=b.toNat_lt;obtain⟨x,hx⟩:=eX a.toNat;obtain⟨y,hy⟩:=eX b.toNat;rw[←hx] at c0 HT ha;rw[←hy] at c1 HT hb;clear hx hy;have d3:decide ((n:Int)<3)=false:=by simp;omega
  by_cases hq:x*256+y=body.length
  ·rw[if_pos hq] at HT;have HP:Hid (DE (a::b::c::body)=((c.toNat:Int),body,0)):=HT;have hqi:((x:Int)*256+(y:Int)==(n:Int)-3)=true:=by have:=HN.out;rw[beq_iff_eq];omega
   clear HT hq;have HR:Hid (Br w.drew (.slice (some ⟨g,off,none⟩) n cv) (a::b::c::body)):=HL.out.below (aB _ _).drew;by_cases hc3:cv=3
   focus
    subst hc3;obtain rfl:n=3:=by omega
    obtain rfl:body=[]:=List.eq_nil_of_length_eq_zero (by have:=HN.out;omega);have HBd:Hid (∀u:Am w,Br u.world (.slice (some ⟨g,off,none⟩) 0 0) []):=fun u=>X5 _ _ _ (aX _);go_enter aR,aO;go_wp2_with fail;refine rL ?_
    repeat go_big_quiet_step (fail)
    refine wpQuiet_nil ?_;rintro W ⟨u,hu⟩;have hWb:Below w.heap.size w W:=by rw[hu];exact u.below
    clear hu u;go_wp2_with fail;have ne1:=Am.ne W;have k2:∀u:Am W,u.world.cell? ⟨g,off+2,none⟩=some (.int .u8 (c.toNat:Int)):=fun z=>c2 ⟨z.world,hWb.trans (z.below.mono hWb.size)⟩
    have CB2:Hid (∀u:Am W,Calls aA 105 #[.slice (some ⟨g,off,none⟩) 0 0] u.world fun e w'=> ∃v,e=.returned v∧AB w.heap.size w' v []∧Below W.heap.size W w'):=fun z=>by
     refine(Mm _ [] z.world (HBd.out ⟨z.world,hWb.trans (z.below.mono hWb.size)⟩) (by have:=HN.out;first|(simp;done) | omega)).mono ?_;rintro e w' ⟨v,rfl,h1,h2⟩;exact⟨v,rfl,h1.base (Nat.le_trans hWb.size z.below.size),z.below.trans (h2.mono z.below.size)⟩
    clear c2;refine EZ (fun a a' w'=> ∃u y24 y25 y26 y27 y28 y29 y30,a'=((((((((((a.put (some 24) y24).put (some 25) y25).put (some 26) y26).put (some 27) y27).put (some 28) y28).put (some 29) y29).put (some 30) y30).put (some 2) (.int .i64 (c.toNat:Int))).put (some 3) u).put (some 4) (.int .i64 0))∧AB w.heap.size w' u []∧Below W.heap.size W w') ?_ ?_
    ·refine Jj 10 rfl (by kernel_rfl) ?_;refine rE 0 3 7 ⟨⟨W.drew,(aB _ _).drew⟩,rfl⟩ ?_;simp only[aK,aI,aL]
     iterate 3 (go_big_quiet_step (fail))
     refine wpQuiet_nil ?_;have e3:∀w,(convert 5 3 (.int .u8 (c.toNat:Int))).run aA w=.ok (.int .i64 (c.toNat:Int)) w:=fun w=>Vz c w;refine KA (i:=3) (v:=.int .i64 (c.toNat:Int)) (some 27) rfl rfl (by kernel_rfl) (by kernel_rfl) (by kernel_rfl) (fun c a w h=>absurd h.1 (by simp)) (.inl ⟨rfl,fun w _=> ?_⟩) ⟨⟨W.drew,(aB _ _).drew⟩,rfl⟩ ?_
     ·simp[execOp,Act.eval,e3]
     refine rE 4 2 4 ⟨⟨W.drew,(aB _ _).drew⟩,rfl⟩ ?_;simp only[aT,aK,aI,aL,Act.put,aM,aV,aW];go_big_quiet_step (fail);go_big_quiet_step (fail);refine wpQuiet_nil ?_;refine rO 6 ?_;refine Bm rfl rfl 105 #[.tmp 29] (by intro b w;have hf:=Tryz.func105;simp[go_sem]) #[.slice (some ⟨g,off,none⟩) 0 0] rfl (fun v w'=>AB w.heap.size w' v []∧Below W.heap.size W w') (CB2.out ⟨W.drew,(aB _ _).drew⟩) (some 30) rfl ?_;rintro z w4 ⟨ho4,hb4⟩;refine⟨⟨⟨w4,hb4⟩,rfl⟩,?_⟩;simp only[pU];refine rO 7 ?_;refine FR rfl rfl _ rfl (.int .i64 (c.toNat:Int)) rfl (some 2) rfl ?_;refine⟨⟨⟨w4,hb4⟩,rfl⟩,?_⟩;refine rO 8 ?_;refine FR rfl rfl _ rfl z rfl (some 3) rfl ?_;refine⟨⟨⟨w4,hb4⟩,rfl⟩,?_⟩;refine rO 9 ?_
     refine FR rfl rfl _ rfl (.int .i64 0) rfl (some 4) rfl ?_;refine⟨⟨⟨w4,hb4⟩,rfl⟩,?_⟩;refine rD ?_;exact⟨rfl,_,_,_,_,_,_,_,_,rfl,ho4,hb4⟩
   rotate_left
   focus
    have hc4:3<cv:=by omega
    have HBd:Hid (∀u:Am w,Br u.world (.slice (some ⟨g,off+3,none⟩) (n-3) (cv-3)) body):=fun u=>by
     have:=(HL.out.below u.below).part g off 3 (n-3) (cv-3) rfl (by omega) (by omega) (by omega);rw[aQ (by have:=HN.out;simp;omega)] at this;exact this
    go_enter aR,aO;go_wp2_with fail;refine rL ?_
    repeat go_big_quiet_step (fail)
    refine wpQuiet_nil ?_;rintro W ⟨u,hu⟩;have hWb:Below w.heap.size w W:=by rw[hu];exact u.below
    clear hu u;go_wp2_with fail;have ne1:=Am.ne W;have k2:∀u:Am W,u.world.cell? ⟨g,off+2,none⟩=some (.int .u8 (c.toNat:Int)):=fun z=>c2 ⟨z.world,hWb.trans (z.below.mono hWb.size)⟩
    have CB2:Hid (∀u:Am W,Calls aA 105 #[.slice (some ⟨g,off+3,none⟩) (n-3) (cv-3)] u.world fun e w'=> ∃v,e=.returned v∧AB w.heap.size w' v body∧Below W.heap.size W w'):=fun z=>by
     refine(Mm _ body z.world (HBd.out ⟨z.world,hWb.trans (z.below.mono hWb.size)⟩) (by have:=HN.out;first|(simp;done) | omega)).mono ?_;rintro e w' ⟨v,rfl,h1,h2⟩;exact⟨v,rfl,h1.base (Nat.le_trans hWb.size z.below.size),z.below.trans (h2.mono z.below.size)⟩
    clear c2;refine EZ (fun a a' w'=> ∃u y24 y25 y26 y27 y28 y29 y30,a'=((((((((((a.put (some 24) y24).put (some 25) y25).put (some 26) y26).put (some 27) y27).put (some 28) y28).put (some 29) y29).put (some 30) y30).put (some 2) (.int .i64 (c.toNat:Int))).put (some 3) u).put (some 4) (.int .i64 0))∧AB w.heap.size w' u body∧Below W.heap.size W w') ?_ ?_
    ·refine Jj 10 rfl (by kernel_rfl) ?_;refine rE 0 3 7 ⟨⟨W.drew,(aB _ _).drew⟩,rfl⟩ ?_;simp only[aK,aI,aL]
     iterate 3 (go_big_quiet_step (fail))
     refine wpQuiet_nil ?_;have e3:∀w,(convert 5 3 (.int .u8 (c.toNat:Int))).run aA w=.ok (.int .i64 (c.toNat:Int)) w:=fun w=>Vz c w;refine KA (i:=3) (v:=.int .i64 (c.toNat:Int)) (some 27) rfl rfl (by kernel_rfl) (by kernel_rfl) (by kernel_rfl) (fun c a w h=>absurd h.1 (by simp)) (.inl ⟨rfl,fun w _=> ?_⟩) ⟨⟨W.drew,(aB _ _).drew⟩,rfl⟩ ?_
     ·simp[execOp,Act.eval,e3]
     refine rE 4 2 4 ⟨⟨W.drew,(aB _ _).drew⟩,rfl⟩ ?_;simp only[aT,aK,aI,aL,Act.put,aM,aV,aW];go_big_quiet_step (fail);go_big_quiet_step (fail);refine wpQuiet_nil ?_;refine rO 6 ?_;refine Bm rfl rfl 105 #[.tmp 29] (by intro b w;have hf:=Tryz.func105;simp[go_sem]) #[.slice (some ⟨g,off+3,none⟩) (n-3) (cv-3)] rfl (fun v w'=>AB w.heap.size w' v body∧Below W.heap.size W w') (CB2.out ⟨W.drew,(aB _ _).drew⟩) (some 30) rfl ?_;rintro z w4 ⟨ho4,hb4⟩;refine⟨⟨⟨w4,hb4⟩,rfl⟩,?_⟩;simp only[pU];refine rO 7 ?_;refine FR rfl rfl _ rfl (.int .i64 (c.toNat:Int)) rfl (some 2) rfl ?_;refine⟨⟨⟨w4,hb4⟩,rfl⟩,?_⟩;refine rO 8 ?_;refine FR rfl rfl _ rfl z rfl (some 3) rfl ?_;refine⟨⟨⟨w4,hb4⟩,rfl⟩,?_⟩;refine rO 9 ?_
     refine FR rfl rfl _ rfl (.int .i64 0) rfl (some 4) rfl ?_;refine⟨⟨⟨w4,hb4⟩,rfl⟩,?_⟩;refine rD ?_;exact⟨rfl,_,_,_,_,_,_,_,_,rfl,ho4,hb4⟩
   all_goals
    ·rintro a' w4 ⟨z,y24,y25,y26,y27,y28,y29,y30,rfl,ho4,hb4⟩;simp only[pU];go_wp2_with fail;go_ret3;rw[HP.out];exact⟨z,rfl,ho4,hWb.trans (hb4.mono hWb.size)⟩
  ·rw[if_neg hq] at HT;have HP:Hid (DE (a::b::c::body)=(0,[],12)):=HT;have hqi:((x:Int)*256+(y:Int)==(n:Int)-3)=false:=by have:=HN.out;rw[beq_eq_false_iff_ne];omega
   clear HT hq;go_enter aR,aO;go_wp2_with fail;refine rL ?_
   repeat go_big_quiet_step (fail)
   refine wpQuiet_nil ?_;rintro w' ⟨u,rfl⟩;go_wp2_with fail;go_ret3;rw[HP.out];exact⟨_,rfl,AB.nil _ _,u.below⟩
 ·have HP:Hid (DE L=(0,[],12)):=by show _=_;unfold DE;rw[Rd L h3]
  obtain⟨n,hn⟩:=eX L.length;rw[←hn] at h3 hc1 ⊢;clear hn hl HL;have d3:decide ((n:Int)<3)=true:=by simp;omega
  go_enter aR,aO;go_wp2_with fail;refine rL ?_
  repeat go_big_quiet_step (fail)
  refine wpQuiet_nil ?_;rintro w' ⟨u,rfl⟩;go_wp2_with fail;go_ret3;rw[HP.out];exact⟨_,rfl,AB.nil _ _,u.below⟩
end
end Go.Proofs.YtbhkoipcpcoooaaGreat
