import Derived.Test.YtbhkoipcpcoooaaGreatJ4
import Derived.Test.YtbhkoipcpcoooaaGreatJ2
import Derived.Test.YtbhkoipcpcoooaaGreatJ3
import Derived.OwnWalk
import Derived.Deep.QuietTactic
import Derived.Lib.Hide
import Derived.Lib.Walk
import Derived.Test.YtbhkoipcpcoooaaGreatJ1
import Derived.Shelf.SlSortCmp.KitK
import Derived.Deep.LoopGhost
import Derived.Deep.CutRange
import Derived.Laws.AppendOwnNone
namespace Go.Proofs.YtbhkoipcpcoooaaGreat
set_option maxRecDepth 20000
set_option maxHeartbeats 64000000
open Go
open Go.Proofs.Tryz renaming prog → aA, ntmps180 → bJ, ntmps197 → bK, ntmps93 → bR, func180 → bS, func197 → bT, func93 → bX
open _root_.Array renaming length_toList → aB, getElem?_append_left → aC, size_append → aM, getElem?_toList → aV, getElem?_append_right → aY, getElem?_eq_none → bE, getElem?_modify → bI, all_append → bY
open _root_.List renaming getElem?_eq_some_iff → aD, mem_filter → aL, length_filter_le → aN, getElem?_take_of_lt → aP, filter_cons → aR, getElem?_eq_none → aT, length_append → aZ, mem_cons → bA, ext_getElem? → bB, getElem?_eq_getElem → bC, mem_iff_getElem? → bG, length_take → bZ, mem_append → cD, replicate → cF
open _root_.Nat renaming le_refl → aG, le_trans → aW, zero_le → aX, mul_comm → bD, one_mul → bF, le_div_iff_mul_le → bH, zero_add → bO, add_mul → bW, div_eq_of_lt → cC
open Go.Sem renaming run_bind → aH, run_pure → bQ
open Go.Result renaming andThen_ok → aI
open Go.Op renaming eqFields → aJ, equalIn → aQ
open Go.RowKit.Below renaming refl → aK, heap_alloc → cB
open _root_.Int renaming le_refl → aO
theorem Sz{α:Type}{p:α→Int}:∀ {l l':List α},Ge p l→Ge p l'→BZ p l l'→l=l'
 | [],[],_,_,_=>rfl
 | [],y::l',_,_,h=>by have:=h (p y);simp at this
 | x::l,[],_,_,h=>by have:=h (p x);simp at this
 | x::l,y::l',h1,h2,h=>by
  unfold Ge at h1 h2
  rw[List.pairwise_cons] at h1 h2
  have hxy:p x=p y:=by
   have m1:x∈(y::l').filter (fun z=>p z==p x):=by rw[←h (p x)];simp
   have m2:y∈(x::l).filter (fun z=>p z==p y):=by rw[h (p y)];simp
   have n1:p x≤p y:=by
    rcases bA.1 (aL.1 m1).1 with e | e
    ·rw[e];exact aO _
    ·exact h2.1 x e
   have n2:p y≤p x:=by
    rcases bA.1 (aL.1 m2).1 with e | e
    ·rw[e];exact aO _
    ·exact h1.1 y e
   omega
  have hx:=h (p x);rw[aR,aR,if_pos (by simp),if_pos (by simp[hxy])] at hx;obtain⟨rfl,ht⟩:=List.cons.inj hx;rw[Sz h1.2 h2.2 fun k=> ?_];by_cases hk:p x=k
  ·subst hk;exact ht
  ·have:=h k;rwa [aR,aR,if_neg (by simpa using hk),if_neg (by simpa using hk)] at this
def GF(x:Ai):Int:= -x.order
structure Aky where
 kind:Int
 now:Int
 slot:Ai
 head:List Int
section
variable (cn:Hn→Hn) (hs:Hn→List Int→Bool)
def E7(e:Int)(h:List Int)(x:Ai):Bool:=(x.epoch==e)&&hs x.cube h
def Sy(R:Rm)(S:Aq)(x:Aky):Aq:=
 if x.kind=1 then {S with c:=(Cr R.cache S.c (Co x.now x.slot.epoch (cn x.slot.cube) x.slot.action)).1}
 else if x.kind=2 then
  if x.slot.bank=2 then {S with a:=(I7 R.auth S.a x.slot (cn x.slot.cube)).1}
  else if x.slot.bank=3 then {S with p:=(I7 R.part S.p x.slot (cn x.slot.cube)).1}
  else S
 else if x.kind=3 then (DG S (E7 hs x.slot.epoch x.head) x.now).1
 else if x.kind=6 then JE S x.slot.epoch x.slot.place
 else if x.kind=7 then (QE R.idle R.hard x.now S).1
 else S
def Oy(Q:Hn→Prop)(n:Nat)(b:Int)(x:Ai):Prop:=x.bank=b∧0≤x.count∧x.count≤(n:Int)∧0≤x.used∧x.used≤Gu∧0≤x.born∧x.born≤Gu∧Q x.cube
structure PA(Q:Hn→Prop)(n:Nat)(R:Rm)(S:Aq):Prop where
 lc:S.c.length≤R.cache
 la:S.a.length≤R.auth
 lp:S.p.length≤R.part
 c:∀x∈S.c,Oy Q n 1 x
 a:∀x∈S.a,Oy Q n 2 x
 p:∀x∈S.p,Oy Q n 3 x
variable {cn hs} {Q:Hn→Prop}
theorem Oy.more{n:Nat}{b:Int}{x:Ai}(h:Oy Q n b x):Oy Q (n+1) b x:=by
 obtain⟨h1,h2,h3,h4⟩:=h;exact⟨h1,h2,by omega,h4⟩
theorem Ams(n:Nat)(now e:Int)(cu:Hn)(ac:Int)(h:Q cu):Oy Q n 1 (Co now e cu ac):=by
 have:=Rz now;exact⟨rfl,aO _,by simp[Co],this.1,this.2,this.1,this.2,h⟩
theorem Xj(n:Nat)(s:Ai)(cu:Hn)(h:Q cu):Oy Q n s.bank (Gi s cu):=
 ⟨rfl,aO _,by simp[Gi],aO _,by simp[Gi,Gu],aO _,by simp[Gi,Gu],h⟩
theorem Ahb{n:Nat}{q:Int}(now:Int)(b:Nat){x:Ai}(h:Oy Q n q x):Oy Q (n+1) q (Hz now b x):=by
 obtain⟨h1,h2,h3,h4,h5,h6⟩:=h;have ht:=Rz now;refine⟨h1,?_,?_,?_,?_,h6⟩
 ·show 0≤(if x.count<Gu then x.count+1 else x.count);split <;> omega
 ·show(if x.count<Gu then x.count+1 else x.count)≤_;split <;> omega
 ·show 0≤(if b=1 then BR now else x.used);split <;> omega
 ·show(if b=1 then BR now else x.used)≤_;split <;> omega
theorem Amw{P:Ai→Prop}{C A B:List Ai}{x x':Ai}(h:C=A++x::B)(hC:∀y∈C,P y)(hx:P x→P x'):∀y∈A++x'::B,P y:=by
 subst h;intro y hy;rcases cD.1 hy with h1 | h1
 ·exact hC y (by simp[h1])
 ·rcases bA.1 h1 with rfl | h1
  ·exact hx (hC x (by simp))
  ·exact hC y (by simp[h1])
theorem RJ{n:Nat}{q:Int}{now:Int}{b:Nat}{C A B:List Ai}{x:Ai}(h:C=A++x::B)(hC:∀y∈C,Oy Q n q y):(∀y∈A++Hz now b x::B,Oy Q (n+1) q y)∧(A++Hz now b x::B).length=C.length:=by
 refine⟨?_,by rw[h];simp⟩;subst h;intro y hy;rcases cD.1 hy with h1 | h1
 ·exact(hC y (by simp[h1])).more
 ·rcases bA.1 h1 with rfl | h1
  ·exact Ahb now b (hC x (by simp))
  ·exact(hC y (by simp[h1])).more
theorem PA.more{n:Nat}{R:Rm}{S:Aq}(h:PA Q n R S):PA Q (n+1) R S:=
 ⟨h.lc,h.la,h.lp,fun x hx=>(h.c x hx).more,fun x hx=>(h.a x hx).more,fun x hx=>(h.p x hx).more⟩
theorem Aja{n:Nat}{R:Rm}{S:Aq}(h:PA Q n R S)(mt:Ai→Bool)(now:Int):PA Q (n+1) R (DG S mt now).1:=by
 have hm:=h.more;rcases JY S mt with ⟨A,x,B,⟨h1,_⟩,e⟩ | ⟨_,A,x,B,⟨h1,_⟩,e⟩ | ⟨_,_,A,x,B,⟨h1,_⟩,e⟩ | ⟨_,_,_,e⟩
 ·unfold DG;rw[e];simp only[Lo,if_true];obtain⟨q1,q2⟩:=RJ (now:=now) (b:=1) h1 h.c;exact⟨by show _≤_;rw[q2];exact h.lc,hm.la,hm.lp,q1,hm.a,hm.p⟩
 ·unfold DG;rw[e];simp only[Lo,show¬(2:Nat)=1 by decide,if_false,if_true];obtain⟨q1,q2⟩:=RJ (now:=now) (b:=2) h1 h.a;exact⟨hm.lc,by show _≤_;rw[q2];exact h.la,hm.lp,hm.c,q1,hm.p⟩
 ·unfold DG;rw[e];simp only[Lo,show¬(3:Nat)=1 by decide,show¬(3:Nat)=2 by decide,if_false];obtain⟨q1,q2⟩:=RJ (now:=now) (b:=3) h1 h.p;exact⟨hm.lc,hm.la,by show _≤_;rw[q2];exact h.lp,hm.c,hm.a,q1⟩
 ·unfold DG;rw[e];exact hm
theorem Aj9{n:Nat}{R:Rm}{S:Aq}(h:PA Q n R S)(x:Aky)(hq:Q (cn x.slot.cube)):PA Q (n+1) R (Sy cn hs R S x):=by
 have hm:=h.more;unfold Sy;by_cases h1:x.kind=1
 ·rw[if_pos h1];exact⟨Ab7 _ _ _ h.lc,hm.la,hm.lp,Tc _ _ _ hm.c (Ams _ _ _ _ _ hq),hm.a,hm.p⟩
 rw[if_neg h1];by_cases h2:x.kind=2
 ·rw[if_pos h2];by_cases b2:x.slot.bank=2
  ·rw[if_pos b2];exact⟨hm.lc,Xd _ _ _ _ h.la,hm.lp,hm.c,RM _ _ _ _ hm.a (by have:=Xj (Q:=Q) (n+1) x.slot _ hq;rwa [b2] at this),hm.p⟩
  rw[if_neg b2];by_cases b3:x.slot.bank=3
  ·rw[if_pos b3];exact⟨hm.lc,hm.la,Xd _ _ _ _ h.lp,hm.c,hm.a,RM _ _ _ _ hm.p (by have:=Xj (Q:=Q) (n+1) x.slot _ hq;rwa [b3] at this)⟩
  rw[if_neg b3];exact hm
 rw[if_neg h2];by_cases h3:x.kind=3
 ·rw[if_pos h3];exact Aja h _ _
 rw[if_neg h3];by_cases h6:x.kind=6
 ·rw[if_pos h6];exact⟨aW (aN _ _) h.lc,aW (aN _ _) h.la,aW (aN _ _) h.lp,fun y hy=>hm.c y (aL.1 hy).1,fun y hy=>hm.a y (aL.1 hy).1,fun y hy=>hm.p y (aL.1 hy).1⟩
 rw[if_neg h6];by_cases h7:x.kind=7
 ·rw[if_pos h7];exact⟨aW (aN _ _) h.lc,hm.la,hm.lp,fun y hy=>hm.c y (aL.1 hy).1,hm.a,hm.p⟩
 rw[if_neg h7];exact hm
theorem An5(Q:Hn→Prop)(R:Rm):PA Q 0 R ⟨[],[],[]⟩:=⟨aX _,aX _,aX _,fun x hx=>by simp at hx,fun x hx=>by simp at hx,fun x hx=>by simp at hx⟩
end
section
open Go.RowKit
def AC(L:List Int):List Int:=(List.range 13).map fun i=>L.getD i 0
theorem AV(L:List Int):(AC L).length=13:=by simp[AC]
theorem EX{L:List Int}(h:L.length=13):AC L=L:=by
 apply bB;intro k;unfold AC;rcases Nat.lt_or_ge k 13 with hk | hk
 ·rw[List.getElem?_map,List.getElem?_range hk,Option.map_some,bC (by omega),List.getD,bC (by omega)];rfl
 ·rw[aT (by simpa using hk),aT (by omega)]
def Ac(x:Ai):Array Value:=
 #[.int .i64 x.bank,.int .i64 x.epoch,.int .i64 x.place,.int .i64 x.order]++cv (AC x.cube.1) (AC x.cube.2)++#[.int .i64 x.action,.int .i64 x.one,.int .i64 x.two,.int .i64 x.born,.int .i64 x.used,.int .i64 x.count]
theorem Bl(x:Ai):(Ac x).size=36:=by
 unfold Ac;simp only[aM,Bq _ _ (AV _) (AV _)];rfl
theorem PT(x:Ai):(Ac x).all (·.oneCell')=true:=by
 unfold Ac;rw[bY,bY,Ii];simp[Value.oneCell']
theorem Jg(x:Ai)(j:Nat)(hj:j<4):(Ac x)[j]?=#[Value.int .i64 x.bank,.int .i64 x.epoch,.int .i64 x.place,.int .i64 x.order][j]?:=by
 unfold Ac;rw[aC (by simp only[aM,Bq _ _ (AV _) (AV _)];simp;omega),aC (by simpa using hj)]
theorem Hb(x:Ai)(j:Nat)(hj:j<26):(Ac x)[4+j]?=(cv (AC x.cube.1) (AC x.cube.2))[j]?:=by
 unfold Ac;rw[aC (by simp only[aM,Bq _ _ (AV _) (AV _)];simp;omega),aY (by simp)];simp
theorem Gm(x:Ai)(j:Nat):(Ac x)[30+j]?=#[Value.int .i64 x.action,.int .i64 x.one,.int .i64 x.two,.int .i64 x.born,.int .i64 x.used,.int .i64 x.count][j]?:=by
 unfold Ac;rw[aY (by simp only[aM,Bq _ _ (AV _) (AV _)];simp)];simp only[aM,Bq _ _ (AV _) (AV _)];congr 1;simp
def EP:El:=⟨102,65,36,112,Ac AJ⟩
theorem PG:Ac AJ=#[.int .i64 0,.int .i64 0,.int .i64 0,.int .i64 0]++AE++#[.int .i64 0,.int .i64 0,.int .i64 0,.int .i64 0,.int .i64 0,.int .i64 0]:=by
 unfold Ac AJ;simp only[EX (L:=cF 13 0) (by simp),J7,JR];rfl
theorem Fs:EP.Ok:=⟨Tryz.underlying65,⟨_,Tryz.underlying102,rfl⟩,by
  show _=some (some (Value.agg (Ac AJ)),_,_)
  rw[PG];kernel_rfl,Bl _,by decide,by decide,by decide⟩
theorem Kn(x:Ai):PB EP (Ac x):=⟨Bl x,PT x⟩
structure NR(w:World)(g off:Nat)(x:Ai):Prop where
 c0:w.cell? ⟨g,off,none⟩=some (.int .i64 x.bank)
 c1:w.cell? ⟨g,off+1,none⟩=some (.int .i64 x.epoch)
 c2:w.cell? ⟨g,off+2,none⟩=some (.int .i64 x.place)
 c3:w.cell? ⟨g,off+3,none⟩=some (.int .i64 x.order)
 c30:w.cell? ⟨g,off+30,none⟩=some (.int .i64 x.action)
 c31:w.cell? ⟨g,off+31,none⟩=some (.int .i64 x.one)
 c32:w.cell? ⟨g,off+32,none⟩=some (.int .i64 x.two)
 c33:w.cell? ⟨g,off+33,none⟩=some (.int .i64 x.born)
 c34:w.cell? ⟨g,off+34,none⟩=some (.int .i64 x.used)
 c35:w.cell? ⟨g,off+35,none⟩=some (.int .i64 x.count)
theorem GU{w:World}{g off:Nat}{cur:Array Value}{ty:TypeId}{fr:Nat×Nat}{x:Ai}(hg:w.heap[g]?=some (.cells cur ty fr))(hc:∀j,j<36→cur[off+j]?=(Ac x)[j]?):NR w g off x:=by
 have key:∀j v,j<36→(Ac x)[j]?=some v→w.cell? ⟨g,off+j,none⟩=some v:=fun j v hj hv=>by
  rw[cell_of_row w g (off+j) cur ty fr hg,hc j hj,hv]
 refine⟨key 0 _ (by decide) ?_,key 1 _ (by decide) ?_,key 2 _ (by decide) ?_,key 3 _ (by decide) ?_,key 30 _ (by decide) ?_,key 31 _ (by decide) ?_,key 32 _ (by decide) ?_,key 33 _ (by decide) ?_,key 34 _ (by decide) ?_,key 35 _ (by decide) ?_⟩
 ·rw[Jg x 0 (by decide)];rfl
 ·rw[Jg x 1 (by decide)];rfl
 ·rw[Jg x 2 (by decide)];rfl
 ·rw[Jg x 3 (by decide)];rfl
 ·exact(Gm x 0).trans rfl
 ·exact(Gm x 1).trans rfl
 ·exact(Gm x 2).trans rfl
 ·exact(Gm x 3).trans rfl
 ·exact(Gm x 4).trans rfl
 ·exact(Gm x 5).trans rfl
theorem E8{w:World}{g:Nat}{ty:TypeId}{fr:Nat×Nat}{x:Ai}(hg:w.heap[g]?=some (.cells (Ac x) ty fr)):NR w g 0 x:=GU hg fun j _=>by rw[bO]
theorem NR.below{w w':World}{g off:Nat}{x:Ai}(h:NR w g off x)(hb:w'.heap[g]?=w.heap[g]?):NR w' g off x:=by
 have e:∀k,w'.cell? ⟨g,k,none⟩=w.cell? ⟨g,k,none⟩:=fun k=>World.cell?_of_block hb;exact⟨(e _).trans h.c0,(e _).trans h.c1,(e _).trans h.c2,(e _).trans h.c3,(e _).trans h.c30,(e _).trans h.c31,(e _).trans h.c32,(e _).trans h.c33,(e _).trans h.c34,(e _).trans h.c35⟩
def GK(c:Hn):Prop:=AK c.1∧AK c.2
theorem Rv:GK AJ.cube:=by
 have:AK (cF 13 (0:Int)):=⟨by simp,fun k=>by
  rw[List.getD,List.getElem?_replicate];split <;> simp⟩
 exact⟨this,this⟩
theorem Ahk{x y:Ai}(h0:x.bank=y.bank)(h1:x.epoch=y.epoch)(h2:x.place=y.place)(h3:x.order=y.order)(h4:x.cube=y.cube)(h5:x.action=y.action)(h6:x.one=y.one)(h7:x.two=y.two)(h8:x.born=y.born)(h9:x.used=y.used)(h10:x.count=y.count):x=y:=by
 cases x;cases y;simp_all
def Md(x y:Ai):Bool:=x.bank==y.bank&&(x.epoch==y.epoch&&(x.place==y.place&&(x.order==y.order&&((AC x.cube.1==AC y.cube.1&&AC x.cube.2==AC y.cube.2)&&(x.action==y.action&&(x.one==y.one&&(x.two==y.two&&(x.born==y.born&&(x.used==y.used&&x.count==y.count)))))))))
theorem ZS{x y:Ai}(hx:GK x.cube)(hy:GK y.cube):Md x y=true↔x=y:=by
 unfold Md;rw[EX hx.1.1,EX hx.2.1,EX hy.1.1,EX hy.2.1];simp only[Bool.and_eq_true,beq_iff_eq];constructor
 ·rintro⟨a,b,c,d,⟨e1,e2⟩,f,g,h,i,j,k⟩;exact Ahk a b c d (Prod.ext e1 e2) f g h i j k
 ·rintro rfl;simp
theorem XJ(x:Ai):Md x x=true:=by unfold Md;simp
theorem Ara(d:Nat)(V M V' M':List Int)(hV:V.length=13)(hM:M.length=13)(hV':V'.length=13)(hM':M'.length=13)(w:World):
  (aQ (d+3) 37 (.agg (cv V M)) (.agg (cv V' M'))).run aA w=.ok (V==V'&&M==M') w:=by
 have eH:∀A B:List Int,A.length=13→B.length=13→∀w,(aQ (d+2) 35 (.agg (hv A)) (.agg (hv B))).run aA w=.ok (A==B) w:=fun A B hA hB w=>by
  have z5:(sizeOf 5).run aA w=.ok 1 w:=by kernel_rfl
  rw[show d+2=(d+1)+1 from rfl,aQ];simp only[aH,run_underlying Tryz.underlying35,aI,z5];simp only[Std.Legacy.Range.forIn_eq_forIn_range',Std.Legacy.Range.size,Nat.sub_zero,Nat.add_sub_cancel,Nat.div_one];rw[←Qy A B hA hB];exact V7 d A B hA hB w _ rfl rfl (List.range' 0 13) (fun i hi=>by simp at hi;omega)
 rw [show d + 3 = (d + 2) + 1 from rfl, run_equalIn_struct w (d + 2) 37 _ _ (by kernel_rfl) (by kernel_rfl)]; rw [show (aA.fieldsOf 37).toList = [{ name := "Value", type := 35, offset := 0, embedded := false, tag := "", pkgPath := "", byteOffset := 0 }, { name := "Mask", type := 35, offset := 13, embedded := false, tag := "", pkgPath := "", byteOffset := 13 }] from by kernel_rfl]; simp only [aJ, ne_eq, String.reduceEq, not_false_eq_true, if_true, aH]; simp only [Jk V M hV, Jk V' M' hV', aI, eH V V' hV hV']
 cases hA:(V==V')
 ·simp
 ·simp only[Bool.not_true,Bool.false_eq_true,if_false,aH,Ip V M hV hM,Ip V' M' hV' hM',aI,eH M M' hM hM']
  cases hB:(M==M') <;> simp
theorem Arb(V M V' M':List Int)(hV:V.length=13)(hM:M.length=13)(hV':V'.length=13)(hM':M'.length=13)(w:World):(aQ 9999 37 (.agg (cv V M)) (.agg (cv V' M'))).run aA w=.ok (V==V'&&M==M') w:=by
 rw[show(9999:Nat)=9996+3 from rfl];exact Ara 9996 V M V' M' hV hM hV' hM' w
theorem WP{x:Ai}{j:Nat}{z:Int}(h:(Ac x)[j]?=some (.int .i64 z))(w:World):(part 3 (Ac x) j).run aA w=.ok (.int .i64 z) w:=by
 have hz:∀w,(sizeOf 3).run aA w=.ok 1 w:=fun w=>by kernel_rfl
 have ha:∀w,(isAgg 3).run aA w=.ok false w:=fun w=>by kernel_rfl
 simp[part,ha,h,aH]
theorem U3(x:Ai)(w:World):(part 37 (Ac x) 4).run aA w=.ok (.agg (cv (AC x.cube.1) (AC x.cube.2))) w:=by
 have hz:∀w,(sizeOf 37).run aA w=.ok 26 w:=fun w=>by kernel_rfl
 have ha:∀w,(isAgg 37).run aA w=.ok true w:=fun w=>by kernel_rfl
 have e:(Ac x).extract 4 30=cv (AC x.cube.1) (AC x.cube.2):=by
  apply Array.ext_getElem?;intro k;by_cases hk:k<26
  ·rw[Array.getElem?_extract,if_pos (by rw[Bl];omega),Hb x k hk]
  ·rw[bE (by rw[Array.size_extract,Bl];omega),bE (by rw[Bq _ _ (AV _) (AV _)];omega)]
 simp[part,ha,hz,aH,e]
theorem XK {xs ys : Array Value} {f : Field} {fs : List Field} {u v : Value} {b : Bool} {w : World} (hn : (f.name ≠ "_") = True) (hx : (part f.type xs f.offset).run aA w = .ok u w) (hy : (part f.type ys f.offset).run aA w = .ok v w) (he : (aQ 9999 f.type u v).run aA w = .ok b w) {r : Bool} (hr : (aJ 9999 xs ys fs).run aA w = .ok r w) :
  (aJ 9999 xs ys (f::fs)).run aA w=.ok (b&&r) w:=by
 cases b
 ·simp only[aJ,hn,if_true,aH,hx,hy,he,aI,Bool.not_false,bQ,Bool.false_and]
 ·simp only[aJ,hn,if_true,aH,hx,hy,he,aI,Bool.not_true,Bool.false_eq_true,if_false,hr,Bool.true_and]
theorem IU (x y : Ai) (w : World) (n : String) (o q : Nat) (fs : List Field) (a b : Int) (hn : (n ≠ "_") = True) (hx : (Ac x)[o]? = some (.int .i64 a)) (hy : (Ac y)[o]? = some (.int .i64 b)) (r : Bool) (hr : (aJ 9999 (Ac x) (Ac y) fs).run aA w = .ok r w) :
  (aJ 9999 (Ac x) (Ac y) ({ name := n, type := 3, offset := o, embedded := false, tag := "", pkgPath := "", byteOffset := q } :: fs)).run aA w = .ok ((a == b) && r) w :=
 XK (u := .int .i64 a) (v := .int .i64 b) (b := a == b) (f := { name := n, type := 3, offset := o, embedded := false, tag := "", pkgPath := "", byteOffset := q }) hn (WP hx w) (WP hy w) (run_equalIn_int w 9998 3 .i64 .i64 _ _ Tryz.underlying3) hr
theorem Ak1 (x y : Ai) (w : World) (n : String) (q : Nat) (fs : List Field) (hn : (n ≠ "_") = True) (r : Bool) (hr : (aJ 9999 (Ac x) (Ac y) fs).run aA w = .ok r w) :
  (aJ 9999 (Ac x) (Ac y) ({ name := n, type := 37, offset := 4, embedded := false, tag := "", pkgPath := "", byteOffset := q } :: fs)).run aA w = .ok ((AC x.cube.1 == AC y.cube.1 && AC x.cube.2 == AC y.cube.2) && r) w :=
 XK (u := .agg (cv (AC x.cube.1) (AC x.cube.2))) (v := .agg (cv (AC y.cube.1) (AC y.cube.2))) (f := { name := n, type := 37, offset := 4, embedded := false, tag := "", pkgPath := "", byteOffset := q }) hn (U3 x w) (U3 y w) (Arb _ _ _ _ (AV _) (AV _) (AV _) (AV _) w) hr
theorem Apd(x y:Ai)(w:World):(aQ 10000 102 (.agg (Ac x)) (.agg (Ac y))).run aA w=.ok (Md x y) w:=by
 have p0:∀x:Ai,(Ac x)[0]?=some (.int .i64 x.bank):=fun x=>(Jg x 0 (by decide)).trans rfl;have p1:∀x:Ai,(Ac x)[1]?=some (.int .i64 x.epoch):=fun x=>(Jg x 1 (by decide)).trans rfl;have p2:∀x:Ai,(Ac x)[2]?=some (.int .i64 x.place):=fun x=>(Jg x 2 (by decide)).trans rfl;have p3:∀x:Ai,(Ac x)[3]?=some (.int .i64 x.order):=fun x=>(Jg x 3 (by decide)).trans rfl;have p30:∀x:Ai,(Ac x)[30]?=some (.int .i64 x.action):=fun x=>(Gm x 0).trans rfl;have p31:∀x:Ai,(Ac x)[31]?=some (.int .i64 x.one):=fun x=>(Gm x 1).trans rfl;have p32:∀x:Ai,(Ac x)[32]?=some (.int .i64 x.two):=fun x=>(Gm x 2).trans rfl;have p33:∀x:Ai,(Ac x)[33]?=some (.int .i64 x.born):=fun x=>(Gm x 3).trans rfl;have p34:∀x:Ai,(Ac x)[34]?=some (.int .i64 x.used):=fun x=>(Gm x 4).trans rfl;have p35:∀x:Ai,(Ac x)[35]?=some (.int .i64 x.count):=fun x=>(Gm x 5).trans rfl;rw[show(10000:Nat)=9999+1 from rfl,run_equalIn_struct w 9999 102 _ _ (by kernel_rfl) (by kernel_rfl)]
 have ef : (aA.fieldsOf 102).toList = [{ name := "Bank", type := 3, offset := 0, embedded := false, tag := "", pkgPath := "", byteOffset := 0 }, { name := "Epoch", type := 3, offset := 1, embedded := false, tag := "", pkgPath := "", byteOffset := 8 }, { name := "At", type := 3, offset := 2, embedded := false, tag := "", pkgPath := "", byteOffset := 16 }, { name := "Order", type := 3, offset := 3, embedded := false, tag := "", pkgPath := "", byteOffset := 24 }, { name := "Cube", type := 37, offset := 4, embedded := false, tag := "", pkgPath := "", byteOffset := 32 }, { name := "Action", type := 3, offset := 30, embedded := false, tag := "", pkgPath := "", byteOffset := 64 }, { name := "One", type := 3, offset := 31, embedded := false, tag := "", pkgPath := "", byteOffset := 72 }, { name := "Two", type := 3, offset := 32, embedded := false, tag := "", pkgPath := "", byteOffset := 80 }, { name := "Born", type := 3, offset := 33, embedded := false, tag := "", pkgPath := "", byteOffset := 88 }, { name := "Used", type := 3, offset := 34, embedded := false, tag := "", pkgPath := "", byteOffset := 96 }, { name := "Count", type := 3, offset := 35, embedded := false, tag := "", pkgPath := "", byteOffset := 104 }] := by kernel_rfl
 rw [ef]; clear ef; have h35 := IU x y w "Count" 35 104 [] x.count y.count (by simp) (p35 x) (p35 y) true (by simp [aJ]); have h34 := IU x y w "Used" 34 96 _ x.used y.used (by simp) (p34 x) (p34 y) _ h35; have h33 := IU x y w "Born" 33 88 _ x.born y.born (by simp) (p33 x) (p33 y) _ h34; have h32 := IU x y w "Two" 32 80 _ x.two y.two (by simp) (p32 x) (p32 y) _ h33; have h31 := IU x y w "One" 31 72 _ x.one y.one (by simp) (p31 x) (p31 y) _ h32; have h30 := IU x y w "Action" 30 64 _ x.action y.action (by simp) (p30 x) (p30 y) _ h31; have h4 := Ak1 x y w "Cube" 32 _ (by simp) _ h30; have h3 := IU x y w "Order" 3 24 _ x.order y.order (by simp) (p3 x) (p3 y) _ h4; have h2 := IU x y w "At" 2 16 _ x.place y.place (by simp) (p2 x) (p2 y) _ h3; have h1 := IU x y w "Epoch" 1 8 _ x.epoch y.epoch (by simp) (p1 x) (p1 y) _ h2; have h0 := IU x y w "Bank" 0 0 _ x.bank y.bank (by simp) (p0 x) (p0 y) _ h1; rw [Bool.and_true] at h0; exact h0
theorem egS(op:BinOp)(x y:Operand)(xs ys:Array Value)(w:World):(eqGuard op 102 x y (.agg xs) (.agg ys)).run aA w=.ok () w:=
 run_eqGuard_agg w op 102 x y xs ys (by kernel_rfl)
theorem Acc(W:World):(Instr.build 102 #[]).run aA W=.ok (.agg (Ac AJ)) W:=by rw[PG];kernel_rfl
structure As(X:Nat→Prop)(w w':World):Prop where
 os:w'.os=w.os
 tape:w'.tape=w.tape
 output:w'.output=w.output
 size:w.heap.size≤w'.heap.size
 block:∀k,k<w.heap.size→¬X k→w'.heap[k]?=w.heap[k]?
theorem As.refl(X:Nat→Prop)(w:World):As X w w:=⟨rfl,rfl,rfl,aG _,fun _ _ _=>rfl⟩
theorem As.of_below{X:Nat→Prop}{w w':World}(h:Below w.heap.size w w'):As X w w':=⟨h.os,h.tape,h.output,h.size,fun k hk _=>h.block k hk⟩
theorem As.of_grown{X:Nat→Prop}{w w':World}{row:Option Nat}(h:w.grownBy w' row)(hr:∀k,row=some k→X k):As X w w':=
 ⟨h.os,h.tape,h.output,h.size,fun k hk hX=>h.block k hk fun e=>hX (hr k e.symm)⟩
theorem As.trans{X Y:Nat→Prop}{w w1 w2:World}(h:As X w w1)(h':As Y w1 w2)(hY:∀k,Y k→X k∨w.heap.size≤k):As X w w2:=
 ⟨h'.os.trans h.os,h'.tape.trans h.tape,h'.output.trans h.output,aW h.size h'.size,fun k hk hX=>by
  rw[h'.block k (Nat.lt_of_lt_of_le hk h.size) (fun hy=>by rcases hY k hy with e | e;exact hX e;omega)]
  exact h.block k hk hX⟩
theorem As.mono{X Y:Nat→Prop}{w w':World}(h:As X w w')(hXY:∀k,k<w.heap.size→X k→Y k):As Y w w':=⟨h.os,h.tape,h.output,h.size,fun k hk hY=>h.block k hk fun hX=>hY (hXY k hk hX)⟩
theorem As.below{X:Nat→Prop}{w w':World}{B:Nat}(h:As X w w')(hX:∀k,X k→B≤k)(hB:B≤w.heap.size):Below B w w':=
 ⟨h.os,h.tape,h.output,h.size,fun k hk=>h.block k (by omega) fun hx=>by have:=hX k hx;omega⟩
theorem As.add{X:Nat→Prop}{w w1 w2:World}(h:As X w w1)(h':Below w1.heap.size w1 w2):As X w w2:=h.trans (Y:=fun _=>False) (As.of_below h') fun _ h=>h.elim
theorem As.pre{X:Nat→Prop}{w w1 w2:World}(h:Below w.heap.size w w1)(h':As X w1 w2):As X w w2:=(As.of_below (X:=X) h).trans h' fun _ hk=> .inl hk
theorem As.heap{X:Nat→Prop}{w w':World}{k:Nat}{o:Obj}(h:As X w w')(hk:w.heap[k]?=some o)(hX:¬X k):w'.heap[k]?=some o:=(h.block k (gS hk) hX).trans hk
theorem As.own{X:Nat→Prop}{w w':World}(h:As X w w'){B:Nat}{e:TypeId}{s:Nat}{v:Value}{n:Nat}{xs:List Value}(ho:w.ownsRow B e s v n xs)(hX:∀k,v.ownBlock=some k→¬X k):w'.ownsRow B e s v n xs:=by
 obtain⟨h1,h2 | ⟨g,cap,cur,rfl,hB,hcur,h3⟩⟩:=ho
 ·exact⟨h1,.inl h2⟩
 ·exact⟨h1,.inr ⟨g,cap,cur,rfl,hB,h.heap hcur (hX g rfl),h3⟩⟩
def Fe(a b:Option Nat):Prop:=a=none∨b=none∨a≠b
theorem Fe.symm{a b:Option Nat}(h:Fe a b):Fe b a:=by
 rcases h with h | h | h
 ·exact .inr (.inl h)
 ·exact .inl h
 ·exact .inr (.inr fun e=>h e.symm)
theorem Fe.ne{a b:Option Nat}(h:Fe a b):∀k,a=some k→b≠some k:=by
 intro k ha hb;subst ha;subst hb;rcases h with h | h | h
 ·cases h
 ·cases h
 ·exact h rfl
theorem BL{B:Nat}{w wr w':World}(hb:Below B w wr)(hB:B≤wr.heap.size)(h:Below wr.heap.size wr w'):Below B w w':=hb.trans (h.mono hB)
def Cq(g:Nat)(k:Nat):Prop:=k=g
def BT(v:Value)(k:Nat):Prop:=v.ownBlock=some k
theorem VL{E:El}(H:E.Ok){ops:Array Oper}{rest:List Oper}{o:Oper}{a:Act}{w:World}{Q:Exit→Act→World→Prop}(hgd:o.guard=none)(s x:Operand)(ho:o.op=.call {callee:=.builtin .append,args:=#[s,x],argTypes:=#[E.slice,E.slice]})
  (g n cap:Nat) (hs:a.eval s=.slice (some ⟨g,0,none⟩) n cap) (cur:Array Value) (hg:w.heap[g]?=some (.cells cur E.elem (0,0))) (gx capx:Nat) (cs:Array Value) (hf:PB E cs) (hx:a.eval x=.slice (some ⟨gx,0,none⟩) 1 capx) (hgx:w.heap[gx]?=some (.cells cs E.elem (0,0)))
  (hroom:n+1≤cap) (hfit:n*E.size+E.size≤cur.size)
  (h:wpList aA ops Q rest (a.put o.dst (.slice (some ⟨g,0,none⟩) (n+1) cap)) (w.setRow g (cur.toList.take (n*E.size)++cs.toList++cur.toList.drop (n*E.size+E.size)).toArray)):wpList aA ops Q (o::rest) a w:=by
 obtain⟨i0,hi,hz0,hz1,hz2⟩:=H.info;have hl:cs.toList.length=1*i0.size:=by rw[aB,hf.1,hz1,bF]
 have hcs:cs.toList.length=E.size:=by rw[aB,hf.1]
 refine wpList_plain hgd fun K hK=> ?_
 have hr:=run_append_room (P:=aA) w E.slice o.type E.elem i0 H.hs hi g n cap cur hg ⟨gx,0,none⟩ 1 capx cs.toList hl (fun j y hy=>by
   have hadd:(⟨gx,0,none⟩:Addr).add j=⟨gx,j,none⟩:=by unfold Addr.add;split <;> simp_all
   rw[hadd,cell_of_row w gx j _ _ _ hgx, ←hy];simp) (fun u hu=>(Array.all_eq_true_iff_forall_mem.1 hf.2) u (by simpa using hu)) hroom (by rw[hz1,hcs];exact hfit)
 rw[hz1,hcs] at hr;unfold Oper.wp execOp;simp only[ho,resolve,invoke,builtin,aH,bQ,aI,List.map_toArray,List.map_cons,List.map_nil,hs,hx,hr];exact hK _ _ h
theorem Ahv{cur cs:Array Value}{n s:Nat}(hcs:cs.size=s)(hfit:n*s+s≤cur.size):
  (cur.toList.take (n*s)++cs.toList++cur.toList.drop (n*s+s)).toArray.size=cur.size∧
  (cur.toList.take (n*s)++cs.toList++cur.toList.drop (n*s+s)).toArray.toList.take ((n+1)*s)=cur.toList.take (n*s)++cs.toList∧
  ∀j,(n+1)*s≤j→(cur.toList.take (n*s)++cs.toList++cur.toList.drop (n*s+s)).toArray[j]?=cur[j]?:=by
 have e:(n+1)*s=n*s+s:=by rw[bW,bF]
 have hl:(cur.toList.take (n*s)++cs.toList).length=n*s+s:=by
  rw[aZ,bZ,aB,aB,hcs];omega
 refine⟨?_,?_,fun j hj=> ?_⟩
 ·rw[List.size_toArray,aZ,hl,List.length_drop,aB];omega
 ·rw[e, ←hl];exact List.take_left
 ·rw[List.getElem?_toArray,List.getElem?_append_right (by rw[hl];omega),hl,List.getElem?_drop,aV];congr 1;omega
def Au(B:Nat)(w:World)(v:Value)(C:List Ai):Prop:=w.ownsRow B 102 36 v C.length (BC Ac C)
theorem Au.sl{B:Nat}{w:World}{v:Value}{C:List Ai}(h:Au B w v C):Ee EP Ac w v C:=Ti (E:=EP) h fun c _=>Bl c
theorem Au.lt{B:Nat}{w:World}{v:Value}{C:List Ai}(h:Au B w v C):∀k,v.ownBlock=some k→B≤k∧k<w.heap.size:=World.ownsRow.lt h
theorem Au.nil(B:Nat)(w:World):Au B w (.slice none 0 0) []:=World.ownsRow_nil _ _ _ _
theorem Au.kept{X:Nat→Prop}{B:Nat}{w w':World}{v:Value}{C:List Ai}(h:Au B w v C)(hk:As X w w')(hX:∀k,v.ownBlock=some k→¬X k):Au B w' v C:=hk.own h hX
theorem Au.below{B:Nat}{w w':World}{v:Value}{C:List Ai}(h:Au B w v C)(hb:Below w.heap.size w w'):Au B w' v C:=Mp h hb
theorem Au.base{B B':Nat}{w:World}{v:Value}{C:List Ai}(h:Au B w v C)(hB:B'≤B):Au B' w v C:=Vh h hB
theorem Au.slice{B:Nat}{w:World}{v:Value}{C:List Ai}(h:Au B w v C):∃o cap,v=.slice o C.length cap∧C.length≤cap∧cap≤maxLen:=h.sl.slice
theorem Au.ty{B:Nat}{w:World}{v:Value}{C:List Ai}(h:Au B w v C){g:Nat}{cs:Array Value}{t:TypeId}{fr:Nat×Nat}(hg:w.heap[g]?=some (.cells cs t fr))(ht:t≠102):v.ownBlock≠some g:=by
 intro e;obtain⟨_,⟨rfl,_⟩ | ⟨g',cap,cur,rfl,_,h1,_⟩⟩:=h
 ·cases e
 ·simp only[Value.ownBlock,Option.some.injEq] at e;subst e;rw[hg] at h1;simp only[Option.some.injEq,Obj.cells.injEq] at h1;exact ht h1.2.1
def OD(R:Rm)(v1 v2 v3:Value):Array Value:=#[.int .i64 0,.int .i64 R.cache,.int .i64 R.auth,.int .i64 R.part,.slice none 0 0,v1,v2,v3,.int .i64 R.idle,.int .i64 R.hard]
structure Cw(B:Nat)(w:World)(g:Nat)(R:Rm)(S:Aq)(v1 v2 v3:Value):Prop where
 blk:w.heap[g]?=some (.cells (OD R v1 v2 v3) 155 (0,0))
 o1:Au B w v1 S.c
 o2:Au B w v2 S.a
 o3:Au B w v3 S.p
 a12:Fe v1.ownBlock v2.ownBlock
 a13:Fe v1.ownBlock v3.ownBlock
 a23:Fe v2.ownBlock v3.ownBlock
 hB:B≤g
def Eg(g:Nat)(v1 v2 v3:Value)(k:Nat):Prop:=k=g∨v1.ownBlock=some k∨v2.ownBlock=some k∨v3.ownBlock=some k
theorem Cw.foot_in{B:Nat}{w:World}{g:Nat}{R:Rm}{S:Aq}{v1 v2 v3:Value}(h:Cw B w g R S v1 v2 v3):∀k,Eg g v1 v2 v3 k→B≤k∧k<w.heap.size:=by
 rintro k (rfl | e | e | e)
 ·exact⟨h.hB,(gS h.blk)⟩
 ·exact h.o1.lt k e
 ·exact h.o2.lt k e
 ·exact h.o3.lt k e
theorem Cw.kept{X:Nat→Prop}{B:Nat}{w w':World}{g:Nat}{R:Rm}{S:Aq}{v1 v2 v3:Value}(h:Cw B w g R S v1 v2 v3)(hk:As X w w')(hX:∀k,Eg g v1 v2 v3 k→¬X k):Cw B w' g R S v1 v2 v3:=
 ⟨hk.heap h.blk (hX g (.inl rfl)),h.o1.kept hk fun k e=>hX k (.inr (.inl e)),h.o2.kept hk fun k e=>hX k (.inr (.inr (.inl e))),h.o3.kept hk fun k e=>hX k (.inr (.inr (.inr e))),h.a12,h.a13,h.a23,h.hB⟩
theorem Cw.below{B:Nat}{w w':World}{g:Nat}{R:Rm}{S:Aq}{v1 v2 v3:Value}(h:Cw B w g R S v1 v2 v3)(hb:Below w.heap.size w w'):Cw B w' g R S v1 v2 v3:=h.kept (X:=fun _=>False) (As.of_below hb) fun _ _ e=>e
structure Ux(w:World)(g:Nat)(R:Rm)(v1 v2 v3:Value):Prop where
 c0:w.cell? ⟨g,0,none⟩=some (.int .i64 0)
 c1:w.cell? ⟨g,1,none⟩=some (.int .i64 R.cache)
 c2:w.cell? ⟨g,2,none⟩=some (.int .i64 R.auth)
 c3:w.cell? ⟨g,3,none⟩=some (.int .i64 R.part)
 c4:w.cell? ⟨g,4,none⟩=some (.slice none 0 0)
 c5:w.cell? ⟨g,5,none⟩=some v1
 c6:w.cell? ⟨g,6,none⟩=some v2
 c7:w.cell? ⟨g,7,none⟩=some v3
 c8:w.cell? ⟨g,8,none⟩=some (.int .i64 R.idle)
 c9:w.cell? ⟨g,9,none⟩=some (.int .i64 R.hard)
 fz:∀k,w.frozen? ⟨g,k,none⟩=false
theorem Km{w:World}{g:Nat}{R:Rm}{v1 v2 v3:Value}{t:TypeId}(h:w.heap[g]?=some (.cells (OD R v1 v2 v3) t (0,0))):Ux w g R v1 v2 v3:=
 ⟨by rw[cell_of_row w g _ _ _ _ h];rfl,by rw[cell_of_row w g _ _ _ _ h];rfl,by rw[cell_of_row w g _ _ _ _ h];rfl,by rw[cell_of_row w g _ _ _ _ h];rfl,by rw[cell_of_row w g _ _ _ _ h];rfl,by rw[cell_of_row w g _ _ _ _ h];rfl,by rw[cell_of_row w g _ _ _ _ h];rfl,by rw[cell_of_row w g _ _ _ _ h];rfl,by rw[cell_of_row w g _ _ _ _ h];rfl,by rw[cell_of_row w g _ _ _ _ h];rfl,fun k=>by simp[World.frozen?,h]⟩
theorem Cw.f{B:Nat}{w:World}{g:Nat}{R:Rm}{S:Aq}{v1 v2 v3:Value}(h:Cw B w g R S v1 v2 v3):Ux w g R v1 v2 v3:=Km h.blk
def Bv(S:Aq)(b:Nat):List Ai:=if b=1 then S.c else if b=2 then S.a else if b=3 then S.p else []
def Cj(v1 v2 v3:Value)(b:Nat):Value:=if b=1 then v1 else if b=2 then v2 else if b=3 then v3 else .slice none 0 0
def OJ(R:Rm)(b:Nat):Nat:=if b=1 then R.cache else if b=2 then R.auth else if b=3 then R.part else 0
theorem Cw.bank{B:Nat}{w:World}{g:Nat}{R:Rm}{S:Aq}{v1 v2 v3:Value}(h:Cw B w g R S v1 v2 v3)(b:Nat):Au B w (Cj v1 v2 v3 b) (Bv S b):=by
 unfold Cj Bv;split
 ·exact h.o1
 ·split
  ·exact h.o2
  ·split
   ·exact h.o3
   ·exact Au.nil _ _
theorem Ux.bankCell{w:World}{g:Nat}{R:Rm}{v1 v2 v3:Value}(h:Ux w g R v1 v2 v3)(b:Nat)(hb:b<4):w.cell? ⟨g,4+b,none⟩=some (Cj v1 v2 v3 b):=by
 rcases(show b=0∨b=1∨b=2∨b=3 by omega) with rfl | rfl | rfl | rfl
 ·exact h.c4
 ·exact h.c5
 ·exact h.c6
 ·exact h.c7
theorem Ux.roomCell{w:World}{g:Nat}{R:Rm}{v1 v2 v3:Value}(h:Ux w g R v1 v2 v3)(b:Nat)(hb:b<4):w.cell? ⟨g,b,none⟩=some (.int .i64 (OJ R b:Nat)):=by
 rcases(show b=0∨b=1∨b=2∨b=3 by omega) with rfl | rfl | rfl | rfl
 ·exact h.c0
 ·exact h.c1
 ·exact h.c2
 ·exact h.c3
theorem PP(n:Int)(w:World):Calls aA 107 #[.int .i64 n] w fun e w'=>e=.returned (.int .i64 (BR n))∧w'=w:=by
 have HV:Hid (BR n=min (max n 0) 1099511627776):=by
  show _=_;unfold BR Gu;split
  ·omega
  ·split <;> omega
 go_enter Tryz.func107,Tryz.ntmps107;go_wp2;go_ret;exact⟨by rw[HV.out];simp,rfl⟩
theorem Ar2(n:Int)(w:World):Calls aA 93 #[.int .i64 n] w fun e w'=>e=.returned (.int .i64 (BR n))∧w'=w:=by
 by_cases h1:n<0
 ·have HV:Hid (BR n=0):=Ad9 h1;go_enter bX,bR;go_wp2;go_ret;exact⟨by rw[HV.out];rfl,rfl⟩
 ·by_cases h2:1099511627776<n
  ·have HV:Hid (BR n=1099511627776):=Adb h1 h2;go_enter bX,bR;go_wp2;go_ret;exact⟨by rw[HV.out];rfl,rfl⟩
  ·have HV:Hid (BR n=n):=Ada h1 h2;go_enter bX,bR;go_wp2;go_ret;exact⟨by rw[HV.out];rfl,rfl⟩
theorem PL(n top:Int)(w:World):Calls aA 88 #[.int .i64 n,.int .i64 top] w fun e w'=>e=.returned (.bool (decide (0≤n∧n≤top)))∧w'=w:=by
 obtain⟨b,hb⟩:=eX (decide (0≤n∧n≤top));rw[←hb];by_cases h1:0≤n
 ·by_cases h2:n≤top
  focus
   have HB:Hid (b=true):=by show _=_;rw[hb];simp[h1,h2]
  rotate_left
  focus
   have HB:Hid (b=false):=by show _=_;rw[hb];simp[h2]
  all_goals
   clear hb;go_enter Tryz.func88,Tryz.ntmps88;go_wp2;go_ret;exact⟨by rw[HB.out];first | rfl|(simp;done)|(simp;exact h1),rfl⟩
 ·have HB:Hid (b=false):=by show _=_;rw[hb];simp[h1]
  clear hb;go_enter Tryz.func88,Tryz.ntmps88;go_wp2;go_ret;exact⟨by rw[HB.out];first | rfl|(simp;done)|(simp;exact h1),rfl⟩
theorem Aie(n top:Int)(w:World):Calls aA 110 #[.int .i64 n,.int .i64 top] w fun e w'=>e=.returned (.bool (decide (top≠0)&&decide (top≤n)))∧w'=w:=by
 obtain⟨b,hb⟩:=eX ((decide (top≠0)&&decide (top≤n)));rw[←hb];by_cases h1:top=0
 ·have HB:Hid (b=false):=by show _=_;rw[hb];simp[h1]
  clear hb;subst h1;go_enter Tryz.func110,Tryz.ntmps110;go_wp2;go_ret;exact⟨by rw[HB.out];first | rfl|(simp;done)|(simp;exact h1),rfl⟩
 ·by_cases h2:top≤n
  focus
   have HB:Hid (b=true):=by show _=_;rw[hb];simp[h1,h2]
  rotate_left
  focus
   have HB:Hid (b=false):=by show _=_;rw[hb];simp[h2]
  all_goals
   clear hb;go_enter Tryz.func110,Tryz.ntmps110;go_wp2;go_ret;exact⟨by rw[HB.out];first | rfl|(simp;done)|(simp;exact h1),rfl⟩
def JQ(a b:Int):Int:=if a<b then -1 else if b<a then 1 else 0
theorem Aij(x:Int)(w:World):Calls aA 218 #[.int .i64 x] w fun e w'=>e=.returned (.bool false)∧w'=w:=by
 go_enter Tryz.func218,Tryz.ntmps218;go_wp2;go_ret;exact⟨by simp,rfl⟩
theorem Qu(x y:Int)(w:World):Calls aA 209 #[.int .i64 x,.int .i64 y] w fun e w'=>e=.returned (.int .i64 (JQ x y))∧w'=w:=by
 have HN:Hid _:=Aij;by_cases h1:x<y
 ·have HV:Hid (JQ x y= -1):=by show _=_;unfold JQ;rw[if_pos h1]
  go_enter Tryz.func209,Tryz.ntmps209;go_wp2_with (go_at_call 218;refine(HN.out _ _).mono ?_;rintro e w' ⟨rfl,rfl⟩);go_ret;exact⟨by rw[HV.out];rfl,rfl⟩
 ·by_cases h2:y<x
  focus
   have HV:Hid (JQ x y=1):=by show _=_;unfold JQ;rw[if_neg h1,if_pos h2]
  rotate_left
  focus
   have HV:Hid (JQ x y=0):=by show _=_;unfold JQ;rw[if_neg h1,if_neg h2]
  all_goals
   go_enter Tryz.func209,Tryz.ntmps209;go_wp2_with (go_at_call 218;refine(HN.out _ _).mono ?_;rintro e w' ⟨rfl,rfl⟩);go_ret;exact⟨by rw[HV.out];rfl,rfl⟩
theorem Gh(w:World)(x:Ai)(t:TypeId):NR (w.alloc (.cells (Ac x) t)) w.heap.size 0 x:=E8 (Ab _ _ _ rfl)
theorem Aah(x y:Ai)(w:World):Calls aA 208 #[.agg (Ac x),.agg (Ac y)] w fun e w'=>e=.returned (.int .i64 (JQ x.order y.order))∧w'=(w.alloc (.cells (Ac x) 102)).alloc (.cells (Ac y) 102):=by
 have HC:Hid _:=Qu;have c1:=(NR.below (w':=(w.alloc (.cells (Ac x) 102)).alloc (.cells (Ac y) 102)) (Gh w x 102) (cB _ _ _ (by simp))).c3;have c2:=(Gh (w.alloc (.cells (Ac x) 102)) y 102).c3;rw[show(w.alloc (.cells (Ac x) 102)).heap.size=w.heap.size+1 by simp] at c2;go_enter Tryz.func208,Tryz.ntmps208;go_wp2_with (go_at_call 209;refine(HC.out _ _ _).mono ?_;rintro e w' ⟨rfl,rfl⟩);go_ret;exact⟨rfl,rfl⟩
def Nj(p:Ai→Bool)(C:List Ai)(c:Int):Prop:=
 (c= -1∧Bc p (fun _=>0) C=none)∨∃(i:Nat) (x:Ai),c=(i:Int)∧i<C.length∧C[i]?=some x∧Bc p (fun _=>0) C=some (C.take i,x,C.drop (i+1))
theorem Abs{p:Ai→Bool}{C:List Ai}{k:Nat}{x:Ai}(h:∀j y,j<k→C[j]?=some y→p y=false)(hx:C[k]?=some x)(hp:p x=true):Nj p C (k:Int):=by
 refine .inr ⟨k,x,rfl,(aD.1 hx).1,hx,O6.2 ⟨?_,hp,fun y hy hm=> ?_,fun y _ _=>aO _⟩⟩
 ·have e:=(aD.1 hx).2;rw[←e,List.getElem_cons_drop,List.take_append_drop]
 ·obtain⟨j,hj⟩:=bG.1 hy;have hj':=(aD.1 hj).1;rw[bZ] at hj';rw[aP (by omega)] at hj;rw[h j y (by omega) hj] at hm;cases hm
theorem YZ{p:Ai→Bool}{C:List Ai}(h:∀j y,j<C.length→C[j]?=some y→p y=false):Nj p C (-1):=
 .inl ⟨rfl,DX.2 fun y hy=>by
  obtain⟨j,hj⟩:=bG.1 hy
  exact h j y (aD.1 hj).1 hj⟩
def TN(K:World→Prop)(f:Nat)(cb:Array Value)(p:Ai→Bool):Prop:=∀x W,K W→Calls aA f (#[.agg (Ac x)]++cb) W fun e W'=>e=.returned (.bool (p x))∧Below W.heap.size W W'
theorem Ve(C:List Ai)(v:Value)(w:World)(hl:Ee EP Ac w v C)(hn:C.length≤1000000)(f:Nat)(cb:Array Value)(p:Ai→Bool)(eg:∀args w,(callFunc f args).run aA w=.ok (.enter f args) w)(hc:TN (fun W=>Below w.heap.size w W) f cb p):
  Calls aA 199 #[v,.func (.func f) #[] cb] w fun e w'=>(∃c,e=.returned (.int .i64 c)∧Nj p C c)∧Below w.heap.size w w':=by
 obtain⟨o,cap,rfl,hc1,hc2⟩:=Ee.slice hl;obtain⟨n,hn0⟩:=eX C.length;have HN:Hid _:=hn0;rw[←hn0] at hl hc1 hn ⊢;have HL:Hid _:=hl;have HC:Hid _:=hc;unfold maxLen at hc2;clear hl hn0 hc;go_enter Tryz.func199,Tryz.ntmps199;go_wp2_with fail;go_loopw [8] (fun i wr=> ∃k:Nat,k≤n∧i=.int .i64 (k:Int)∧Hid (∀j y,j<k→C[j]?=some y→p y=false)∧Hid (Below w.heap.size w wr)) (fun i _=>n-(intOf i).toNat)
 case atStart=>exact⟨0,aX _,rfl,fun j y hj=>by omega,aK _ _⟩
 case round=>
  obtain⟨k,hk,rfl,HP,HB⟩:=hrel;by_cases hlt:k<n
  ·have hlt':(k:Int)<(n:Int):=by omega
   obtain⟨g,off,cur,ty,fr,x,rfl,hg,hcc,hxk⟩:=(Ee.below HL.out HB.out).at k hlt;have K1:Hid _:=hg;have H1:Hid _:=hcc;have HX:Hid _:=hxk;clear hg hcc hxk;have hcall:=HC.out x wr HB.out
   cases hp:p x with
   | true=>
    rw[hp] at hcall;have HPX:Hid _:=hp;clear hp;go_wp2_with (refine Eu (E:=EP) Fs rfl _ rfl g (off+k*36) rfl cur ty fr (Ac x) (Bl x) K1.out H1.out ?_);refine hcall.mono ?_;rintro e w1 ⟨rfl,hb1⟩;go_wp2_with fail;go_ret;exact⟨⟨_,rfl,Abs HP.out HX.out HPX.out⟩,BL HB.out HB.out.size hb1⟩
   | false=>
    rw[hp] at hcall;have HPX:Hid _:=hp;clear hp;go_wp2_with (refine Eu (E:=EP) Fs rfl _ rfl g (off+k*36) rfl cur ty fr (Ac x) (Bl x) K1.out H1.out ?_);refine hcall.mono ?_;rintro e w1 ⟨rfl,hb1⟩;go_wp2_with fail;go_roundw
    case rel=>
     refine⟨k+1,by omega,by go_num,fun j y hj hy=> ?_,BL HB.out HB.out.size hb1⟩;by_cases e:j=k
     ·subst e;rw[HX.out] at hy
      cases hy
      exact HPX.out
     ·exact HP.out j y (by omega) hy
    case measure=>simp[intOf];omega
  ·have hlt':¬(k:Int)<(n:Int):=by omega
   have HK:Hid (k=n):=by show _=_;omega
   go_wp2_with fail;go_ret;exact⟨⟨_,rfl,YZ fun j y hj hy=>HP.out j y (by have h1:=HK.out;have h2:=HN.out;omega) hy⟩,HB.out⟩
theorem XU(C:List Ai)(v:Value)(w:World)(hl:Ee EP Ac w v C)(hn:C.length≤1000000)(f:Nat)(cb:Array Value)(p:Ai→Bool)(eg:∀args w,(callFunc f args).run aA w=.ok (.enter f args) w)(hc:TN (fun W=>Below w.heap.size w W) f cb p):
  Calls aA 179 #[v,.func (.func f) #[] cb] w fun e w'=>e=.returned (.bool (C.any p))∧Below w.heap.size w w':=by
 have HI:=Ve C v w hl hn f cb p eg hc
 have key:Hid (∀c,Nj p C c→decide (0≤c)=C.any p):=fun c h=>by
  rcases h with ⟨rfl,h⟩ | ⟨i,x,rfl,hi,hx,_⟩
  ·have:=DX.1 h;symm;simp only[Int.reduceNeg,Int.reduceLE,decide_false,List.any_eq_false];intro y hy;rw[this y hy];simp
  ·rename_i hl;have h2:=(Ez hl).2.1;symm;simp only[Int.natCast_nonneg,decide_true,List.any_eq_true];exact⟨x,List.mem_of_getElem? hx,h2⟩
 clear hl hc;obtain⟨fv,hfv⟩:=eX (Value.func (.func f) #[] cb);rw[←hfv] at HI ⊢;have HI':Hid (∀W,W=w→Calls aA 199 #[v,fv] W fun e w'=>(∃c,e=.returned (.int .i64 c)∧Nj p C c)∧Below w.heap.size w w'):=fun W hW=>by subst hW;exact HI
 clear HI hfv;go_enter Tryz.func179,Tryz.ntmps179;go_wp2_with (go_at_call 199;refine(HI'.out _ rfl).mono ?_;rintro e w1 ⟨⟨c,rfl,hf⟩,hb1⟩);go_ret;exact⟨FH (key.out c hf),hb1⟩
def RP(e:Int)(s:Ai)(x:Ai):Bool:=x.epoch==e&&(AC x.cube.1==AC s.cube.1&&AC x.cube.2==AC s.cube.2)
theorem Aka{w:World}{g off:Nat}{cur:Array Value}{ty:TypeId}{fr:Nat×Nat}{x:Ai}(_:w.heap[g]?=some (.cells cur ty fr))(hc:∀j,j<36→cur[off+j]?=(Ac x)[j]?):∀j,j<26→cur[off+4+j]?=(cv (AC x.cube.1) (AC x.cube.2))[j]?:=fun j hj=>by
 rw[Nat.add_assoc,hc (4+j) (by omega),Hb x j hj]
theorem Tu{w:World}{g off:Nat}{cur:Array Value}{t:TypeId}{fr:Nat×Nat}{V M:List Int}(hV:V.length=13)(hM:M.length=13)(hg:w.heap[g]?=some (.cells cur t fr))(hc:∀j,j<26→cur[off+j]?=(cv V M)[j]?):
  (loadVar 37 ⟨g,off,none⟩).run aA w=.ok (.agg (cv V M)) w:=by
 have hl:(loadCells ⟨g,off,none⟩ (cv V M).toList.length).run aA w=.ok (cv V M).toList.toArray w:=
  run_loadCells_list (P:=aA) w ⟨g,off,none⟩ (cv V M).toList (fun j v hv=>by
   have hadd:(⟨g,off,none⟩:Addr).add j=⟨g,off+j,none⟩:=by unfold Addr.add;split <;> simp_all
   have hj:j<26:=by
    have:=(aD.1 hv).1;rw[aB,Bq V M hV hM] at this;omega
   rw[hadd,cell_of_row w g (off+j) cur t fr hg,hc j hj];simpa using hv)
 have hz:∀w,(sizeOf 37).run aA w=.ok 26 w:=fun w=>by kernel_rfl
 have ha:∀w,(isAgg 37).run aA w=.ok true w:=fun w=>by kernel_rfl
 rw[aB,Bq V M hV hM,Array.toArray_toList] at hl;simp[loadVar,aH,ha,hz,hl]
theorem Kh{ops:Array Oper}{rest:List Oper}{o:Oper}{a:Act}{w:World}{Q:Exit→Act→World→Prop}(hw:Region.wanted o (yielded ops a.tmps)=true)(x:Operand)(ho:o.op=.load 37 x)
  (g off:Nat) (hx:a.eval x=.pointer (some ⟨g,off,none⟩)) (cur:Array Value) (t:TypeId) (fr:Nat×Nat) (V M:List Int) (hV:V.length=13) (hM:M.length=13) (hg:w.heap[g]?=some (.cells cur t fr)) (hc:∀j,j<26→cur[off+j]?=(cv V M)[j]?)
  (h:wpList aA ops Q rest (a.put o.dst (.agg (cv V M))) w):wpList aA ops Q (o::rest) a w:=by
 refine wpList_step fun K hK=> ?_;rw[if_pos hw];unfold Oper.wp execOp;simp only[ho,hx,Instr.loadAt,Instr.sureAddr,aH,bQ,aI,Tu hV hM hg hc];exact hK _ _ h
theorem Ab8(x s:Ai)(e:Int)(w:World)(p q:Nat)(tp:TypeId)(he:w.heap[p]?=some (.cells #[.int .i64 e] tp (0,0)))(hs:w.heap[q]?=some (.cells (Ac s) 102 (0,0))):
  Calls aA 210 #[.agg (Ac x),.pointer (some ⟨p,0,none⟩),.pointer (some ⟨q,0,none⟩)] w fun r w'=>r=.returned (.bool (RP e s x))∧Below w.heap.size w w':=by
 have c1:=(Gh w x 102).c1;have c2:(w.alloc (.cells (Ac x) 102)).cell? ⟨p,0,none⟩=some (.int .i64 e):=by rw[cell_of_row _ _ _ _ _ _ (Ah w (.cells (Ac x) 102) _ _ he)];rfl
 have K1:Hid ((w.alloc (.cells (Ac x) 102)).heap[w.heap.size]?=some (.cells (Ac x) 102 (0,0))):=Ab _ _ _ rfl;have K2:Hid ((w.alloc (.cells (Ac x) 102)).heap[q]?=some (.cells (Ac s) 102 (0,0))):=Ah w (.cells (Ac x) 102) _ _ hs;have E:∀W,(aQ 10000 37 (.agg (cv (AC x.cube.1) (AC x.cube.2))) (.agg (cv (AC s.cube.1) (AC s.cube.2)))).run aA W=.ok (AC x.cube.1==AC s.cube.1&&AC x.cube.2==AC s.cube.2) W:=fun W=>eqC _ _ _ _ (AV _) (AV _) (AV _) (AV _) W;have G:=egC;obtain⟨b,hb⟩:=eX ((AC x.cube.1==AC s.cube.1&&AC x.cube.2==AC s.cube.2));rw[←hb] at E;have HR:Hid (RP e s x=(x.epoch==e&&b)):=by show _=_;unfold RP;rw[hb]
 rw[HR.out];clear hb he hs HR;obtain⟨xe,hxe⟩:=eX x.epoch;rw[←hxe] at c1 ⊢;clear hxe;by_cases h1:xe=e
 ·subst h1;go_enter Tryz.func210,Tryz.ntmps210
  go_wp2_with (first
   | (refine Kh rfl _ rfl w.heap.size 4 rfl _ _ _ (AC x.cube.1) (AC x.cube.2) (AV _) (AV _) K1.out (Hb x) ?_)
   | (refine Kh rfl _ rfl q 4 rfl _ _ _ (AC s.cube.1) (AC s.cube.2) (AV _) (AV _) K2.out (Hb s) ?_))
  go_ret;exact⟨by simp,(aK _ _).alloc (aG _) _⟩
 ·go_enter Tryz.func210,Tryz.ntmps210;go_wp2_with fail;go_ret;exact⟨by simp[h1],(aK _ _).alloc (aG _) _⟩
theorem Aj3(x s:Ai)(w:World)(q:Nat)(hs:w.heap[q]?=some (.cells (Ac s) 102 (0,0))):
  Calls aA 180 #[.agg (Ac x),.pointer (some ⟨q,0,none⟩)] w fun r w'=>r=.returned (.bool (Rs s x))∧Below w.heap.size w w':=by
 have c1:=(Gh w x 102).c1;have c2:=(Gh w x 102).c2;have d1:=(E8 (Ah w (.cells (Ac x) 102) _ _ hs)).c1;have d2:=(E8 (Ah w (.cells (Ac x) 102) _ _ hs)).c2;have HR:Hid (Rs s x=(x.epoch==s.epoch&&x.place==s.place)):=rfl;rw[HR.out];clear HR hs;generalize x.epoch=a1 at c1 ⊢;generalize x.place=a2 at c2 ⊢;generalize s.epoch=b1 at d1 ⊢;generalize s.place=b2 at d2 ⊢;by_cases h1:a1=b1
 ·subst h1;by_cases h2:a2=b2
  ·subst h2;go_enter bS,bJ;go_wp2_with fail;go_ret;exact⟨by simp,(aK _ _).alloc (aG _) _⟩
  ·go_enter bS,bJ;go_wp2_with fail;go_ret;exact⟨by simp,(aK _ _).alloc (aG _) _⟩
 ·go_enter bS,bJ;go_wp2_with fail;go_ret;exact⟨by simp[h1],(aK _ _).alloc (aG _) _⟩
theorem Afk(x:Ai)(a b:Int)(w:World)(p q:Nat)(tp tq:TypeId)(hp:w.heap[p]?=some (.cells #[.int .i64 a] tp (0,0)))(hq:w.heap[q]?=some (.cells #[.int .i64 b] tq (0,0))):
  Calls aA 197 #[.agg (Ac x),.pointer (some ⟨p,0,none⟩),.pointer (some ⟨q,0,none⟩)] w fun r w'=>r=.returned (.bool (!(Hf a b x)))∧Below w.heap.size w w':=by
 have c1:=(Gh w x 102).c1;have c2:(w.alloc (.cells (Ac x) 102)).cell? ⟨p,0,none⟩=some (.int .i64 a):=by rw[cell_of_row _ _ _ _ _ _ (Ah w (.cells (Ac x) 102) _ _ hp)];rfl
 have c3:(w.alloc (.cells (Ac x) 102)).cell? ⟨q,0,none⟩=some (.int .i64 b):=by rw[cell_of_row _ _ _ _ _ _ (Ah w (.cells (Ac x) 102) _ _ hq)];rfl
 have HR:Hid (Hf a b x=((x.epoch==a) || (x.epoch==b))):=rfl;rw[HR.out];clear HR hp hq;generalize x.epoch=z at c1 ⊢;by_cases h1:z=a
 ·subst h1;go_enter bT,bK;go_wp2_with fail;go_ret;exact⟨by simp,(aK _ _).alloc (aG _) _⟩
 ·by_cases h2:z=b
  ·subst h2;go_enter bT,bK;go_wp2_with fail;go_ret;exact⟨by simp,(aK _ _).alloc (aG _) _⟩
  ·go_enter bT,bK;go_wp2_with fail;go_ret;exact⟨by simp;rfl,(aK _ _).alloc (aG _) _⟩
theorem Ac2(x y:Ai)(w:World):Calls aA 220 #[.agg (Ac x),.agg (Ac y)] w fun e w'=>e=.returned (.int .i64 (JQ x.used y.used))∧Below w.heap.size w w':=by
 have HC:Hid _:=Qu;have c1:=(NR.below (w':=(w.alloc (.cells (Ac x) 102)).alloc (.cells (Ac y) 102)) (Gh w x 102) (cB _ _ _ (by simp))).c34;have c2:=(Gh (w.alloc (.cells (Ac x) 102)) y 102).c34;rw[show(w.alloc (.cells (Ac x) 102)).heap.size=w.heap.size+1 by simp] at c2;go_enter Tryz.func220,Tryz.ntmps220;go_wp2_with (go_at_call 209;refine(HC.out _ _ _).mono ?_;rintro e w' ⟨rfl,rfl⟩);go_ret;exact⟨rfl,((aK _ _).alloc (aG _) _).alloc (by simp) _⟩
theorem Ac1(x s:Ai)(w:World)(q:Nat)(hs:w.heap[q]?=some (.cells (Ac s) 102 (0,0))):
  Calls aA 221 #[.agg (Ac x),.pointer (some ⟨q,0,none⟩)] w fun r w'=>r=.returned (.bool (Md x s))∧Below w.heap.size w w':=by
 have K1:Hid ((w.alloc (.cells (Ac x) 102)).heap[w.heap.size]?=some (.cells (Ac x) 102 (0,0))):=Ab _ _ _ rfl;have K2:Hid ((w.alloc (.cells (Ac x) 102)).heap[q]?=some (.cells (Ac s) 102 (0,0))):=Ah w (.cells (Ac x) 102) _ _ hs;have E:=Apd x s;have G:=egS;clear hs;go_enter Tryz.func221,Tryz.ntmps221
 go_wp2_with (first
  | (refine Eu (E:=EP) Fs rfl _ rfl w.heap.size 0 rfl _ _ _ (Ac x) (Bl x) K1.out (Ar _ _) ?_)
  | (refine Eu (E:=EP) Fs rfl _ rfl q 0 rfl _ _ _ (Ac s) (Bl s) K2.out (Ar _ _) ?_))
 go_ret;exact⟨rfl,(aK _ _).alloc (aG _) _⟩
end
section
variable {α:Type} {p:α→Int}
def LA(p:α→Int)(f:Nat→α)(s lo n:Nat):Prop:=∀i j,lo≤i→i<j→j<n→i/s=j/s→p (f j)≤p (f i)
theorem Aph{t q j:Nat}(ht:0<t)(h:t*q≤j):q≤j/t:=(bH ht).2 (by rw[bD];exact h)
theorem Afx{t q i:Nat}(ht:0<t)(h:q≤i/t):t*q≤i:=by
 have:=(bH ht).1 h;rwa [bD] at this
theorem Vv{t q i:Nat}(h1:t*q≤i)(h2:i<t*q+t):i/t=q:=by
 refine Nat.div_eq_of_lt_le ?_ ?_
 ·rw[bD];exact h1
 ·rw[bW,bF,bD q t];exact h2
theorem Ds.whole{f g:Nat→α}{a b n:Nat}(h:Ds p f g a b)(hab:a≤b)(hb:b≤n):BZ p (Bg g 0 n) (Bg f 0 n):=by
 have e:∀u:Nat→α,Bg u 0 n=Bg u 0 a++(Bg u a (b-a)++Bg u b (n-b)):=fun u=>by
  rw[show n=a+((b-a)+(n-b)) by omega,D8,D8,show 0+a+(b-a)=b by omega,bO,show a+(b-a+(n-b))-b=n-b by omega]
 rw[e,e];refine BZ.app ?_ (BZ.app h.alike ?_)
 ·rw[Ek (f:=g) (g:=f) (a:=0) (b:=0) fun i hi=>h.out _ (by omega)];exact BZ.refl _ _
 ·rw[Ek (f:=g) (g:=f) (a:=b) (b:=b) fun i hi=>h.out _ (by omega)];exact BZ.refl _ _
theorem Nb{f g:Nat→α}{t q n b:Nat}(ht:0<t)(h:LA p f t 0 (t*q))(hb1:t*q≤b)(hb2:b≤t*q+t)(m:Ds p f g (t*q) b)(hn:n=b):LA p g t 0 n:=by
 subst hn;intro i j _ hij hj he;by_cases c:t*q≤j
 ·have hi:t*q≤i:=Afx ht (by rw[he];exact Aph ht c);exact m.desc i j hi hij hj
 ·rw[m.out i (by omega),m.out j (by omega)];exact h i j (aX _) hij (by omega) he
theorem Ack{f g:Nat→α}{s a b n:Nat}(h:LA p f s a n)(hab:a≤b)(m:Ds p f g a b):LA p g s b n:=fun i j hi hij hj he=>by
 rw[m.out i (by omega),m.out j (by omega)]
 exact h i j (by omega) hij hj he
theorem Nc{f:Nat→α}{s q a n:Nat}(h:LA p f s a n)(ha:a≤s*q){b:Nat}(hb:b≤s*q+s)(hn:b≤n):Cn p f (s*q) b:=fun i j hi hij hj=>
 h i j (by omega) hij (by omega) (by rw[Vv hi (by omega),Vv (t:=s) (q:=q) (i:=j) (by omega) (by omega)])
theorem Ao1{f:Nat→α}{s n:Nat}(h:LA p f s 0 n)(hs:n≤s):Cn p f 0 n:=fun i j hi hij hj=>
 h i j hi hij hj (by rw[cC (by omega),cC (by omega)])
theorem Yc(f:Nat→α)(s:Nat):LA p f s 0 0:=fun i j _ _ hj _=>by omega
end
section
open Go.Lib Go.RowKit Go.Shelf Go.Sort
section
variable {α : Type} [Inhabited α]
theorem Wx(d : Array α) : Bg (AI d) 0 d.size = d.toList := by
  apply bB
  intro i
  unfold Bg AI
  by_cases hi : i < d.size
  · simp[hi]
  · simp[hi]
theorem Pk{β : Type}{enc : β → Array Value}{k : Nat}(hk :∀ x, (enc x).size = k)(C : List β) : (BC enc C).length = C.length*k := by
  induction C with
  | nil => simp[BC]
  | cons c C ih => rw[Hv, aZ, ih, aB, hk, List.length_cons, bW, bF, Nat.add_comm]
theorem Tl{enc : α → Array Value}{k : Nat}(hk :∀ x, (enc x).size = k)(C : List α)(t : Nat)(ht : t < C.length*k) : (BC enc C)[t]? = some ((enc C.toArray[t/k]!).toList[t%k]!) := by
  have k0 : 0 < k := by
    rcases Nat.eq_zero_or_pos k with h | h
    · subst h; simp at ht
    · exact h
  have hi : t/k < C.length := (Nat.div_lt_iff_lt_mul k0).2 ht
  have hj : t%k < k := Nat.mod_lt _ k0
  have := LU enc k C (fun c _ => hk c) (t/k) hi (t%k) hj
  rw[Nat.div_add_mod] at this
  rw[this]
  have e : C.toArray[t/k]! = C[t/k] := by simp[hi]
  rw[e]
  simp[hk, hj]
/-- A row of one's own, as the sort has it. -/
theorem Xx{enc : α → Array Value}{k : Nat}(hk :∀ x, (enc x).size = k){w : World}{g : Nat}{cur : Array Value}{ty : TypeId}{C : List α}(hg : w.heap[g]? = some (.cells cur ty (0, 0)))(hc : cur.toList.take (C.length*k) = BC enc C) :
    HoldsK (fun x => (enc x).toList) k w g 0 C.toArray := by
  intro t ht
  rw[size_flatK] at ht
  have ht' : t < C.length*k := by simpa using ht
  rw[get_flatK _ _ _ _ ht]
  refine⟨?_,?_⟩
  · rw[bO, cell_of_row w g t cur ty _ hg]
    have h1 := Tl hk C t ht'
    rw[← hc, aP ht', aV] at h1
    exact h1
  · simp[World.frozen?, hg]
theorem SWK.grownBy{enc : α → List Value}{k : Nat}{w W : World}{g off : Nat}{d : Array α}(h : SWK enc k w g off d W) : w.grownBy W (some g) := by
  obtain⟨n, os, rfl⟩ := h
  refine⟨rfl, rfl, rfl,?_, fun j hj hne => ?_⟩
  · unfold sortWorldK
    rw[size_grow, size_putRowK]
    exact Nat.le_add_right _ _
  · unfold sortWorldK grow putRowK putRow mapBlock Sort.ahead
    have : g ≠ j := fun e => hne (by rw[e])
    rw[aC (by simpa using hj), bI, if_neg this]
/-- .. and as it is then. -/
theorem Aat{enc : α → Array Value}{k : Nat}(hk :∀ x, (enc x).size = k){w W : World}{g : Nat}{cur : Array Value}{ty : TypeId}{d : Array α}(h : SWK (fun x => (enc x).toList) k w g 0 d W)(hg : w.heap[g]? = some (.cells cur ty (0, 0)))(hc : d.size*k ≤ cur.size) :
    ∃ cur', W.heap[g]? = some (.cells cur' ty (0, 0)) ∧ cur'.size = cur.size ∧ cur'.toList.take (d.size*k) = BC enc d.toList := by
  obtain⟨n, os, rfl⟩ := h
  have hlt : g < w.heap.size := (Array.getElem?_eq_some_iff.1 hg).1
  refine⟨putCells id 0 (flatK (fun x => (enc x).toList) k d) cur,?_,?_,?_⟩
  · unfold sortWorldK grow putRowK putRow mapBlock Sort.ahead
    simp only
    rw[aC (by simpa using hlt), bI, if_pos rfl, hg]
    rfl
  · simp[putCells]
  · apply bB
    intro t
    by_cases ht : t < d.size*k
    · rw[aP ht]
      have := Tl hk d.toList t (by simpa using ht)
      rw[this, aV]
      unfold putCells
      rw[Array.getElem?_mapIdx, Array.getElem?_eq_getElem (by omega), Option.map_some, if_pos (by rw[size_flatK]; omega), Nat.sub_zero, get_flatK _ _ _ _ ht]
      simp
    · rw[List.getElem?_take_eq_none (by omega), aT (by rw[Pk hk]; simp; omega)]
end
end
end Go.Proofs.YtbhkoipcpcoooaaGreat
