import Derived.Test.YtbhkoipcpcoooabGreatRows
import Derived.Test.YtbhkoipcpcoooabGreatProg
import Derived.ProofKit
import Derived.OpenShut
import Derived.Carry
import Derived.Sort.LotA
import Derived.WalkKit
import Derived.WalkSpells
import Derived.WalkLawsBesides
import Derived.BigQuiet
import Derived.KernelRfl
import Derived.Laws.StructEq
import Derived.Laws.Tables
import Derived.Laws.Rows
import Derived.StillTailTactics
namespace Go.Proofs.YtbhkoipcpcoooabGreat
set_option maxRecDepth 20000
set_option maxHeartbeats 64000000
open Go
open Go.Proofs.Tryz renaming prog → aA, underlying23 → aX, underlying5 → aZ, ntmps144 → bE, ntmps143 → bF, func144 → bJ, func143 → bK
open _root_.List renaming pairwise_append → aB, mem_append → aG, getElem?_eq_some_iff → aH, filter_append → aM, mem_iff_getElem? → aO, all_cons → aT, length_set → bA, mem_cons → bC, map_congr_left → bG, cons_append → bP, not_mem_nil → bQ, mem_filter → bR, forIn_cons → bW, mem_range → bX, getD → cB
open Go.Result renaming andThen_ok → aC
open _root_.Nat renaming le_refl → aD, mul_one → bB
open Go.RowKit.Below renaming refl → aI
open Go.Sem renaming run_bind → aJ, run_pure → aQ
open _root_.Array renaming getElem?_eq_some_iff → aK
open _root_.Int renaming le_refl → aL
open _root_.Bool renaming and_eq_true → aN, true_and → aV, false_eq_true → bI, not_false → bZ, false_and → cA
open Go.Op renaming equalIn → aP
open Go.Calls renaming quiet_of_same → aR
open _root_.Option.some renaming injEq → aW
open _root_.ForInStep renaming yield → bU, done → bY
section
open Go.ChangeAt Go.ChangeShapes Go.RowKit Go.WideElems Go.WideMaps Go.WideShapes
theorem Agf:ownKnob aA.godebug=none:=by kernel_rfl
theorem Ag1:laidOutB aA=true:=by kernel_rfl
end
section
open Go
section
variable {α:Type} (p:α→Int)
def Ev(l:List α):Prop:=l.Pairwise fun x y=>p y≤p x
def Bl(l l':List α):Prop:=∀k:Int,l.filter (fun x=>p x==k)=l'.filter (fun x=>p x==k)
theorem Bl.refl(l:List α):Bl p l l:=fun _=>rfl
variable {p}
theorem Bl.symm{l l':List α}(h:Bl p l l'):Bl p l' l:=fun k=>(h k).symm
theorem Bl.trans{l l' l'':List α}(h:Bl p l l')(h':Bl p l' l''):Bl p l l'':=fun k=>(h k).trans (h' k)
theorem Bl.app{a a' b b':List α}(h:Bl p a a')(h':Bl p b b'):Bl p (a++b) (a'++b'):=fun k=>by
 rw[aM,aM,h k,h' k]
theorem Bl.mem{l l':List α}(h:Bl p l l')(x:α):x∈l↔x∈l':=by
 have e:∀m:List α,x∈m↔x∈m.filter (fun y=>p y==p x):=fun m=>by simp[bR]
 rw[e l,h (p x), ←e l']
theorem Jo{X Y:List α}(h:∀y∈Y,∀x∈X,p x<p y):Bl p (X++Y) (Y++X):=fun k=>by
 rw[aM,aM]
 cases hx:X.filter (fun x=>p x==k) with
 | nil=>simp
 | cons x l=>
  have hxm:x∈X.filter (fun x=>p x==k):=by rw[hx];simp
  have hy:Y.filter (fun x=>p x==k)=[]:=by
   rw[List.filter_eq_nil_iff];intro y hy hk;have h1:=(bR.1 hxm);have:=h y hy x h1.1;simp at hk;have h2:=h1.2;simp at h2;omega
  rw[hy];simp
theorem U7{X1 X2 Y1 Y2 Z1 Z2:List α}(hX:Ev p (X1++X2))(hY:Ev p (Y1++Y2))(h1:∀x∈X1,∀y∈Y2,p y≤p x)(h2:∀y∈Y1,∀x∈X2,p x<p y)
  (d1:Ev p Z1) (a1:Bl p Z1 (X1++Y1)) (d2:Ev p Z2) (a2:Bl p Z2 (X2++Y2)):Ev p (Z1++Z2)∧Bl p (Z1++Z2) ((X1++X2)++(Y1++Y2)):=by
 refine⟨aB.2 ⟨d1,d2,fun u hu v hv=> ?_⟩,?_⟩
 ·have hx:=(aB.1 hX).2.2;have hy:=(aB.1 hY).2.2;rcases aG.1 ((a1.mem u).1 hu) with u1 | u1 <;> rcases aG.1 ((a2.mem v).1 hv) with v1 | v1
  ·exact hx u u1 v v1
  ·exact h1 u u1 v v1
  ·have:=h2 u u1 v v1;omega
  ·exact hy u u1 v v1
 ·have e:Bl p (X2++Y1) (Y1++X2):=Jo h2;refine(a1.app a2).trans ?_;have:=((Bl.refl p X1).app e.symm).app (Bl.refl p Y2);simpa[List.append_assoc] using this
end
section
variable {α:Type}
def AG(f:Nat→α)(a n:Nat):List α:=(List.range n).map fun i=>f (a+i)
theorem Dc(f:Nat→α)(a n m:Nat):AG f a (n+m)=AG f a n++AG f (a+n) m:=by
 unfold AG;rw[List.range_add,List.map_append,List.map_map];congr 1;apply bG;intro i _;simp[Nat.add_assoc]
theorem Dm{f g:Nat→α}{a b n:Nat}(h:∀i,i<n→f (a+i)=g (b+i)):AG f a n=AG g b n:=
 bG fun i hi=>h i (by simpa using hi)
theorem GB{f:Nat→α}{a n:Nat}{x:α}(h:x∈AG f a n):∃i,a≤i∧i<a+n∧f i=x:=by
 obtain⟨i,hi,rfl⟩:=List.mem_map.1 h;exact⟨a+i,by omega,by have:=bX.1 hi;omega,rfl⟩
theorem Lb(f:Nat→α)(a:Nat):AG f a 1=[f a]:=rfl
variable (p:α→Int)
def BE(f:Nat→α)(a b:Nat):Prop:=∀i j,a≤i→i<j→j<b→p (f j)≤p (f i)
variable {p}
theorem BE.seg{f:Nat→α}{a n:Nat}(h:BE p f a (a+n)):Ev p (AG f a n):=by
 unfold Ev AG;rw[List.pairwise_map];refine List.Pairwise.imp_of_mem ?_ List.pairwise_lt_range;intro i j hi hj hij;have:=bX.1 hj;exact h _ _ (by omega) (by omega) (by omega)
theorem Ev.of_seg{f:Nat→α}{a n:Nat}(h:Ev p (AG f a n)):BE p f a (a+n):=by
 intro i j hi hij hj;have h':=List.pairwise_iff_getElem.1 h (i-a) (j-a) (by simp[AG];omega) (by simp[AG];omega) (by omega);simp only[AG,List.getElem_map,List.getElem_range] at h';rwa [show a+(i-a)=i by omega,show a+(j-a)=j by omega] at h'
theorem BE.part{f:Nat→α}{a b a' b':Nat}(h:BE p f a b)(h1:a≤a')(h2:b'≤b):BE p f a' b':=fun i j hi hij hj=>h i j (by omega) hij (by omega)
theorem BE.congr{f g:Nat→α}{a b:Nat}(h:BE p f a b)(e:∀t,a≤t→t<b→g t=f t):BE p g a b:=fun i j hi hij hj=>by
 rw[e i hi (by omega),e j (by omega) hj];exact h i j hi hij hj
theorem BE.le{f:Nat→α}{a b:Nat}(h:BE p f a b){i j:Nat}(h1:a≤i)(h2:i≤j)(h3:j<b):p (f j)≤p (f i):=by
 by_cases e:i=j
 ·subst e;exact aL _
 ·exact h i j h1 (by omega) h3
def Fp(f:Nat→α)(a b n:Nat):Nat→α:=fun t=>if a≤t∧t<a+n then f (t+b-a) else if b≤t∧t<b+n then f (t+a-b) else f t
def BK(f:Nat→α)(a m b:Nat):Nat→α:=fun t=>if a≤t∧t<a+(b-m) then f (t+(m-a)) else if a+(b-m)≤t∧t<b then f (t-(b-m)) else f t
theorem YA(f:Nat→α)(m i j:Nat)(hi:i≤m)(h:j<i)(h0:0<j):BK (Fp f (m-i) m j) (m-(i-j)) m (m+j)=BK f (m-i) m (m+j):=by
 funext t;simp only[BK,Fp]
 repeat' split
 all_goals first | omega|(congr 1;omega) | rfl
theorem WD(f:Nat→α)(m i j:Nat)(hi:i≤m)(h:i<j)(h0:0<i):BK (Fp f (m-i) (m+j-i) i) (m-i) m (m+(j-i))=BK f (m-i) m (m+j):=by
 funext t;simp only[BK,Fp]
 repeat' split
 all_goals first | omega|(congr 1;omega) | rfl
theorem Abx(f:Nat→α)(m i:Nat)(hi:i≤m):Fp f (m-i) m i=BK f (m-i) m (m+i):=by
 funext t;simp only[BK,Fp]
 repeat' split
 all_goals first | omega|(congr 1;omega) | rfl
theorem Fc(f:Nat→α){a m b t:Nat}(hm:m≤b)(ham:a≤m)(h:t<a∨b≤t):BK f a m b t=f t:=by
 simp only[BK];rw[if_neg (by omega),if_neg (by omega)]
theorem RM(f:Nat→α){a m b:Nat}(ham:a≤m)(hmb:m≤b):AG (BK f a m b) a (b-a)=AG f m (b-m)++AG f a (m-a):=by
 rw[show b-a=(b-m)+(m-a) by omega,Dc];congr 1
 ·refine Dm fun i hi=> ?_;simp only[BK];rw[if_pos (by omega)];congr 1;omega
 ·refine Dm fun i hi=> ?_;simp only[BK];rw[if_neg (by omega),if_pos (by omega)];congr 1;omega
def Gz(f:Nat→α)(i j:Nat):Nat→α:=fun t=>if t=j then f i else if t=i then f j else f t
theorem Aec(f:Nat→α)(a k:Nat)(hk:a≤k):Gz (BK f a (a+1) (k+1)) k (k+1)=BK f a (a+1) (k+2):=by
 funext t;simp only[BK,Gz]
 repeat' split
 all_goals first | omega|(congr 1;omega) | rfl
theorem Abw(f:Nat→α)(a:Nat):BK f a (a+1) (a+1)=f:=by
 funext t;simp only[BK]
 repeat' split
 all_goals first | omega|(congr 1;omega) | rfl
theorem YB(f:Nat→α)(m k:Nat)(hk:k<m):Gz (BK f (k+1) m (m+1)) (k+1) k=BK f k m (m+1):=by
 funext t;simp only[BK,Gz]
 repeat' split
 all_goals first | omega|(congr 1;omega) | rfl
theorem WG(f:Nat→α)(m:Nat):BK f m m (m+1)=f:=by
 funext t;simp only[BK]
 repeat' split
 all_goals first | omega|(congr 1;omega) | rfl
theorem Wp(f:Nat→α)(a b i:Nat)(h:a+i<b):Gz (Fp f a b i) (a+i) (b+i)=Fp f a b (i+1):=by
 funext t;simp only[Fp,Gz]
 repeat' split
 all_goals first | omega|(congr 1;omega) | rfl
theorem Wo(f:Nat→α)(a b:Nat):Fp f a b 0=f:=by
 funext t;simp only[Fp]
 repeat' split
 all_goals first | omega | rfl
theorem WF(f:Nat→α)(m b:Nat):BK f m m b=f:=by
 funext t;simp only[BK]
 repeat' split
 all_goals first | omega|(congr 1;omega) | rfl
theorem WE(f:Nat→α)(a m:Nat):BK f a m m=f:=by
 funext t;simp only[BK]
 repeat' split
 all_goals first | omega|(congr 1;omega) | rfl
structure Cn(p:α→Int)(f g:Nat→α)(a b:Nat):Prop where
 out:∀t,t<a∨b≤t→g t=f t
 desc:BE p g a b
 alike:Bl p (AG g a (b-a)) (AG f a (b-a))
theorem Cn.refl{f:Nat→α}{a b:Nat}(h:BE p f a b):Cn p f f a b:=⟨fun _ _=>rfl,h,Bl.refl _ _⟩
theorem To{f g1 g2:Nat→α}{a m b mid start en:Nat}(h1:a≤start)(h2:start≤m)(h3:m≤en)(h4:en≤b)(hn:start+en=mid+m)(hmid:a≤mid∧mid≤b)
  (hX:BE p f a m) (hY:BE p f m b)
  (q1:start=a∨en=b∨p (f en)≤p (f (start-1))) (q2:start=m∨en=m∨p (f start)<p (f (en-1)))
  (m1:Cn p (BK f start m en) g1 a mid) (m2:Cn p g1 g2 mid b):Cn p f g2 a b:=by
 have eL:AG (BK f start m en) a (mid-a)=AG f a (start-a)++AG f m (en-m):=by
  rw[show mid-a=(start-a)+(en-m) by omega,Dc];congr 1
  ·refine Dm fun i hi=>Fc f h3 h2 (by omega)
  ·refine Dm fun i hi=> ?_;simp only[BK];rw[if_pos (by omega)];congr 1;omega
 have eR:AG (BK f start m en) mid (b-mid)=AG f start (m-start)++AG f en (b-en):=by
  rw[show b-mid=(m-start)+(b-en) by omega,Dc];congr 1
  ·refine Dm fun i hi=> ?_;simp only[BK];rw[if_neg (by omega),if_pos (by omega)];congr 1;omega
  ·refine Dm fun i hi=> ?_;rw[Fc f h3 h2 (by omega)];congr 1;omega
 have eR':AG g1 mid (b-mid)=AG f start (m-start)++AG f en (b-en):=by
  rw[←eR];exact Dm fun i hi=>m1.out _ (by omega)
 have eL':AG g2 a (mid-a)=AG g1 a (mid-a):=Dm fun i hi=>m2.out _ (by omega)
 have eX:AG f a (m-a)=AG f a (start-a)++AG f start (m-start):=by
  rw[show m-a=(start-a)+(m-start) by omega,Dc];congr 2;omega
 have eY:AG f m (b-m)=AG f m (en-m)++AG f en (b-en):=by
  rw[show b-m=(en-m)+(b-en) by omega,Dc];congr 2;omega
 have eA:AG f a (b-a)=AG f a (m-a)++AG f m (b-m):=by
  rw[show b-a=(m-a)+(b-m) by omega,Dc];congr 2;omega
 have eG:AG g2 a (b-a)=AG g1 a (mid-a)++AG g2 mid (b-mid):=by
  rw[←eL',show b-a=(mid-a)+(b-mid) by omega,Dc];congr 2;omega
 have dX:Ev p (AG f a (start-a)++AG f start (m-start)):=by
  rw[←eX];exact BE.seg (by rw[show a+(m-a)=m by omega];exact hX)
 have dY:Ev p (AG f m (en-m)++AG f en (b-en)):=by
  rw[←eY];exact BE.seg (by rw[show m+(b-m)=b by omega];exact hY)
 have d1:Ev p (AG g1 a (mid-a)):=BE.seg (by rw[show a+(mid-a)=mid by omega];exact m1.desc);have d2:Ev p (AG g2 mid (b-mid)):=BE.seg (by rw[show mid+(b-mid)=b by omega];exact m2.desc)
 obtain⟨D,A⟩:=U7 dX dY (fun x hx y hy=>by
   obtain⟨i,i1,i2,rfl⟩:=GB hx;obtain⟨j,j1,j2,rfl⟩:=GB hy;have e1:p (f (start-1))≤p (f i):=hX.le (by omega) (by omega) (by omega);have e2:p (f j)≤p (f en):=hY.le (by omega) (by omega) (by omega);omega) (fun y hy x hx=>by
   obtain⟨i,i1,i2,rfl⟩:=GB hx;obtain⟨j,j1,j2,rfl⟩:=GB hy;have e1:p (f i)≤p (f start):=hX.le (by omega) (by omega) (by omega);have e2:p (f (en-1))≤p (f j):=hY.le (by omega) (by omega) (by omega);omega) d1 (by rw[←eL];exact m1.alike) d2 (by rw[←eR'];exact m2.alike)
 refine⟨fun t ht=> ?_,?_,?_⟩
 ·rw[m2.out t (by omega),m1.out t (by omega),Fc f h3 h2 (by omega)]
 ·rw[←eG] at D;have:=Ev.of_seg D;rwa [show a+(b-a)=b by omega] at this
 ·rw[eG,eA,eX,eY];exact A
theorem Tp{f:Nat→α}{a m b start en mid:Nat}(h1:a≤start)(h2:start≤m)(h3:m≤en)(h4:en≤b)(hn:start+en=mid+m)(hX:BE p f a m)(hY:BE p f m b)(hc:¬(a<start∧start<mid)):
  BE p (BK f start m en) a mid:=by
 by_cases e:start=a
 ·subst e;intro i j hi hij hj;simp only[BK];rw[if_pos (by omega),if_pos (by omega)];exact hY _ _ (by omega) (by omega) (by omega)
 ·have:en=m:=by omega
  subst this;refine(hX.part (aD a) (b':=mid) (by omega)).congr fun t h5 h6=>Fc f (aD _) h2 (by omega)
theorem Mg{f g:Nat→α}{a m b start en mid:Nat}(h1:a≤start)(h2:start≤m)(h3:m≤en)(h4:en≤b)(hn:start+en=mid+m)(hX:BE p f a m)(hY:BE p f m b)(hg:∀t,mid≤t→g t=BK f start m en t)(hc:¬(mid<en∧en<b)):
  BE p g mid b:=by
 by_cases e:en=b
 ·subst e;intro i j hi hij hj;rw[hg _ (by omega),hg _ (by omega)];simp only[BK];rw[if_neg (by omega),if_pos (by omega),if_neg (by omega),if_pos (by omega)];exact hX _ _ (by omega) (by omega) (by omega)
 ·have:start=m:=by omega
  subst this;refine(hY.part (a':=mid) (by omega) (aD b)).congr fun t h5 h6=> ?_;rw[hg t h5];by_cases ht:t<en
  ·simp only[BK];rw[if_pos (by omega)];congr 1;omega
  ·exact Fc f h3 (aD _) (by omega)
theorem U6{f:Nat→α}{a i b:Nat}(h1:a+1≤i)(h2:i≤b)(hY:BE p f (a+1) b)(q1:i=a+1∨p (f a)<p (f (i-1)))(q2:i=b∨p (f i)≤p (f a)):Cn p f (BK f a (a+1) i) a b:=by
 have eG:AG (BK f a (a+1) i) a (b-a)=(AG f (a+1) (i-(a+1))++[f a])++AG f i (b-i):=by
  rw[show b-a=(i-a)+(b-i) by omega,Dc,RM f (by omega) h1];congr 1
  ·rw[show a+1-a=1 by omega,Lb]
  ·rw[show a+(i-a)=i by omega];exact Dm fun k hk=>Fc f h1 (by omega) (by omega)
 have eF:AG f a (b-a)=([f a]++AG f (a+1) (i-(a+1)))++AG f i (b-i):=by
  rw[show b-a=(1+(i-(a+1)))+(b-i) by omega,Dc,Dc,Lb];congr 2;omega
 have e1:∀y∈AG f (a+1) (i-(a+1)),p (f a)<p y:=fun y hy=>by
  obtain⟨j,j1,j2,rfl⟩:=GB hy;have:=hY.le (i:=j) (j:=i-1) (by omega) (by omega) (by omega);omega
 have e2:∀y∈AG f i (b-i),p y≤p (f a):=fun y hy=>by
  obtain⟨j,j1,j2,rfl⟩:=GB hy;have:=hY.le (i:=i) (j:=j) (by omega) (by omega) (by omega);omega
 have dY:Ev p (AG f (a+1) (i-(a+1))++AG f i (b-i)):=by
  have:=BE.seg (p:=p) (f:=f) (a:=a+1) (n:=b-(a+1)) (by rw[show a+1+(b-(a+1))=b by omega];exact hY);rw[show b-(a+1)=(i-(a+1))+(b-i) by omega,Dc,show a+1+(i-(a+1))=i by omega] at this;exact this
 obtain⟨y1,y2,y3⟩:=aB.1 dY;refine⟨fun t ht=>Fc f h1 (by omega) (by omega),?_,?_⟩
 ·have:Ev p (AG (BK f a (a+1) i) a (b-a)):=by
   rw[eG];refine aB.2 ⟨aB.2 ⟨y1,by simp,fun u hu v hv=> ?_⟩,y2,fun u hu v hv=> ?_⟩
   ·obtain rfl:v=f a:=by simpa using hv
    have:=e1 u hu;omega
   ·rcases aG.1 hu with hu | hu
    ·exact y3 u hu v hv
    ·obtain rfl:u=f a:=by simpa using hu
     exact e2 v hv
  have:=Ev.of_seg this;rwa [show a+(b-a)=b by omega] at this
 ·rw[eG,eF];refine Bl.app (Bl.symm (Jo ?_)) (Bl.refl _ _);intro y hy x hx;obtain rfl:x=f a:=by simpa using hx
  exact e1 y hy
theorem Tq{f:Nat→α}{a i m:Nat}(h1:a≤i)(h2:i≤m)(hX:BE p f a m)(q1:i=a∨p (f m)≤p (f (i-1)))(q2:i=m∨p (f i)<p (f m)):Cn p f (BK f i m (m+1)) a (m+1):=by
 have eG:AG (BK f i m (m+1)) a (m+1-a)=AG f a (i-a)++([f m]++AG f i (m-i)):=by
  rw[show m+1-a=(i-a)+(m+1-i) by omega,Dc];congr 1
  ·exact Dm fun k hk=>Fc f (by omega) h2 (by omega)
  ·rw[show a+(i-a)=i by omega,RM f h2 (by omega),show m+1-m=1 by omega,Lb]
 have eF:AG f a (m+1-a)=AG f a (i-a)++(AG f i (m-i)++[f m]):=by
  rw[show m+1-a=(i-a)+((m-i)+1) by omega,Dc,Dc,Lb,show a+(i-a)=i by omega,show i+(m-i)=m by omega]
 have e1:∀y∈AG f a (i-a),p (f m)≤p y:=fun y hy=>by
  obtain⟨j,j1,j2,rfl⟩:=GB hy;have:=hX.le (i:=j) (j:=i-1) (by omega) (by omega) (by omega);omega
 have e2:∀y∈AG f i (m-i),p y<p (f m):=fun y hy=>by
  obtain⟨j,j1,j2,rfl⟩:=GB hy;have:=hX.le (i:=i) (j:=j) (by omega) (by omega) (by omega);omega
 have dX:Ev p (AG f a (i-a)++AG f i (m-i)):=by
  have:=BE.seg (p:=p) (f:=f) (a:=a) (n:=m-a) (by rw[show a+(m-a)=m by omega];exact hX);rw[show m-a=(i-a)+(m-i) by omega,Dc,show a+(i-a)=i by omega] at this;exact this
 obtain⟨y1,y2,y3⟩:=aB.1 dX;refine⟨fun t ht=>Fc f (by omega) h2 (by omega),?_,?_⟩
 ·have:Ev p (AG (BK f i m (m+1)) a (m+1-a)):=by
   rw[eG];refine aB.2 ⟨y1,aB.2 ⟨by simp,y2,fun u hu v hv=> ?_⟩,fun u hu v hv=> ?_⟩
   ·obtain rfl:u=f m:=by simpa using hu
    have:=e2 v hv;omega
   ·rcases aG.1 hv with hv | hv
    ·obtain rfl:v=f m:=by simpa using hv
     exact e1 u hu
    ·exact y3 u hu v hv
  have:=Ev.of_seg this;rwa [show a+(m+1-a)=m+1 by omega] at this
 ·rw[eG,eF];refine Bl.app (Bl.refl _ _) (Jo ?_).symm;intro y hy x hx;obtain rfl:y=f m:=by simpa using hy
  exact e2 x hx
end
section
open Go.Sort
variable {α:Type} {p:α→Int}
theorem VX{f:Nat→α}{a b j:Nat}(ha:a≤j)(hb:j+1<b)(h:p (f j)<p (f (j+1))):Bl p (AG (Gz f (j+1) j) a (b-a)) (AG f a (b-a)):=by
 have e:∀g:Nat→α,AG g a (b-a)=AG g a (j-a)++(([g j]++[g (j+1)])++AG g (j+2) (b-(j+2))):=fun g=>by
  rw[show b-a=(j-a)+(2+(b-(j+2))) by omega,Dc,Dc,show a+(j-a)=j by omega];rfl
 rw[e,e];have s1:AG (Gz f (j+1) j) a (j-a)=AG f a (j-a):=Dm fun i hi=>by simp only[Gz];rw[if_neg (by omega),if_neg (by omega)]
 have s2:AG (Gz f (j+1) j) (j+2) (b-(j+2))=AG f (j+2) (b-(j+2)):=Dm fun i hi=>by simp only[Gz];rw[if_neg (by omega),if_neg (by omega)]
 rw[s1,s2];have s3:Gz f (j+1) j j=f (j+1):=by simp[Gz]
 have s4:Gz f (j+1) j (j+1)=f j:=by simp[Gz]
 rw[s3,s4];refine Bl.app (Bl.refl _ _) (Bl.app (Jo ?_).symm (Bl.refl _ _));intro y hy x hx;obtain rfl:y=f (j+1):=by simpa using hy
 obtain rfl:x=f j:=by simpa using hx
 exact h
def Jd(p:α→Int):α→α→Bool:=fun x y=>decide (p y<p x)
theorem Abk:SWO (Jd p):=⟨fun x=>by simp[Jd],fun x y z h1 h2=>by simp[Jd] at *;omega,fun x y z h1 h2=>by simp[Jd] at *;omega⟩
end
section
open Go.Sort
variable {α:Type} [Inhabited α] {p:α→Int}
def As(d:Array α):Nat→α:=fun i=>d[i]!
theorem ME(d:Array α)(i j:Nat)(hi:i<d.size)(hj:j<d.size):As (swp d i j)=Gz (As d) i j:=by
 funext t;unfold As Gz;rw[swp_get d hi hj]
theorem KQ(a b:Nat):∀(j:Nat) (d:Array α),j<b→b≤d.size→(insInner (Jd p) a j d).size=d.size∧Bl p (AG (As (insInner (Jd p) a j d)) a (b-a)) (AG (As d) a (b-a))
 | 0,d,_,_=>⟨rfl,Bl.refl _ _⟩
 | j+1,d,hj,hb=>by
  rw[insInner]
  split
  ·rename_i hc
   simp only[aN,decide_eq_true_eq,Jd] at hc
   obtain⟨i1,i2⟩:=KQ a b j (swp d (j+1) j) (by omega) (by rw[swp_size];exact hb)
   refine⟨by rw[i1,swp_size],i2.trans ?_⟩
   rw[ME d (j+1) j (by omega) (by omega)]
   exact VX (by omega) (by omega) hc.2
  ·exact⟨rfl,Bl.refl _ _⟩
theorem KO(a b:Nat):∀(n i:Nat) (d:Array α),b-i=n→b≤d.size→(insOuter (Jd p) a b i d).size=d.size∧Bl p (AG (As (insOuter (Jd p) a b i d)) a (b-a)) (AG (As d) a (b-a))
 | 0,i,d,hn,hb=>by
  rw[insOuter,if_neg (by omega)]
  exact⟨rfl,Bl.refl _ _⟩
 | n+1,i,d,hn,hb=>by
  rw[insOuter,if_pos (by omega)]
  obtain⟨i1,i2⟩:=KQ (p:=p) a b i d (by omega) hb
  obtain⟨j1,j2⟩:=KO a b n (i+1) (insInner (Jd p) a i d) (by omega) (by omega)
  exact⟨by rw[j1,i1],j2.trans i2⟩
theorem Vi(d:Array α)(a b:Nat)(hab:a≤b)(hb:b≤d.size):(insertionSort (Jd p) d a b).size=d.size∧Cn p (As d) (As (insertionSort (Jd p) d a b)) a b:=by
 obtain⟨⟨h1,h2,_⟩,h3⟩:=insertionSort_holds (lt:=Jd p) Abk d a b hab hb;refine⟨h1,⟨h2,fun i j hi hij hj=> ?_,(KO a b (b-(a+1)) (a+1) d rfl hb).2⟩⟩;have:=h3 i j hi hij hj;simp[Jd] at this;exact this
end
end
structure Ae where
 bank:Int
 epoch:Int
 place:Int
 order:Int
 cube:List Int×List Int
 action:Int
 one:Int
 two:Int
 born:Int
 used:Int
 count:Int
section
variable (m:Ae→Bool) (k:Ae→Int)
def Fa(C A:List Ae)(x:Ae)(B:List Ae):Prop:=C=A++x::B∧m x=true∧(∀y∈A,m y=true→k x<k y)∧∀y∈B,m y=true→k x≤k y
def AD:List Ae→Option (List Ae×Ae×List Ae)
 | []=>none
 | x::l=>match AD l with
  | none=>if m x then some ([],x,l) else none
  | some (A,y,B)=>if m x&&decide (k x≤k y) then some ([],x,l) else some (x::A,y,B)
variable {m k}
theorem CJ{C:List Ae}:AD m k C=none↔ ∀y∈C,m y=false:=by
 induction C with
 | nil=>simp[AD]
 | cons x l ih=>
  unfold AD
  cases h:AD m k l with
  | none=>
   have h1:=ih.1 h
   cases hm:m x with
   | true=>
    rw[if_pos rfl];constructor
    ·intro e;cases e
    ·intro e;have:=e x (by simp);rw[hm] at this;cases this
   | false=>
    rw[if_neg (by simp)];simp only[true_iff];intro y hy;rcases bC.1 hy with rfl | e
    ·exact hm
    ·exact h1 y e
  | some r=>
   obtain⟨A,y,B⟩:=r;constructor
   ·intro e;simp only at e;split at e <;> cases e
   ·intro e;have:=ih.2 fun y hy=>e y (List.mem_cons_of_mem _ hy);rw[h] at this;cases this
theorem Dx{C A B:List Ae}{x:Ae}(h:AD m k C=some (A,x,B)):Fa m k C A x B:=by
 induction C generalizing A x B with
 | nil=>cases h
 | cons z l ih=>
  unfold AD at h
  cases hl:AD m k l with
  | none=>
   rw[hl] at h;have h1:=CJ.1 hl
   cases hm:m z with
   | true=>
    rw[hm] at h;simp only[if_true,aW,Prod.mk.injEq] at h;obtain⟨rfl,rfl,rfl⟩:=h;exact⟨rfl,hm,fun y hy=>by simp at hy,fun y hy e=>by rw[h1 y hy] at e;cases e⟩
   | false=>
    rw[hm] at h;simp at h
  | some r=>
   obtain⟨A',y,B'⟩:=r;rw[hl] at h;obtain⟨e1,e2,e3,e4⟩:=ih hl;simp only at h;by_cases hc:(m z&&decide (k z≤k y))=true
   ·rw[if_pos hc] at h;simp only[aW,Prod.mk.injEq] at h;obtain⟨rfl,rfl,rfl⟩:=h;simp only[aN,decide_eq_true_eq] at hc;refine⟨rfl,hc.1,fun y hy=>by simp at hy,fun u hu hm=> ?_⟩;rw[e1] at hu;rcases aG.1 hu with h1 | h1
    ·have:=e3 u h1 hm;omega
    ·rcases bC.1 h1 with rfl | h1
     ·exact hc.2
     ·have:=e4 u h1 hm;omega
   ·rw[if_neg hc] at h;simp only[aW,Prod.mk.injEq] at h;obtain⟨rfl,rfl,rfl⟩:=h;refine⟨by rw[e1];rfl,e2,fun u hu hm=> ?_,e4⟩;rcases bC.1 hu with rfl | h1
    ·simp only[aN,decide_eq_true_eq,not_and] at hc;have:=hc hm;omega
    ·exact e3 u h1 hm
theorem Xo{C A A' B B':List Ae}{x x':Ae}(h:Fa m k C A x B)(h':Fa m k C A' x' B'):A=A'∧x=x'∧B=B':=by
 obtain⟨e1,e2,e3,e4⟩:=h;obtain⟨g1,g2,g3,g4⟩:=h';have e:A++x::B=A'++x'::B':=e1.symm.trans g1;rcases List.append_eq_append_iff.1 e with ⟨D,h1,h2⟩ | ⟨D,h1,h2⟩
 ·cases D with
  | nil=>
   simp at h1 h2;exact⟨h1.symm,h2.1,h2.2⟩
  | cons d D=>
   simp only[bP,List.cons.injEq] at h2;obtain⟨rfl,h3⟩:=h2;have q1:=g3 x (by rw[h1];simp) e2;have q2:=e4 x' (by rw[h3];simp) g2;omega
 ·cases D with
  | nil=>
   simp at h1 h2;exact⟨h1,h2.1.symm,h2.2.symm⟩
  | cons d D=>
   simp only[bP,List.cons.injEq] at h2;obtain⟨rfl,h3⟩:=h2;have q1:=e3 x' (by rw[h1];simp) g2;have q2:=g4 x (by rw[h3];simp) e2;omega
theorem Ll{C A B:List Ae}{x:Ae}:AD m k C=some (A,x,B)↔Fa m k C A x B:=by
 refine⟨Dx,fun h=> ?_⟩
 cases hl:AD m k C with
 | none=>
  have:=CJ.1 hl x (by rw[h.1];simp);rw[h.2.1] at this;cases this
 | some r=>
  obtain⟨A',x',B'⟩:=r;obtain⟨rfl,rfl,rfl⟩:=Xo (Dx hl) h;rfl
variable (m k)
def Ei(L:List Ae)(n:Nat)(c:Int):Prop:=
 (c= -1∧∀j y,j<n→L[j]?=some y→m y=false)∨∃(i:Nat) (x:Ae),c=(i:Int)∧i<n∧L[i]?=some x∧m x=true∧(∀j y,j<i→L[j]?=some y→m y=true→k x<k y)∧∀j y,i<j→j<n→L[j]?=some y→m y=true→k x≤k y
variable {m k}
theorem QI(L:List Ae):Ei m k L 0 (-1):=.inl ⟨rfl,fun j y h=>by omega⟩
theorem Jl{L:List Ae}{n:Nat}{c:Int}{y:Ae}(h:Ei m k L n c)(hy:L[n]?=some y)(hm:m y=false):Ei m k L (n+1) c:=by
 rcases h with ⟨h1,h2⟩ | ⟨i,x,h1,h2,h3,h4,h5,h6⟩
 ·refine .inl ⟨h1,fun j z hj hz=> ?_⟩;by_cases e:j=n
  ·subst e;rw[hy] at hz;cases hz;exact hm
  ·exact h2 j z (by omega) hz
 ·refine .inr ⟨i,x,h1,by omega,h3,h4,h5,fun j z hi hj hz hmz=> ?_⟩;by_cases e:j=n
  ·subst e;rw[hy] at hz;cases hz;rw[hm] at hmz;cases hmz
  ·exact h6 j z hi (by omega) hz hmz
theorem Nd{L:List Ae}{n:Nat}{y:Ae}(h:Ei m k L n (-1))(hy:L[n]?=some y)(hm:m y=true):Ei m k L (n+1) (n:Int):=by
 rcases h with ⟨_,h2⟩ | ⟨i,x,h1,_⟩
 ·exact .inr ⟨n,y,rfl,by omega,hy,hm,fun j z hj hz hmz=>(by rw[h2 j z hj hz] at hmz;cases hmz),fun j z hi hj=>by omega⟩
 ·omega
theorem OZ{L:List Ae}{n i:Nat}{x y:Ae}(h:Ei m k L n (i:Int))(hx:L[i]?=some x)(hy:L[n]?=some y)(hm:m y=true)(hk:k y<k x):Ei m k L (n+1) (n:Int):=by
 rcases h with ⟨h1,_⟩ | ⟨i',x',h1,h2,h3,h4,h5,h6⟩
 ·omega
 ·obtain rfl:i=i':=by omega
  rw[hx] at h3
  cases h3
  refine .inr ⟨n,y,rfl,by omega,hy,hm,fun j z hj hz hmz=> ?_,fun j z hi hj=>by omega⟩;rcases Nat.lt_trichotomy j i with e | e | e
  ·have:=h5 j z e hz hmz;omega
  ·subst e;rw[hx] at hz;cases hz;exact hk
  ·have:=h6 j z e hj hz hmz;omega
theorem O0{L:List Ae}{n i:Nat}{x y:Ae}(h:Ei m k L n (i:Int))(hx:L[i]?=some x)(hy:L[n]?=some y)(hk:¬k y<k x):Ei m k L (n+1) (i:Int):=by
 rcases h with ⟨h1,_⟩ | ⟨i',x',h1,h2,h3,h4,h5,h6⟩
 ·omega
 ·obtain rfl:i=i':=by omega
  rw[hx] at h3
  cases h3
  refine .inr ⟨i,x,rfl,by omega,hx,h4,h5,fun j z hi hj hz hmz=> ?_⟩;by_cases e:j=n
  ·subst e;rw[hy] at hz;cases hz;omega
  ·exact h6 j z hi (by omega) hz hmz
theorem Mp{L:List Ae}{c:Int}(h:Ei m k L L.length c):(c= -1∧AD m k L=none)∨∃(i:Nat) (x:Ae),c=(i:Int)∧i<L.length∧L[i]?=some x∧AD m k L=some (L.take i,x,L.drop (i+1)):=by
 rcases h with ⟨h1,h2⟩ | ⟨i,x,h1,h2,h3,h4,h5,h6⟩
 ·refine .inl ⟨h1,CJ.2 fun y hy=> ?_⟩;obtain⟨j,hj⟩:=aO.1 hy;exact h2 j y (aH.1 hj).1 hj
 ·refine .inr ⟨i,x,h1,h2,h3,Ll.2 ⟨?_,h4,fun y hy hm=> ?_,fun y hy hm=> ?_⟩⟩
  ·have e:=(aH.1 h3).2;rw[←e,List.getElem_cons_drop,List.take_append_drop]
  ·obtain⟨j,hj⟩:=aO.1 hy;have hj':=(aH.1 hj).1;rw[List.length_take] at hj';rw[List.getElem?_take_of_lt (by omega)] at hj;exact h5 j y (by omega) hj hm
  ·obtain⟨j,hj⟩:=aO.1 hy;rw[List.getElem?_drop] at hj;exact h6 (i+1+j) y (by omega) (aH.1 hj).1 hj hm
end
structure AP where
  life:Int
  floor:Int
  top:Int
  use:Int
  said:Int
  cnt:Int→Nat×Int
def Li(inc:Int):AP:=⟨inc,0,0,0,0,fun _=>(0,0)⟩
def Fr(h:AP)(e:Int):Bool:=decide (0<(h.cnt e).1)&&decide (((h.cnt e).1:Int)=(h.cnt e).2)
def DS(h:AP):AP:=
  {h with cnt:=fun e=>if e=h.floor∨e=h.top then h.cnt e else (0,0),
           use:=if h.use=h.floor∨h.use=h.top then h.use else 0,
           said:=if h.use=h.floor∨h.use=h.top then h.said else 0}
def D5(h:AP)(f:Int):AP:=if h.floor<f then DS {h with floor:=f,top:=max h.top f} else h
def Ey(h:AP)(e:Int):AP:=if h.top<e then DS {h with top:=e} else h
def GK(h:AP)(e o:Int):AP:={h with cnt:=fun x=>if x=e then ((h.cnt e).1+1,o) else h.cnt x}
def Dg(h:AP)(floor epoch at_ of:Int):AP×Int:=
  if floor<0∨epoch<1∨at_<0∨of≤at_ then (h,0) else
  if (epoch≠(Ey (D5 h floor) epoch).floor∧epoch≠(Ey (D5 h floor) epoch).top)∨(0<((Ey (D5 h floor) epoch).cnt epoch).1∧((Ey (D5 h floor) epoch).cnt epoch).2≠of)∨(((Ey (D5 h floor) epoch).cnt epoch).1:Int)<at_ then (Ey (D5 h floor) epoch,0) else
  if at_<(((Ey (D5 h floor) epoch).cnt epoch).1:Int) then (Ey (D5 h floor) epoch,2) else (GK (Ey (D5 h floor) epoch) epoch of,1)
def Ih(h:AP)(sent use:Int):AP:=
  if Fr h use=true then if use=h.use then {h with said:=max h.said sent} else if h.use<use then {h with use:=use,said:=sent} else h else h
def Eo(h:AP)(sent use floor:Int):AP×Bool:=
  if sent<0∨use<0∨floor<0 then (h,false) else (Ih (D5 h floor) sent use,decide (0<use)&&decide ((Ih (D5 h floor) sent use).use=use))
def Vb(h:AP)(now lease:Int):Bool:=decide (0<h.use)&&decide (min (max now 0) 1099511627776-h.said<lease)
structure DA(h:AP):Prop where
  floor0:0≤h.floor
  le:h.floor≤h.top
  two:∀e,0<(h.cnt e).1→(e=h.floor∨e=h.top)∧1≤e
  few:∀e,((h.cnt e).1:Int)≤(h.cnt e).2
  none_:∀e,(h.cnt e).1=0→(h.cnt e).2=0
  uses:h.use≠0→Fr h h.use=true
  use0:0≤h.use
  said0:h.use=0→h.said=0
theorem Ace(inc:Int):DA (Li inc):=⟨aL _,aL _,fun e h=>absurd h (by simp[Li]),fun e=>aL _,fun e _=>rfl,fun h=>absurd rfl h,aL _,fun _=>rfl⟩
theorem Hn{h:AP}{e:Int}:Fr h e=true↔0<(h.cnt e).1∧((h.cnt e).1:Int)=(h.cnt e).2:=by
  unfold Fr;rw[aN,decide_eq_true_eq,decide_eq_true_eq]
theorem QJ{h:AP}{f t:Int}(hk:DA h)(hf:h.floor≤f)(ht:f≤t):DA (DS {h with floor:=f,top:=t}):=by
  have hf0:=hk.floor0;refine⟨?_,ht,fun e he=> ?_,fun e=> ?_,fun e he=> ?_,fun he=> ?_,?_,fun he=> ?_⟩
  · show 0≤f;omega
  · unfold DS at he ⊢;dsimp only at he ⊢;split at he
    · rename_i hc;exact⟨hc,(hk.two e he).2⟩
    · exact absurd he (by simp)
  · unfold DS;dsimp only;split
    · exact hk.few e
    · simp
  · unfold DS at he ⊢;dsimp only at he ⊢;split at he
    · rename_i hc;rw[if_pos hc];exact hk.none_ e he
    · rename_i hc;rw[if_neg hc]
  · unfold DS at he ⊢;dsimp only at he ⊢;split at he
    · rename_i hc;have h1:=hk.uses he;rw[if_pos hc];rw[Hn] at h1 ⊢;dsimp only;simp only[if_pos hc];exact h1
    · exact absurd rfl he
  · unfold DS;dsimp only;split
    · exact hk.use0
    · exact aL _
  · unfold DS at he ⊢;dsimp only at he ⊢;split
    · rename_i hc;rw[if_pos hc] at he;exact hk.said0 he
    · rfl
theorem PD{h:AP}(hk:DA h)(f:Int):DA (D5 h f):=by
  unfold D5;split
  · exact QJ hk (by omega) (by omega)
  · exact hk
theorem Aby{h:AP}(hk:DA h)(e:Int):DA (Ey h e):=by
  unfold Ey;split
  · have:=hk.le;exact QJ (f:=h.floor) (t:=e) hk (aL _) (by omega)
  · exact hk
theorem Af9{h:AP}(hk:DA h){e o:Int}(h1:e=h.floor∨e=h.top)(h2:1≤e)(h3:0<(h.cnt e).1→(h.cnt e).2=o)(h4:((h.cnt e).1:Int)<o):DA (GK h e o):=by
  refine⟨hk.floor0,hk.le,fun x hx=> ?_,fun x=> ?_,fun x hx=> ?_,fun hu=> ?_,hk.use0,hk.said0⟩
  · unfold GK at hx;dsimp only at hx;by_cases ex:x=e
    · rw[ex];exact⟨h1,h2⟩
    · rw[if_neg ex] at hx;exact hk.two x hx
  · unfold GK;dsimp only;by_cases ex:x=e
    · rw[if_pos ex];dsimp only;omega
    · rw[if_neg ex];exact hk.few x
  · unfold GK at hx ⊢;dsimp only at hx ⊢;by_cases ex:x=e
    · rw[if_pos ex] at hx;exact absurd hx (by simp)
    · rw[if_neg ex] at hx ⊢;exact hk.none_ x hx
  · have h5:=hk.uses hu;rw[Hn] at h5 ⊢
    have hne:h.use≠e:=fun ex=>by
      rw[ex] at h5;have:=h3 h5.1;omega
    have e1:(GK h e o).cnt (GK h e o).use=h.cnt h.use:=by
      unfold GK;dsimp only;rw[if_neg hne]
    rw[e1];exact h5
theorem Acx{h:AP}(hk:DA h)(floor epoch at_ of:Int):DA (Dg h floor epoch at_ of).1:=by
  unfold Dg;split
  · exact hk
  · rename_i hc;have h1:=Aby (PD hk floor) epoch;split
    · exact h1
    · rename_i hd;split
      · exact h1
      · rename_i he;rw[not_or,not_or] at hd;refine Af9 h1 ?_ (by omega) (fun hp=>Classical.byContradiction fun hq=>hd.2.1 ⟨hp,hq⟩) (by omega);rcases Classical.em (epoch=(Ey (D5 h floor) epoch).floor) with e | e
        · exact .inl e
        · exact .inr (Classical.byContradiction fun e2=>hd.1 ⟨e,e2⟩)
theorem Aeb{h:AP}(hk:DA h){sent use:Int}:DA (Ih h sent use):=by
  unfold Ih;split
  · rename_i hf;split
    · rename_i hu;refine⟨hk.floor0,hk.le,hk.two,hk.few,hk.none_,hk.uses,hk.use0,fun h0=> ?_⟩;have h1:=(hk.two _ (Hn.1 hf).1).2;dsimp only at h0;omega
    · split
      · have h1:=(hk.two _ (Hn.1 hf).1).2;exact⟨hk.floor0,hk.le,hk.two,hk.few,hk.none_,fun _=>hf,(by show 0≤use;omega),fun h0=>by dsimp only at h0;omega⟩
      · exact hk
  · exact hk
theorem Acp{h:AP}(hk:DA h)(sent use floor:Int):DA (Eo h sent use floor).1:=by
  unfold Eo;split
  · exact hk
  · exact Aeb (PD hk floor)
structure Cq where
 seq:Int
 index:Int
 head:List Int
 sent:Int
 due:Int
structure BQ where
 room:Int
 tries:Int
 time:Int
 l:List Cq
 last:Nat
def GI(now:Int):Int:=min (max now 0) 1099511627776
def RZ(room tries time:Int):Option BQ:=if 1≤room∧room≤64∧0≤tries∧tries≤8∧1≤time∧time≤1000 then some ⟨room,tries,time,[],0⟩ else none
def Nq(w:BQ)(index:Int)(h:List Int)(now:Int):BQ:={w with l:=w.l++[⟨(w.last:Int)+1,index,h,1,GI now+w.time⟩],last:=w.last+1}
def EY(w:BQ)(index:Int)(h:List Int)(now:Int):BQ×Int×Int:=if (w.l.length:Int)=w.room then (w,0,13) else (Nq w index h now,(w.last:Int)+1,0)
def JD(s:Int)(x:Cq):Bool:=x.seq==s
def Ab0(w:BQ)(s:Int):BQ:={w with l:=w.l.filter fun x=> !(JD s x)}
def Br(w:BQ)(s:Int):BQ×Option Cq:=match w.l.find? (JD s) with
 | some x=>(Ab0 w s,some x)
 | none=>(w,none)
structure It(w:BQ):Prop where
 time1:1≤w.time
 tries0:0≤w.tries
 room1:1≤w.room
 len:(w.l.length:Int)≤w.room
 rise:w.l.Pairwise fun x y=>x.seq<y.seq
 seq:∀x∈w.l,1≤x.seq∧x.seq≤(w.last:Int)
 sent:∀x∈w.l,1≤x.sent∧x.sent≤w.tries+1
theorem Acd{room tries time:Int}{w:BQ}(h:RZ room tries time=some w):It w:=by
 unfold RZ at h;split at h
 ·rename_i hc;obtain rfl:=Option.some.inj h;exact⟨hc.2.2.2.2.1,hc.2.2.1,hc.1,by simp;omega,List.Pairwise.nil,fun x hx=>absurd hx (bQ),fun x hx=>absurd hx (bQ)⟩
 ·cases h
theorem Adx{w:BQ}(h:It w)(index:Int)(hd:List Int)(now:Int):It (EY w index hd now).1:=by
 unfold EY;split
 ·exact h
 ·rename_i hc;have hl:=h.len;have h0:=h.tries0;refine⟨h.time1,h.tries0,h.room1,?_,?_,fun x hx=> ?_,fun x hx=> ?_⟩
  ·show((w.l++_).length:Int)≤w.room;rw[List.length_append];simp;omega
  ·refine aB.2 ⟨h.rise,List.pairwise_singleton _ _,fun x hx y hy=> ?_⟩;obtain rfl:y=⟨(w.last:Int)+1,index,hd,1,GI now+w.time⟩:=by simpa using hy
   have:=(h.seq x hx).2;dsimp only;omega
  ·show 1≤x.seq∧x.seq≤((w.last+1:Nat):Int);rcases aG.1 hx with hx | hx
   ·have:=h.seq x hx;omega
   ·obtain rfl:x=⟨(w.last:Int)+1,index,hd,1,GI now+w.time⟩:=by simpa using hx
    dsimp only;omega
  ·show 1≤x.sent∧x.sent≤w.tries+1;rcases aG.1 hx with hx | hx
   ·exact h.sent x hx
   ·obtain rfl:x=⟨(w.last:Int)+1,index,hd,1,GI now+w.time⟩:=by simpa using hx
    dsimp only;omega
theorem Abl{w:BQ}(h:It w){l:List Cq}(hs:l.Sublist w.l):It {w with l:=l}:=
 ⟨h.time1,h.tries0,h.room1,by have:=h.len;have:=hs.length_le;show(l.length:Int)≤w.room;omega,h.rise.sublist hs,fun x hx=>h.seq x (hs.subset hx),fun x hx=>h.sent x (hs.subset hx)⟩
theorem VV{w:BQ}(h:It w)(s:Int):It (Br w s).1:=by
 unfold Br;split
 ·exact Abl h List.filter_sublist
 ·exact h
def alike(D s:Int)(l:List Cq):Prop:=∀x∈l,x.due=D∧x.sent=s
section
open Go.RowKit
theorem Ef{a b:Bool}(h:a=b):Ending.returned (.bool a)=.returned (.bool b):=by rw[h]
theorem Abz{k:IntKind}{a b:Int}(h:a=b):Ending.returned (.int k a)=.returned (.int k b):=by rw[h]
def hv(L:List Int):Array Value:=(L.map (Value.int .u8)).toArray
def Ax(L:List Int):Prop:=L.length=13∧∀k,0≤L.getD k 0∧L.getD k 0<256
theorem DE(L:List Int):(hv L).size=L.length:=by simp[hv]
theorem IL(L:List Int)(hL:L.length=13)(k:Nat)(hk:k<13):(hv L)[k]?=some (.int .u8 (L.getD k 0)):=by
 unfold hv;simp[List.getElem?_map,List.getElem?_eq_getElem (show k<L.length by omega),cB]
theorem KT(L:List Int):(hv L).all (·.oneCell')=true:=by
 simp[hv,Value.oneCell']
theorem Rh(L:List Int)(hL:L.length=13)(k:Nat)(hk:k<13)(w:World):(part 5 (hv L) k).run aA w=.ok (.int .u8 (L.getD k 0)) w:=by
 have u5:=aZ;have hx:=IL L hL k hk;have hz:∀w,(sizeOf 5).run aA w=.ok 1 w:=fun w=>by kernel_rfl
 have ha:∀w,(isAgg 5).run aA w=.ok false w:=fun w=>by kernel_rfl
 simp[part,ha,hx,aJ]
theorem Aeq(L M:List Int)(hL:L.length=13)(hM:M.length=13)(w:World)(k:Option Bool×Unit→World→Result Bool)(k1:k (some false,()) w=.ok false w)(k2:k (none,()) w=.ok true w):∀(is:List Nat),(∀i∈is,i<13)→
  ((forIn is ((none,()):Option Bool×Unit) fun i (_:Option Bool×Unit)=>(do
      if !(←aP 9999 5 (←part 5 (hv L) (i*1)) (←part 5 (hv M) (i*1))) then pure (bY (some false,())) else pure (bU (none,())):Sem (ForInStep (Option Bool×Unit)))).run aA w).andThen k=.ok (is.all fun i=>L.getD i 0==M.getD i 0) w:=by
 intro is;induction is with
 | nil=>intro _;simpa using k2
 | cons i is ih=>
  intro h;have hi:=h i (by simp);have ih':=ih (fun j hj=>h j (by simp[hj]));have e:(aP 9999 5 (.int .u8 (L.getD i 0)) (.int .u8 (M.getD i 0))).run aA w=.ok (L.getD i 0==M.getD i 0) w:=run_equalIn_int w 9998 5 .u8 .u8 _ _ aZ;simp only[bW,aJ,bB,Rh L hL i hi,Rh M hM i hi,aC,e];by_cases hc:(L.getD i 0==M.getD i 0)=true
  ·simp only[hc,Bool.not_true,bI,if_false,aQ,aC,aT,aV];simpa only[aJ,bB] using ih'
  ·have hc':(L.getD i 0==M.getD i 0)=false:=by simpa using hc
   simp only[hc',bZ,if_true,aQ,aC,aT,cA];exact k1
theorem Ri(d:Nat)(L M:List Int)(hL:L.length=13)(hM:M.length=13)(w:World)(k:Option Bool×Unit→World→Result Bool)(k1:k (some false,()) w=.ok false w)(k2:k (none,()) w=.ok true w):∀(is:List Nat),(∀i∈is,i<13)→
  ((forIn is ((none,()):Option Bool×Unit) fun i (_:Option Bool×Unit)=>(do
      if !(←aP (d+1) 5 (←part 5 (hv L) (i*1)) (←part 5 (hv M) (i*1))) then pure (bY (some false,())) else pure (bU (none,())):Sem (ForInStep (Option Bool×Unit)))).run aA w).andThen k=.ok (is.all fun i=>L.getD i 0==M.getD i 0) w:=by
 intro is;induction is with
 | nil=>intro _;simpa using k2
 | cons i is ih=>
  intro h;have hi:=h i (by simp);have ih':=ih (fun j hj=>h j (by simp[hj]));have e:(aP (d+1) 5 (.int .u8 (L.getD i 0)) (.int .u8 (M.getD i 0))).run aA w=.ok (L.getD i 0==M.getD i 0) w:=run_equalIn_int w d 5 .u8 .u8 _ _ aZ;simp only[bW,aJ,bB,Rh L hL i hi,Rh M hM i hi,aC,e];by_cases hc:(L.getD i 0==M.getD i 0)=true
  ·simp only[hc,Bool.not_true,bI,if_false,aQ,aC,aT,aV];simpa only[aJ,bB] using ih'
  ·have hc':(L.getD i 0==M.getD i 0)=false:=by simpa using hc
   simp only[hc',bZ,if_true,aQ,aC,aT,cA];exact k1
theorem Mw(L M:List Int)(hL:L.length=13)(hM:M.length=13):((List.range' 0 13).all fun i=>L.getD i 0==M.getD i 0)=(L==M):=by
 rw[Bool.eq_iff_iff];simp only[List.all_eq_true,List.mem_range'_1,beq_iff_eq];constructor
 ·intro h;apply List.ext_getElem (by omega);intro k h1 h2;have:=h k ⟨by omega,by omega⟩;simpa[cB,h1,h2] using this
 ·rintro rfl k _;rfl
theorem Agl(L M:List Int)(hL:L.length=13)(hM:M.length=13)(w:World):
  (aP 10000 23 (.agg (hv L)) (.agg (hv M))).run aA w=.ok (L==M) w:=by
 have z5:(sizeOf 5).run aA w=.ok 1 w:=by kernel_rfl
 rw[show(10000:Nat)=9999+1 from rfl,aP];simp only[aJ,run_underlying aX,aC,z5];simp only[Std.Legacy.Range.forIn_eq_forIn_range',Std.Legacy.Range.size,Nat.sub_zero,Nat.add_sub_cancel,Nat.div_one];rw[←Mw L M hL hM];exact Aeq L M hL hM w _ rfl rfl (List.range' 0 13) (fun i hi=>by simp at hi;omega)
structure Al(W:World) where
 world:World
 below:Below W.heap.size W world
theorem Al.ne(W:World):Nonempty (Al W):=⟨⟨W,aI _ _⟩⟩
theorem AR{P:Program}{id:Nat}{Q:Exit→Act→World→Prop}{a:Act}{w:World}{l:List Oper}(hm:P.follows .mixedOrders=true)(hB:Region.lexB .any l.toArray=true)
  (h:wpQuiet P l.toArray (fun w'=> ∃u:Al w,w'=u.world) (fun a'=> ∀w',(∃u:Al w,w'=u.world)→Q .normal a' w') l a):(Code.region id l.toArray true).wp P Q a w:=
 wp_region_quiet (C:=fun w'=> ∃u:Al w,w'=u.world) hm hB ⟨⟨w.drew,(aI _ _).drew⟩,rfl⟩ (by simpa using h)
theorem Calls.later_of{P:Program}{f:FuncId}{args:Array Value}{W:World}{u:Al W}{v:Value}
  (h:Calls P f args u.world fun e w'=>e=.returned v∧Below u.world.heap.size u.world w'):Calls P f args u.world fun e w''=>e=.returned v∧∃u':Al W,w''=u'.world:=
 h.mono fun _ w1 ⟨he,hb⟩=>⟨he,⟨w1,u.below.trans (hb.mono u.below.size)⟩,rfl⟩
theorem Ij{P:Program}{ops:Array Oper}{C:World→Prop}{Q:Act→Prop}{rest:List Oper}{o:Oper}{a:Act}(hw:Region.wanted o (yielded ops a.tmps)=true)(ty:TypeId)(x:Operand)(ho:o.op=.load ty x)
  (g:Nat) (hx:a.eval x=.pointer (some ⟨g,0,none⟩)) (t:TypeId) (cs:Array Value) (fr:Nat×Nat) (d:TypeDesc) (hg:∀w',C w'→w'.heap[g]?=some (.cells cs t fr))
  (hu:P.underlying ty=some d) (hd:(match d with | .struct _ | .array _ _=>true | _=>false)=true) (hi:(P.info? ty).map (·.size)=some cs.size)
  (h:wpQuiet P ops C Q rest (a.put o.dst (.agg cs))):wpQuiet P ops C Q (o::rest) a:=by
 refine BigFrame.wpQuiet_want hw fun K hK=>⟨.agg cs,fun w hC=> ?_,hK _ h⟩;unfold Oper.quietAt execOp;simp only[ho,hx,Instr.loadAt,Instr.sureAddr,aJ,aQ,aC,run_loadVar_row w g t ty cs fr d (hg w hC) hu hd hi];exact⟨rfl,rfl⟩
theorem Ai{W:World}{g:Nat}{o:Obj}(h:W.heap[g]?=some o):∀w',(∃u:Al W,w'=u.world)→w'.heap[g]?=some o:=by
 rintro w' ⟨u,rfl⟩
 have hlt:g<W.heap.size:=by
  rcases aK.1 h with ⟨hl,_⟩;exact hl
 rw[u.below.block g hlt,h]
theorem Ic(L:List Int)(hL:L.length=13):(aA.info? 23).map (·.size)=some (hv L).size:=by
 rw[DE,hL];kernel_rfl
theorem Dk{ops:Array Oper}{rest:List Oper}{o:Oper}{a:Act}{w:World}{Q:Exit→Act→World→Prop}(hgd:o.guard=none)(x:Operand)(ho:o.op=.load 23 x)
  (g:Nat) (hx:a.eval x=.pointer (some ⟨g,0,none⟩)) (L:List Int) (hg:w.heap[g]?=some (.cells (hv L) 23 (0,0))) (hL:L.length=13)
  (h:wpList aA ops Q rest (a.put o.dst (.agg (hv L))) w):wpList aA ops Q (o::rest) a w:=
 wpList_load_row hgd 23 x ho g hx 23 (hv L) (0,0) _ hg aX rfl (Ic L hL) h
theorem FV{ops:Array Oper}{rest:List Oper}{o:Oper}{a:Act}{w:World}{Q:Exit→Act→World→Prop}(hgd:o.guard=none)(x y:Operand)(ho:o.op=.store 23 x y)
  (g:Nat) (L:List Int) (hx:a.eval x=.pointer (some ⟨g,0,none⟩)) (hy:a.eval y=.agg (hv L)) (old:Array Value) (hg:w.heap[g]?=some (.cells old 23 (0,0))) (hold:old.size=13) (hL:L.length=13)
  (w':World) (hw':w.setRow g (hv L)=w')
  (h:wpList aA ops Q rest (a.put o.dst undef) w'):wpList aA ops Q (o::rest) a w:=
 wpList_store_row hgd 23 x y ho g (hv L) hx hy 23 old hg (Ic L hL) (by rw[DE,hold,hL]) (KT L) (by rw[hw'];exact h)
theorem BD(w:World)(old cs:Array Value)(t:TypeId)(g:Nat)(hg:g=w.heap.size):(w.alloc (.cells old t)).setRow g cs=w.alloc (.cells cs t):=by
 subst hg;simp only[World.setRow,World.alloc];congr 1;apply Array.ext
 ·simp
 ·intro k h1 h2;simp only[Array.getElem_modify,Array.getElem_push];by_cases hk:k<w.heap.size
  ·simp[hk,show¬w.heap.size=k by omega]
  ·have:w.heap.size=k:=by simp at h2;omega
   simp[this]
theorem Te(w:World)(g:Nat)(cs:Array Value):w.drew.setRow g cs=(w.setRow g cs).drew:=rfl
theorem Ak{B:Nat}{a w:World}(h:Below B a w){g:Nat}(hg:B≤g)(cs:Array Value):Below B a (w.setRow g cs):=
 ⟨h.os,h.tape,h.output,by simpa using h.size,fun k hk=>(setRow_other w g k cs (by omega)).trans (h.block k hk)⟩
theorem Ld{fn:Func}{R:Ending→World→Prop}{a:Act}{w:World}{p:Tmp}(hr:fn.results=#[.cell p 23])(hd:a.defers=[])(g:Nat)(hp:a.tmps.getD p undef=.pointer (some ⟨g,0,none⟩))(L:List Int)(hL:L.length=13)
  (hg:w.heap[g]?=some (.cells (hv L) 23 (0,0))) (h:R (.returned (.agg (hv L))) w):bodyPost aA fn R .ret a w:=
 bodyPost_ret (v:=.agg (hv L)) (results_cell_row hr _ _ g 23 (hv L) (0,0) _ hp hg aX rfl (Ic L hL)) hd h
theorem Ac(w:World)(o:Obj)(g:Nat)(hg:g=w.heap.size):(w.alloc o).heap[g]?=some o:=by rw[hg];exact heap_alloc_new w o
theorem Af(w:World)(o x:Obj)(g:Nat)(h:w.heap[g]?=some x):(w.alloc o).heap[g]?=some x:=by
 rw[Below.heap_alloc w o g (aK.1 h).1];exact h
theorem eX{α:Type _}(a:α):∃x,x=a:=⟨_,rfl⟩
theorem pU:(∀(a:Act) (d:Tmp) (v:Value),Act.put a (some d) v={a with tmps:=a.tmps.setIfInBounds d v})∧(∀(a:Act) (v:Value),Act.put a none v=a)∧(∀(l:List Value) (i:Nat) (v:Value),l.toArray.setIfInBounds i v=(l.set i v).toArray)∧(∀(a b:Value) (l:List Value) (n:Nat),(a::l).set (n+1) b=a::l.set n b)∧∀(a b:Value) (l:List Value),(a::l).set 0 b=b::l:=⟨fun _ _ _=>rfl,fun _ _=>rfl,fun _ _ _=>by simp,fun _ _ _ _=>rfl,fun _ _ _=>rfl⟩
theorem gS{α:Type _}{a:Array α}{i:Nat}{v:α}(h:a[i]?=some v):i<a.size:=(aK.1 h).1
theorem rL{P:Program}{id:Nat}{Q:Exit→Act→World→Prop}{a:Act}{w:World}{l:List Oper}(h:wpQuiet P l.toArray (fun w'=> ∃u:Al w,w'=u.world) (fun a'=> ∀w',(∃u:Al w,w'=u.world)→Q .normal a' w') l a)(hm:P.follows .mixedOrders=true:=by kernel_rfl)(hB:Region.lexB .any l.toArray=true:=by kernel_rfl):(Code.region id l.toArray true).wp P Q a w:=AR hm hB h
theorem Qz(i:Int)(w:World)(h0:0≤i)(h1:i<104):
  Calls aA 144 #[.int .i64 i] w fun e w'=>e=.returned (.bool true)∧w'=w:=by
 go_enter bJ,bE;go_wp2;go_ret;exact⟨Ef (by simp),rfl⟩
theorem Si(i:Int)(w:World)(h:¬(0≤i∧i<104)):
  Calls aA 144 #[.int .i64 i] w fun e w'=>e=.returned (.bool false)∧w'=w:=by
 by_cases h0:0≤i
 ·have h1:104≤i:=by omega
  go_enter bJ,bE;go_wp2;go_ret;exact⟨Ef (by simp;omega),rfl⟩
 ·go_enter bJ,bE;go_wp2;go_ret;exact⟨Ef (by simp),rfl⟩
theorem Qi(i:Int)(w:World)(h0:0≤i)(h1:i<104):
  Calls aA 145 #[.int .i64 i] w fun e w'=>e=.returned (.int .u8 (128/2 ^ (i%8).toNat))∧w'=w:=by
 go_enter Tryz.func145,Tryz.ntmps145;go_wp2;go_ret;exact⟨rfl,rfl⟩
set_option maxRecDepth 100000 in
theorem Adv:∀x:Fin 256,∀j:Fin 8,(bits .and .u8 (x.val:Int) (128/2 ^ j.val) !=0)=((x.val:Int)/2 ^ (7-j.val)%2==1):=by decide+kernel
set_option maxRecDepth 100000 in
theorem Aba:∀x:Fin 256,∀j:Fin 8,bits .xor .u8 (bits .xor .u8 (x.val:Int) (128/2 ^ j.val)) (128/2 ^ j.val)=(x.val:Int)∧bits .xor .u8 (x.val:Int) (128/2 ^ j.val)≠(x.val:Int)∧0≤bits .xor .u8 (x.val:Int) (128/2 ^ j.val)∧bits .xor .u8 (x.val:Int) (128/2 ^ j.val)<256:=by decide+kernel
set_option maxRecDepth 100000 in
theorem Ym:∀x:Fin 256,∀j:Fin 8,∀k:Fin 8,(bits .xor .u8 (x.val:Int) (128/2 ^ j.val)/2 ^ (7-k.val)%2==1)=(((x.val:Int)/2 ^ (7-k.val)%2==1) !=decide (j=k)):=by decide+kernel
theorem Adw(x i:Int)(hb0:0≤x)(hb1:x<256):(bits .and .u8 x (128/2 ^ (i%8).toNat) !=0)=(x/2 ^ (7-i%8).toNat%2==1):=by
 have h:=Adv ⟨x.toNat,by omega⟩ ⟨(i%8).toNat,by omega⟩;simp only[] at h;rw[show((x.toNat:Nat):Int)=x by omega,show 7-(i%8).toNat=(7-i%8).toNat by omega] at h;exact h
def Dp(L:List Int)(i:Int):Int:=L.getD (i/8).toNat 0
def EK(L:List Int)(i:Int):Bool:=decide (0≤i∧i<104)&&(Dp L i/2 ^ (7-i%8).toNat%2==1)
theorem Jj(L:List Int)(hL:Ax L)(i:Int)(w:World):
  Calls aA 143 #[.agg (hv L),.int .i64 i] w fun e w'=>e=.returned (.bool (EK L i))∧Below w.heap.size w w':=by
 by_cases hin:0≤i∧i<104
 ·obtain⟨h0,h1⟩:=hin;obtain⟨x,hx,hxe⟩:∃x,(hv L)[(i/8).toNat]?=some (.int .u8 x)∧x=Dp L i:=⟨_,IL L hL.1 _ (by omega),rfl⟩;have hb:0≤x∧x<256:=by rw[hxe];exact hL.2 _
  obtain⟨hb0,hb1⟩:=hb;have HX:Hid _:=hxe;clear hxe;go_enter bK,bF;go_wp2;go_ret;refine⟨Ef ?_,(aI _ _).alloc (aD _) _⟩;rw[Int.tmod_eq_emod_of_nonneg (Int.ediv_nonneg hb0 (Int.pow_nonneg (by decide))),HX.out];simp[EK,h0,h1]
 ·by_cases h0:i<0
  ·go_enter bK,bF;go_wp2;go_ret;exact⟨Ef (by simp[EK];omega),(aI _ _).alloc (aD _) _⟩
  ·have h1:103<i:=by omega
   have h0':0≤i:=by omega
   go_enter bK,bF;go_wp2;go_ret;exact⟨Ef (by simp[EK];omega),(aI _ _).alloc (aD _) _⟩
theorem Adp(L:List Int)(hL:Ax L)(i:Int)(w:World):
  Calls aA 132 #[.agg (hv L),.int .i64 i] w fun e w'=>e=.returned (.bool (EK L i))∧Below w.heap.size w w':=by
 by_cases hin:0≤i∧i<104
 ·obtain⟨h0,h1⟩:=hin;obtain⟨x,hx,hxe⟩:∃x,(hv L)[(i/8).toNat]?=some (.int .u8 x)∧x=Dp L i:=⟨_,IL L hL.1 _ (by omega),rfl⟩;have hb:0≤x∧x<256:=by rw[hxe];exact hL.2 _
  obtain⟨hb0,hb1⟩:=hb;have HX:Hid _:=hxe;clear hxe;go_enter Tryz.func132,Tryz.ntmps132;go_wp2;go_quiet (first|(go_at_call 144;exact aR (Qz _ _ h0 h1))|(go_at_call 145;exact aR (Qi _ _ h0 h1)));go_wp2;go_ret;refine⟨Ef ?_,below_drewN ((aI _ _).alloc (aD _) _) _⟩;rw[Adw x i hb0 hb1,HX.out];simp[EK,h0,h1]
 ·go_enter Tryz.func132,Tryz.ntmps132;go_wp2;go_quiet (first|(go_at_call 144;exact aR (Si _ _ hin)));go_wp2;go_ret;exact⟨Ef (by simp[EK];omega),below_drewN ((aI _ _).alloc (aD _) _) _⟩
def He(L:List Int)(i:Int):List Int:=if 0≤i∧i<104 then L.set (i/8).toNat (bits .xor .u8 (Dp L i) (128/2 ^ (i%8).toNat)) else L
theorem IC{P:Program}{ops:Array Oper}{w:World}{Q:Act→Prop}:∀(l:List Oper) (a:Act),wpQuiet P ops (fun w'=>w'=w) Q l a→wpStill P ops w Q l a
 | [],_,h=>h
 | o::rest,a,h=>by
  unfold wpQuiet at h
  unfold wpStill
  split at h
  ·rename_i hw
   rw[if_pos hw]
   obtain⟨v,h1,h2⟩:=h
   have h2':=IC rest _ h2
   have h1':=h1 w rfl
   unfold Oper.quietAt at h1'
   unfold Oper.still
   revert h1'
   generalize (execOp a.eval o).run P w=r
   intro h1'
   match r,h1' with
   | .ok (.value u) w',⟨e1,e2⟩=>exact⟨e1,by rw[e2];exact h2'⟩
   | .ok .skip w',⟨e1,e2⟩=>exact⟨e1,by rw[←e2];exact h2'⟩
   | .ok (.enter f args) w',⟨e1,e2⟩=>exact⟨e1,v,e2,h2'⟩
  ·rename_i hw
   rw[if_neg hw]
   exact IC rest _ h
theorem E8{P:Program}{id:Nat}{Q:Exit→Act→World→Prop}{a:Act}{w:World}{l:List Oper}(n:Nat)(hm:P.follows .mixedOrders=true)(hB:Region.lexTailB .any l.toArray n=true)
  (h:wpQuiet P l.toArray (fun w'=>w'=w.drew) (fun a'=>wpList P l.toArray Q (l.drop n) a' w.drew) (l.take n) a):(Code.region id l.toArray true).wp P Q a w:=
 wp_region_still_tail n hm hB (IC _ _ h)
theorem Mo{w:World}{g:Nat}{x:Obj}(h:w.heap[g]?=some x):w.drew.heap[g]?=some x:=h
theorem Mn(L:List Int)(k:Nat)(v:Int):(hv L).setIfInBounds k (.int .u8 v)=hv (L.set k v):=by
 unfold hv;rw[List.setIfInBounds_toArray, ←List.map_set]
theorem Adb(L:List Int)(hL:Ax L)(i:Int)(w:World)(h0:0≤i)(h1:i<104):
  Calls aA 154 #[.agg (hv L),.int .i64 i] w fun e w'=>e=.returned (.agg (hv (He L i)))∧Below w.heap.size w w':=by
 obtain⟨x,hx,hxe⟩:∃x,(hv L)[(i/8).toNat]?=some (.int .u8 x)∧x=Dp L i:=⟨_,IL L hL.1 _ (by omega),rfl⟩;have hb:0≤x∧x<256:=by rw[hxe];exact hL.2 _
 obtain⟨hb0,hb1⟩:=hb;have HX:Hid _:=hxe;clear hxe;go_enter Tryz.func154,Tryz.ntmps154;go_wp2_with (first|(go_at_call 144;refine(Qz _ _ h0 h1).mono ?_;rintro e w' ⟨rfl,rfl⟩));refine E8 8 (by kernel_rfl) (by kernel_rfl) ?_;simp only[List.take_succ_cons,List.take_zero,List.drop_succ_cons,List.drop_zero]
 iterate 5 (go_big_quiet_step (fail))
 go_big_quiet_want;go_big_quiet_op;refine⟨_,Qi _ _ h0 h1,?_⟩;go_big_quiet_on;go_big_quiet_step (fail);go_big_quiet_step (fail);refine wpQuiet_nil ?_;have hL2:(L.set (i/8).toNat (bits .xor .u8 x (128/2 ^ (i%8).toNat))).length=13:=by rw[bA];exact hL.1
 go_wp2_with (first
  | (refine Dk rfl _ rfl w.heap.size rfl (L.set (i/8).toNat (bits .xor .u8 x (128/2 ^ (i%8).toNat))) (Mo (by rw[←Mn];exact Af _ _ _ _ (Ac _ _ _ rfl))) hL2 ?_)
  | (refine FV rfl _ _ rfl (w.heap.size+1) (L.set (i/8).toNat (bits .xor .u8 x (128/2 ^ (i%8).toNat))) rfl rfl _ (Mo (Ac _ _ _ (by simp))) rfl hL2 _ (by rw[Te,BD _ _ _ _ _ (by simp)]) ?_))
 refine Ld (p:=4) rfl rfl (w.heap.size+1) rfl _ hL2 (Mo (Ac _ _ _ (by simp))) ⟨?_,?_⟩
 ·rw[HX.out];unfold He;rw[if_pos ⟨h0,h1⟩]
 ·exact(((aI _ _).alloc (aD _) _).alloc (by simp) _).drew
theorem Ada(L:List Int)(hL:Ax L)(i:Int)(w:World)(hin:¬(0≤i∧i<104)):
  Calls aA 154 #[.agg (hv L),.int .i64 i] w fun e w'=>e=.returned (.agg (hv (He L i)))∧Below w.heap.size w w':=by
 have hf:He L i=L:=by unfold He;rw[if_neg hin]
 rw[hf];clear hf;go_enter Tryz.func154,Tryz.ntmps154;go_wp2_with (first|(go_at_call 144;refine(Si _ _ hin).mono ?_;rintro e w' ⟨rfl,rfl⟩)|(refine Dk rfl _ rfl w.heap.size rfl L (Af _ _ _ _ (Ac _ _ _ rfl)) hL.1 ?_)|(refine FV rfl _ _ rfl (w.heap.size+1) L rfl rfl _ (Ac _ _ _ (by simp)) rfl hL.1 _ (BD _ _ _ _ _ (by simp)) ?_));refine Ld (p:=4) rfl rfl (w.heap.size+1) rfl L hL.1 (Ac _ _ _ (by simp)) ⟨rfl,?_⟩;exact((aI _ _).alloc (aD _) _).alloc (by simp) _
theorem ZH(L:List Int)(hL:Ax L)(i:Int)(w:World):
  Calls aA 154 #[.agg (hv L),.int .i64 i] w fun e w'=>e=.returned (.agg (hv (He L i)))∧Below w.heap.size w w':=by
 by_cases hin:0≤i∧i<104
 ·exact Adb L hL i w hin.1 hin.2
 ·exact Ada L hL i w hin
theorem GH(L:List Int)(j k:Nat)(v:Int)(hj:j<L.length):(L.set j v).getD k 0=if j=k then v else L.getD k 0:=by
 simp only[cB,List.getElem?_set];by_cases h:j=k
 ·subst h;simp[hj]
 ·simp[h]
theorem Rq(x i:Int)(hx:0≤x∧x<256):bits .xor .u8 (bits .xor .u8 x (128/2 ^ (i%8).toNat)) (128/2 ^ (i%8).toNat)=x∧bits .xor .u8 x (128/2 ^ (i%8).toNat)≠x∧0≤bits .xor .u8 x (128/2 ^ (i%8).toNat)∧bits .xor .u8 x (128/2 ^ (i%8).toNat)<256:=by
 have h:=Aba ⟨x.toNat,by omega⟩ ⟨(i%8).toNat,by omega⟩;simp only[] at h;rw[show((x.toNat:Nat):Int)=x by omega] at h;exact h
theorem Wj(x i k:Int)(hx:0≤x∧x<256):(bits .xor .u8 x (128/2 ^ (i%8).toNat)/2 ^ (7-k%8).toNat%2==1)=((x/2 ^ (7-k%8).toNat%2==1) !=decide (i%8=k%8)):=by
 have h:=Ym ⟨x.toNat,by omega⟩ ⟨(i%8).toNat,by omega⟩ ⟨(k%8).toNat,by omega⟩;simp only[Fin.mk.injEq] at h;rw[show((x.toNat:Nat):Int)=x by omega,show 7-(k%8).toNat=(7-k%8).toNat by omega] at h;rw[h];congr 1;rw[decide_eq_decide];omega
theorem ZF(L:List Int)(hL:Ax L)(i:Int):Ax (He L i):=by
 unfold He;split
 ·rename_i h;refine⟨by rw[bA];exact hL.1,fun k=> ?_⟩;rw[GH _ _ _ _ (by rw[hL.1];omega)];split
  ·exact⟨(Rq (Dp L i) i (hL.2 _)).2.2.1,(Rq (Dp L i) i (hL.2 _)).2.2.2⟩
  ·exact hL.2 k
 ·exact hL
theorem ZG(L:List Int)(hL:Ax L)(i k:Int):EK (He L i) k=(EK L k !=(decide (0≤i∧i<104)&&decide (i=k))):=by
 by_cases h:0≤i∧i<104
 ·rw[decide_eq_true h];unfold He;rw[if_pos h];by_cases hk:0≤k∧k<104
  ·have hlt:(i/8).toNat<L.length:=by rw[hL.1];omega
   unfold EK;rw[decide_eq_true hk];simp only[aV];unfold Dp;rw[GH _ _ _ _ hlt];by_cases e:(i/8).toNat=(k/8).toNat
   ·rw[if_pos e];have:=Wj (L.getD (i/8).toNat 0) i k (hL.2 _);rw[this, ←e];congr 1;rw[decide_eq_decide];omega
   ·rw[if_neg e,decide_eq_false (show¬i=k by rintro rfl;exact e rfl)];simp
  ·unfold EK;rw[decide_eq_false hk,decide_eq_false (show¬i=k by rintro rfl;exact hk h)];simp
 ·unfold He;rw[if_neg h,decide_eq_false h];simp
abbrev H7:Array Value:=#[.int .u8 0,.int .u8 0,.int .u8 0,.int .u8 0,.int .u8 0,.int .u8 0,.int .u8 0,.int .u8 0,.int .u8 0,.int .u8 0,.int .u8 0,.int .u8 0,.int .u8 0]
def GY(L:List Int)(i:Int)(b:Bool):List Int:=
 if EK L i=b then L else if b then L.set (i/8).toNat (Dp L i+128/2 ^ (i%8).toNat) else L.set (i/8).toNat (Dp L i-128/2 ^ (i%8).toNat)
set_option maxRecDepth 100000 in
theorem Ae5:∀x:Fin 256,∀j:Fin 8,((x.val:Int)/2 ^ (7-j.val)%2==1)=false→(x.val:Int)+128/2 ^ j.val<256∧∀k:Fin 8,(((x.val:Int)+128/2 ^ j.val)/2 ^ (7-k.val)%2==1)=if k=j then true else ((x.val:Int)/2 ^ (7-k.val)%2==1):=by decide+kernel
set_option maxRecDepth 100000 in
theorem ZV:∀x:Fin 256,∀j:Fin 8,((x.val:Int)/2 ^ (7-j.val)%2==1)=true→0≤(x.val:Int)-128/2 ^ j.val∧∀k:Fin 8,(((x.val:Int)-128/2 ^ j.val)/2 ^ (7-k.val)%2==1)=if k=j then false else ((x.val:Int)/2 ^ (7-k.val)%2==1):=by decide+kernel
theorem TS(x i:Int)(hx:0≤x∧x<256)(h:(x/2 ^ (7-i%8).toNat%2==1)=false):x+128/2 ^ (i%8).toNat<256∧∀k:Int,((x+128/2 ^ (i%8).toNat)/2 ^ (7-k%8).toNat%2==1)=if k%8=i%8 then true else (x/2 ^ (7-k%8).toNat%2==1):=by
 have hh:=Ae5 ⟨x.toNat,by omega⟩ ⟨(i%8).toNat,by omega⟩;simp only[show((x.toNat:Nat):Int)=x by omega,show 7-(i%8).toNat=(7-i%8).toNat by omega] at hh;obtain⟨h1,h2⟩:=hh h;refine⟨h1,fun k=> ?_⟩;have h3:=h2 ⟨(k%8).toNat,by omega⟩;simp only[Fin.mk.injEq,show 7-(k%8).toNat=(7-k%8).toNat by omega] at h3;rw[h3];by_cases e:k%8=i%8
 ·rw[if_pos (by rw[e]),if_pos e]
 ·rw[if_neg (by omega),if_neg e]
theorem QP(x i:Int)(hx:0≤x∧x<256)(h:(x/2 ^ (7-i%8).toNat%2==1)=true):0≤x-128/2 ^ (i%8).toNat∧∀k:Int,((x-128/2 ^ (i%8).toNat)/2 ^ (7-k%8).toNat%2==1)=if k%8=i%8 then false else (x/2 ^ (7-k%8).toNat%2==1):=by
 have hh:=ZV ⟨x.toNat,by omega⟩ ⟨(i%8).toNat,by omega⟩;simp only[show((x.toNat:Nat):Int)=x by omega,show 7-(i%8).toNat=(7-i%8).toNat by omega] at hh;obtain⟨h1,h2⟩:=hh h;refine⟨h1,fun k=> ?_⟩;have h3:=h2 ⟨(k%8).toNat,by omega⟩;simp only[Fin.mk.injEq,show 7-(k%8).toNat=(7-k%8).toNat by omega] at h3;rw[h3];by_cases e:k%8=i%8
 ·rw[if_pos (by rw[e]),if_pos e]
 ·rw[if_neg (by omega),if_neg e]
theorem L5(i:Int):0≤(128:Int)/2 ^ (i%8).toNat∧(128:Int)/2 ^ (i%8).toNat≤128:=by
 have:∀j:Fin 8,0≤(128:Int)/2 ^ j.val∧(128:Int)/2 ^ j.val≤128:=by decide
 exact this ⟨(i%8).toNat,by omega⟩
theorem Jx(L:List Int)(i:Int)(h0:0≤i)(h1:i<104):EK L i=(Dp L i/2 ^ (7-i%8).toNat%2==1):=by
 unfold EK;rw[decide_eq_true ⟨h0,h1⟩,aV]
theorem Yu(L:List Int)(hL:Ax L)(i:Int)(b:Bool)(h0:0≤i)(h1:i<104):
  Ax (GY L i b)∧∀k,0≤k→k<104→EK (GY L i b) k=if k=i then b else EK L k:=by
 have hlt:(i/8).toNat<L.length:=by rw[hL.1];omega
 have hx:0≤Dp L i∧Dp L i<256:=hL.2 _;have hs:=L5 i;by_cases e:EK L i=b
 ·have es:GY L i b=L:=by unfold GY;rw[if_pos e]
  rw[es];refine⟨hL,fun k _ _=> ?_⟩;by_cases ek:k=i
  ·rw[if_pos ek,ek,e]
  ·rw[if_neg ek]
 ·cases b
  focus
   have hbt:(Dp L i/2 ^ (7-i%8).toNat%2==1)=true:=by
    rw[←Jx L i h0 h1];cases h:EK L i
    ·exact absurd h e
    ·rfl
   have es:GY L i false=L.set (i/8).toNat (Dp L i-128/2 ^ (i%8).toNat):=by unfold GY;rw[if_neg e];rfl
   obtain⟨g1,g2⟩:=QP _ i hx hbt
  rotate_left
  focus
   have hbt:(Dp L i/2 ^ (7-i%8).toNat%2==1)=false:=by
    rw[←Jx L i h0 h1];cases h:EK L i
    ·rfl
    ·exact absurd h e
   have es:GY L i true=L.set (i/8).toNat (Dp L i+128/2 ^ (i%8).toNat):=by unfold GY;rw[if_neg e];rfl
   obtain⟨g1,g2⟩:=TS _ i hx hbt
  all_goals
   rw[es];refine⟨⟨by rw[bA];exact hL.1,fun k=> ?_⟩,fun k hk0 hk1=> ?_⟩
   ·rw[GH _ _ _ _ hlt];split
    ·omega
    ·exact hL.2 k
   ·rw[Jx _ k hk0 hk1,Jx _ k hk0 hk1];unfold Dp;rw[GH _ _ _ _ hlt];by_cases ek:(i/8).toNat=(k/8).toNat
    ·rw[if_pos ek];have g3:=g2 k;unfold Dp at g3;rw[g3,ek];by_cases e2:k=i
     ·rw[if_pos e2,if_pos (by rw[e2])]
     ·rw[if_neg e2,if_neg (by omega)]
    ·rw[if_neg ek,if_neg (by rintro rfl;exact ek rfl)]
end
end Go.Proofs.YtbhkoipcpcoooabGreat
