import Derived.Test.YtbhkoipcpcoooaaGreatRows
import Derived.Test.YtbhkoipcpcoooaaGreatProg
import Derived.ProofKit
import Derived.OpenShut
import Derived.Carry
import Derived.Sort.LotA
import Derived.WalkKit
import Derived.WalkSpells
import Derived.WalkLawsBesides
import Derived.BigQuiet
import Derived.KernelRfl
import Derived.Laws.StructEq
import Derived.Laws.Tables
import Derived.Laws.Rows
import Derived.StillTailTactics
namespace Go.Proofs.YtbhkoipcpcoooaaGreat
set_option maxRecDepth 20000
set_option maxHeartbeats 64000000
open Go
open Go.Proofs.Tryz renaming prog → aA, underlying35 → aY, underlying5 → bA, ntmps212 → bF, ntmps162 → bG, func212 → bN, func162 → bO
open _root_.List renaming pairwise_append → aB, mem_append → aG, getElem?_eq_some_iff → aH, filter_append → aN, mem_iff_getElem? → aP, all_cons → aV, length_set → bB, mem_cons → bD, map_congr_left → bH, mem_filterMap → bJ, cons_append → bR, not_mem_nil → bS, mem_filter → bT, forIn_cons → bY, mem_range → bZ, getD → cE
open Go.Result renaming andThen_ok → aC
open _root_.Nat renaming le_refl → aD, mul_one → bC
open Go.RowKit.Below renaming refl → aI
open Go.Sem renaming run_bind → aJ, run_pure → aR
open _root_.Array renaming getElem?_eq_some_iff → aK
open _root_.Int renaming le_refl → aL
open _root_.Option.some renaming inj → aM, injEq → aX
open _root_.Bool renaming and_eq_true → aO, true_and → aW, false_eq_true → bK, not_false → cC, false_and → cD
open Go.Op renaming equalIn → aQ
open Go.Calls renaming quiet_of_same → aT
open _root_.ForInStep renaming yield → bX, done → cB
section
open Go.ChangeAt Go.ChangeShapes Go.RowKit Go.WideElems Go.WideMaps Go.WideShapes
theorem Aau:ownKnob aA.godebug=none:=by kernel_rfl
theorem Nx:laidOutB aA=true:=by kernel_rfl
end
section
open Go
section
variable {α:Type} (p:α→Int)
def Ge(l:List α):Prop:=l.Pairwise fun x y=>p y≤p x
def BZ(l l':List α):Prop:=∀k:Int,l.filter (fun x=>p x==k)=l'.filter (fun x=>p x==k)
theorem BZ.refl(l:List α):BZ p l l:=fun _=>rfl
variable {p}
theorem BZ.symm{l l':List α}(h:BZ p l l'):BZ p l' l:=fun k=>(h k).symm
theorem BZ.trans{l l' l'':List α}(h:BZ p l l')(h':BZ p l' l''):BZ p l l'':=fun k=>(h k).trans (h' k)
theorem BZ.app{a a' b b':List α}(h:BZ p a a')(h':BZ p b b'):BZ p (a++b) (a'++b'):=fun k=>by
 rw[aN,aN,h k,h' k]
theorem BZ.mem{l l':List α}(h:BZ p l l')(x:α):x∈l↔x∈l':=by
 have e:∀m:List α,x∈m↔x∈m.filter (fun y=>p y==p x):=fun m=>by simp[bT]
 rw[e l,h (p x), ←e l']
theorem Mv{X Y:List α}(h:∀y∈Y,∀x∈X,p x<p y):BZ p (X++Y) (Y++X):=fun k=>by
 rw[aN,aN]
 cases hx:X.filter (fun x=>p x==k) with
 | nil=>simp
 | cons x l=>
  have hxm:x∈X.filter (fun x=>p x==k):=by rw[hx];simp
  have hy:Y.filter (fun x=>p x==k)=[]:=by
   rw[List.filter_eq_nil_iff];intro y hy hk;have h1:=(bT.1 hxm);have:=h y hy x h1.1;simp at hk;have h2:=h1.2;simp at h2;omega
  rw[hy];simp
theorem Ab2{X1 X2 Y1 Y2 Z1 Z2:List α}(hX:Ge p (X1++X2))(hY:Ge p (Y1++Y2))(h1:∀x∈X1,∀y∈Y2,p y≤p x)(h2:∀y∈Y1,∀x∈X2,p x<p y)
  (d1:Ge p Z1) (a1:BZ p Z1 (X1++Y1)) (d2:Ge p Z2) (a2:BZ p Z2 (X2++Y2)):Ge p (Z1++Z2)∧BZ p (Z1++Z2) ((X1++X2)++(Y1++Y2)):=by
 refine⟨aB.2 ⟨d1,d2,fun u hu v hv=> ?_⟩,?_⟩
 ·have hx:=(aB.1 hX).2.2;have hy:=(aB.1 hY).2.2;rcases aG.1 ((a1.mem u).1 hu) with u1 | u1 <;> rcases aG.1 ((a2.mem v).1 hv) with v1 | v1
  ·exact hx u u1 v v1
  ·exact h1 u u1 v v1
  ·have:=h2 u u1 v v1;omega
  ·exact hy u u1 v v1
 ·have e:BZ p (X2++Y1) (Y1++X2):=Mv h2;refine(a1.app a2).trans ?_;have:=((BZ.refl p X1).app e.symm).app (BZ.refl p Y2);simpa[List.append_assoc] using this
end
section
variable {α:Type}
def Bg(f:Nat→α)(a n:Nat):List α:=(List.range n).map fun i=>f (a+i)
theorem D8(f:Nat→α)(a n m:Nat):Bg f a (n+m)=Bg f a n++Bg f (a+n) m:=by
 unfold Bg;rw[List.range_add,List.map_append,List.map_map];congr 1;apply bH;intro i _;simp[Nat.add_assoc]
theorem Ek{f g:Nat→α}{a b n:Nat}(h:∀i,i<n→f (a+i)=g (b+i)):Bg f a n=Bg g b n:=
 bH fun i hi=>h i (by simpa using hi)
theorem Jh{f:Nat→α}{a n:Nat}{x:α}(h:x∈Bg f a n):∃i,a≤i∧i<a+n∧f i=x:=by
 obtain⟨i,hi,rfl⟩:=List.mem_map.1 h;exact⟨a+i,by omega,by have:=bZ.1 hi;omega,rfl⟩
theorem OI(f:Nat→α)(a:Nat):Bg f a 1=[f a]:=rfl
variable (p:α→Int)
def Cn(f:Nat→α)(a b:Nat):Prop:=∀i j,a≤i→i<j→j<b→p (f j)≤p (f i)
variable {p}
theorem Cn.seg{f:Nat→α}{a n:Nat}(h:Cn p f a (a+n)):Ge p (Bg f a n):=by
 unfold Ge Bg;rw[List.pairwise_map];refine List.Pairwise.imp_of_mem ?_ List.pairwise_lt_range;intro i j hi hj hij;have:=bZ.1 hj;exact h _ _ (by omega) (by omega) (by omega)
theorem Ge.of_seg{f:Nat→α}{a n:Nat}(h:Ge p (Bg f a n)):Cn p f a (a+n):=by
 intro i j hi hij hj;have h':=List.pairwise_iff_getElem.1 h (i-a) (j-a) (by simp[Bg];omega) (by simp[Bg];omega) (by omega);simp only[Bg,List.getElem_map,List.getElem_range] at h';rwa [show a+(i-a)=i by omega,show a+(j-a)=j by omega] at h'
theorem Cn.part{f:Nat→α}{a b a' b':Nat}(h:Cn p f a b)(h1:a≤a')(h2:b'≤b):Cn p f a' b':=fun i j hi hij hj=>h i j (by omega) hij (by omega)
theorem Cn.congr{f g:Nat→α}{a b:Nat}(h:Cn p f a b)(e:∀t,a≤t→t<b→g t=f t):Cn p g a b:=fun i j hi hij hj=>by
 rw[e i hi (by omega),e j (by omega) hj];exact h i j hi hij hj
theorem Cn.le{f:Nat→α}{a b:Nat}(h:Cn p f a b){i j:Nat}(h1:a≤i)(h2:i≤j)(h3:j<b):p (f j)≤p (f i):=by
 by_cases e:i=j
 ·subst e;exact aL _
 ·exact h i j h1 (by omega) h3
def Ha(f:Nat→α)(a b n:Nat):Nat→α:=fun t=>if a≤t∧t<a+n then f (t+b-a) else if b≤t∧t<b+n then f (t+a-b) else f t
def Cp(f:Nat→α)(a m b:Nat):Nat→α:=fun t=>if a≤t∧t<a+(b-m) then f (t+(m-a)) else if a+(b-m)≤t∧t<b then f (t-(b-m)) else f t
theorem Aht(f:Nat→α)(m i j:Nat)(hi:i≤m)(h:j<i)(h0:0<j):Cp (Ha f (m-i) m j) (m-(i-j)) m (m+j)=Cp f (m-i) m (m+j):=by
 funext t;simp only[Cp,Ha]
 repeat' split
 all_goals first | omega|(congr 1;omega) | rfl
theorem Ae5(f:Nat→α)(m i j:Nat)(hi:i≤m)(h:i<j)(h0:0<i):Cp (Ha f (m-i) (m+j-i) i) (m-i) m (m+(j-i))=Cp f (m-i) m (m+j):=by
 funext t;simp only[Cp,Ha]
 repeat' split
 all_goals first | omega|(congr 1;omega) | rfl
theorem Am7(f:Nat→α)(m i:Nat)(hi:i≤m):Ha f (m-i) m i=Cp f (m-i) m (m+i):=by
 funext t;simp only[Cp,Ha]
 repeat' split
 all_goals first | omega|(congr 1;omega) | rfl
theorem GW(f:Nat→α){a m b t:Nat}(hm:m≤b)(ham:a≤m)(h:t<a∨b≤t):Cp f a m b t=f t:=by
 simp only[Cp];rw[if_neg (by omega),if_neg (by omega)]
theorem WE(f:Nat→α){a m b:Nat}(ham:a≤m)(hmb:m≤b):Bg (Cp f a m b) a (b-a)=Bg f m (b-m)++Bg f a (m-a):=by
 rw[show b-a=(b-m)+(m-a) by omega,D8];congr 1
 ·refine Ek fun i hi=> ?_;simp only[Cp];rw[if_pos (by omega)];congr 1;omega
 ·refine Ek fun i hi=> ?_;simp only[Cp];rw[if_neg (by omega),if_pos (by omega)];congr 1;omega
def Jf(f:Nat→α)(i j:Nat):Nat→α:=fun t=>if t=j then f i else if t=i then f j else f t
theorem Aou(f:Nat→α)(a k:Nat)(hk:a≤k):Jf (Cp f a (a+1) (k+1)) k (k+1)=Cp f a (a+1) (k+2):=by
 funext t;simp only[Cp,Jf]
 repeat' split
 all_goals first | omega|(congr 1;omega) | rfl
theorem Am6(f:Nat→α)(a:Nat):Cp f a (a+1) (a+1)=f:=by
 funext t;simp only[Cp]
 repeat' split
 all_goals first | omega|(congr 1;omega) | rfl
theorem Ahu(f:Nat→α)(m k:Nat)(hk:k<m):Jf (Cp f (k+1) m (m+1)) (k+1) k=Cp f k m (m+1):=by
 funext t;simp only[Cp,Jf]
 repeat' split
 all_goals first | omega|(congr 1;omega) | rfl
theorem Ae8(f:Nat→α)(m:Nat):Cp f m m (m+1)=f:=by
 funext t;simp only[Cp]
 repeat' split
 all_goals first | omega|(congr 1;omega) | rfl
theorem Adk(f:Nat→α)(a b i:Nat)(h:a+i<b):Jf (Ha f a b i) (a+i) (b+i)=Ha f a b (i+1):=by
 funext t;simp only[Ha,Jf]
 repeat' split
 all_goals first | omega|(congr 1;omega) | rfl
theorem Adj(f:Nat→α)(a b:Nat):Ha f a b 0=f:=by
 funext t;simp only[Ha]
 repeat' split
 all_goals first | omega | rfl
theorem Ae7(f:Nat→α)(m b:Nat):Cp f m m b=f:=by
 funext t;simp only[Cp]
 repeat' split
 all_goals first | omega|(congr 1;omega) | rfl
theorem Ae6(f:Nat→α)(a m:Nat):Cp f a m m=f:=by
 funext t;simp only[Cp]
 repeat' split
 all_goals first | omega|(congr 1;omega) | rfl
structure Ds(p:α→Int)(f g:Nat→α)(a b:Nat):Prop where
 out:∀t,t<a∨b≤t→g t=f t
 desc:Cn p g a b
 alike:BZ p (Bg g a (b-a)) (Bg f a (b-a))
theorem Ds.refl{f:Nat→α}{a b:Nat}(h:Cn p f a b):Ds p f f a b:=⟨fun _ _=>rfl,h,BZ.refl _ _⟩
theorem YJ{f g1 g2:Nat→α}{a m b mid start en:Nat}(h1:a≤start)(h2:start≤m)(h3:m≤en)(h4:en≤b)(hn:start+en=mid+m)(hmid:a≤mid∧mid≤b)
  (hX:Cn p f a m) (hY:Cn p f m b)
  (q1:start=a∨en=b∨p (f en)≤p (f (start-1))) (q2:start=m∨en=m∨p (f start)<p (f (en-1)))
  (m1:Ds p (Cp f start m en) g1 a mid) (m2:Ds p g1 g2 mid b):Ds p f g2 a b:=by
 have eL:Bg (Cp f start m en) a (mid-a)=Bg f a (start-a)++Bg f m (en-m):=by
  rw[show mid-a=(start-a)+(en-m) by omega,D8];congr 1
  ·refine Ek fun i hi=>GW f h3 h2 (by omega)
  ·refine Ek fun i hi=> ?_;simp only[Cp];rw[if_pos (by omega)];congr 1;omega
 have eR:Bg (Cp f start m en) mid (b-mid)=Bg f start (m-start)++Bg f en (b-en):=by
  rw[show b-mid=(m-start)+(b-en) by omega,D8];congr 1
  ·refine Ek fun i hi=> ?_;simp only[Cp];rw[if_neg (by omega),if_pos (by omega)];congr 1;omega
  ·refine Ek fun i hi=> ?_;rw[GW f h3 h2 (by omega)];congr 1;omega
 have eR':Bg g1 mid (b-mid)=Bg f start (m-start)++Bg f en (b-en):=by
  rw[←eR];exact Ek fun i hi=>m1.out _ (by omega)
 have eL':Bg g2 a (mid-a)=Bg g1 a (mid-a):=Ek fun i hi=>m2.out _ (by omega)
 have eX:Bg f a (m-a)=Bg f a (start-a)++Bg f start (m-start):=by
  rw[show m-a=(start-a)+(m-start) by omega,D8];congr 2;omega
 have eY:Bg f m (b-m)=Bg f m (en-m)++Bg f en (b-en):=by
  rw[show b-m=(en-m)+(b-en) by omega,D8];congr 2;omega
 have eA:Bg f a (b-a)=Bg f a (m-a)++Bg f m (b-m):=by
  rw[show b-a=(m-a)+(b-m) by omega,D8];congr 2;omega
 have eG:Bg g2 a (b-a)=Bg g1 a (mid-a)++Bg g2 mid (b-mid):=by
  rw[←eL',show b-a=(mid-a)+(b-mid) by omega,D8];congr 2;omega
 have dX:Ge p (Bg f a (start-a)++Bg f start (m-start)):=by
  rw[←eX];exact Cn.seg (by rw[show a+(m-a)=m by omega];exact hX)
 have dY:Ge p (Bg f m (en-m)++Bg f en (b-en)):=by
  rw[←eY];exact Cn.seg (by rw[show m+(b-m)=b by omega];exact hY)
 have d1:Ge p (Bg g1 a (mid-a)):=Cn.seg (by rw[show a+(mid-a)=mid by omega];exact m1.desc);have d2:Ge p (Bg g2 mid (b-mid)):=Cn.seg (by rw[show mid+(b-mid)=b by omega];exact m2.desc)
 obtain⟨D,A⟩:=Ab2 dX dY (fun x hx y hy=>by
   obtain⟨i,i1,i2,rfl⟩:=Jh hx;obtain⟨j,j1,j2,rfl⟩:=Jh hy;have e1:p (f (start-1))≤p (f i):=hX.le (by omega) (by omega) (by omega);have e2:p (f j)≤p (f en):=hY.le (by omega) (by omega) (by omega);omega) (fun y hy x hx=>by
   obtain⟨i,i1,i2,rfl⟩:=Jh hx;obtain⟨j,j1,j2,rfl⟩:=Jh hy;have e1:p (f i)≤p (f start):=hX.le (by omega) (by omega) (by omega);have e2:p (f (en-1))≤p (f j):=hY.le (by omega) (by omega) (by omega);omega) d1 (by rw[←eL];exact m1.alike) d2 (by rw[←eR'];exact m2.alike)
 refine⟨fun t ht=> ?_,?_,?_⟩
 ·rw[m2.out t (by omega),m1.out t (by omega),GW f h3 h2 (by omega)]
 ·rw[←eG] at D;have:=Ge.of_seg D;rwa [show a+(b-a)=b by omega] at this
 ·rw[eG,eA,eX,eY];exact A
theorem YK{f:Nat→α}{a m b start en mid:Nat}(h1:a≤start)(h2:start≤m)(h3:m≤en)(h4:en≤b)(hn:start+en=mid+m)(hX:Cn p f a m)(hY:Cn p f m b)(hc:¬(a<start∧start<mid)):
  Cn p (Cp f start m en) a mid:=by
 by_cases e:start=a
 ·subst e;intro i j hi hij hj;simp only[Cp];rw[if_pos (by omega),if_pos (by omega)];exact hY _ _ (by omega) (by omega) (by omega)
 ·have:en=m:=by omega
  subst this;refine(hX.part (aD a) (b':=mid) (by omega)).congr fun t h5 h6=>GW f (aD _) h2 (by omega)
theorem Qb{f g:Nat→α}{a m b start en mid:Nat}(h1:a≤start)(h2:start≤m)(h3:m≤en)(h4:en≤b)(hn:start+en=mid+m)(hX:Cn p f a m)(hY:Cn p f m b)(hg:∀t,mid≤t→g t=Cp f start m en t)(hc:¬(mid<en∧en<b)):
  Cn p g mid b:=by
 by_cases e:en=b
 ·subst e;intro i j hi hij hj;rw[hg _ (by omega),hg _ (by omega)];simp only[Cp];rw[if_neg (by omega),if_pos (by omega),if_neg (by omega),if_pos (by omega)];exact hX _ _ (by omega) (by omega) (by omega)
 ·have:start=m:=by omega
  subst this;refine(hY.part (a':=mid) (by omega) (aD b)).congr fun t h5 h6=> ?_;rw[hg t h5];by_cases ht:t<en
  ·simp only[Cp];rw[if_pos (by omega)];congr 1;omega
  ·exact GW f h3 (aD _) (by omega)
theorem Ab1{f:Nat→α}{a i b:Nat}(h1:a+1≤i)(h2:i≤b)(hY:Cn p f (a+1) b)(q1:i=a+1∨p (f a)<p (f (i-1)))(q2:i=b∨p (f i)≤p (f a)):Ds p f (Cp f a (a+1) i) a b:=by
 have eG:Bg (Cp f a (a+1) i) a (b-a)=(Bg f (a+1) (i-(a+1))++[f a])++Bg f i (b-i):=by
  rw[show b-a=(i-a)+(b-i) by omega,D8,WE f (by omega) h1];congr 1
  ·rw[show a+1-a=1 by omega,OI]
  ·rw[show a+(i-a)=i by omega];exact Ek fun k hk=>GW f h1 (by omega) (by omega)
 have eF:Bg f a (b-a)=([f a]++Bg f (a+1) (i-(a+1)))++Bg f i (b-i):=by
  rw[show b-a=(1+(i-(a+1)))+(b-i) by omega,D8,D8,OI];congr 2;omega
 have e1:∀y∈Bg f (a+1) (i-(a+1)),p (f a)<p y:=fun y hy=>by
  obtain⟨j,j1,j2,rfl⟩:=Jh hy;have:=hY.le (i:=j) (j:=i-1) (by omega) (by omega) (by omega);omega
 have e2:∀y∈Bg f i (b-i),p y≤p (f a):=fun y hy=>by
  obtain⟨j,j1,j2,rfl⟩:=Jh hy;have:=hY.le (i:=i) (j:=j) (by omega) (by omega) (by omega);omega
 have dY:Ge p (Bg f (a+1) (i-(a+1))++Bg f i (b-i)):=by
  have:=Cn.seg (p:=p) (f:=f) (a:=a+1) (n:=b-(a+1)) (by rw[show a+1+(b-(a+1))=b by omega];exact hY);rw[show b-(a+1)=(i-(a+1))+(b-i) by omega,D8,show a+1+(i-(a+1))=i by omega] at this;exact this
 obtain⟨y1,y2,y3⟩:=aB.1 dY;refine⟨fun t ht=>GW f h1 (by omega) (by omega),?_,?_⟩
 ·have:Ge p (Bg (Cp f a (a+1) i) a (b-a)):=by
   rw[eG];refine aB.2 ⟨aB.2 ⟨y1,by simp,fun u hu v hv=> ?_⟩,y2,fun u hu v hv=> ?_⟩
   ·obtain rfl:v=f a:=by simpa using hv
    have:=e1 u hu;omega
   ·rcases aG.1 hu with hu | hu
    ·exact y3 u hu v hv
    ·obtain rfl:u=f a:=by simpa using hu
     exact e2 v hv
  have:=Ge.of_seg this;rwa [show a+(b-a)=b by omega] at this
 ·rw[eG,eF];refine BZ.app (BZ.symm (Mv ?_)) (BZ.refl _ _);intro y hy x hx;obtain rfl:x=f a:=by simpa using hx
  exact e1 y hy
theorem YL{f:Nat→α}{a i m:Nat}(h1:a≤i)(h2:i≤m)(hX:Cn p f a m)(q1:i=a∨p (f m)≤p (f (i-1)))(q2:i=m∨p (f i)<p (f m)):Ds p f (Cp f i m (m+1)) a (m+1):=by
 have eG:Bg (Cp f i m (m+1)) a (m+1-a)=Bg f a (i-a)++([f m]++Bg f i (m-i)):=by
  rw[show m+1-a=(i-a)+(m+1-i) by omega,D8];congr 1
  ·exact Ek fun k hk=>GW f (by omega) h2 (by omega)
  ·rw[show a+(i-a)=i by omega,WE f h2 (by omega),show m+1-m=1 by omega,OI]
 have eF:Bg f a (m+1-a)=Bg f a (i-a)++(Bg f i (m-i)++[f m]):=by
  rw[show m+1-a=(i-a)+((m-i)+1) by omega,D8,D8,OI,show a+(i-a)=i by omega,show i+(m-i)=m by omega]
 have e1:∀y∈Bg f a (i-a),p (f m)≤p y:=fun y hy=>by
  obtain⟨j,j1,j2,rfl⟩:=Jh hy;have:=hX.le (i:=j) (j:=i-1) (by omega) (by omega) (by omega);omega
 have e2:∀y∈Bg f i (m-i),p y<p (f m):=fun y hy=>by
  obtain⟨j,j1,j2,rfl⟩:=Jh hy;have:=hX.le (i:=i) (j:=j) (by omega) (by omega) (by omega);omega
 have dX:Ge p (Bg f a (i-a)++Bg f i (m-i)):=by
  have:=Cn.seg (p:=p) (f:=f) (a:=a) (n:=m-a) (by rw[show a+(m-a)=m by omega];exact hX);rw[show m-a=(i-a)+(m-i) by omega,D8,show a+(i-a)=i by omega] at this;exact this
 obtain⟨y1,y2,y3⟩:=aB.1 dX;refine⟨fun t ht=>GW f (by omega) h2 (by omega),?_,?_⟩
 ·have:Ge p (Bg (Cp f i m (m+1)) a (m+1-a)):=by
   rw[eG];refine aB.2 ⟨y1,aB.2 ⟨by simp,y2,fun u hu v hv=> ?_⟩,fun u hu v hv=> ?_⟩
   ·obtain rfl:u=f m:=by simpa using hu
    have:=e2 v hv;omega
   ·rcases aG.1 hv with hv | hv
    ·obtain rfl:v=f m:=by simpa using hv
     exact e1 u hu
    ·exact y3 u hu v hv
  have:=Ge.of_seg this;rwa [show a+(m+1-a)=m+1 by omega] at this
 ·rw[eG,eF];refine BZ.app (BZ.refl _ _) (Mv ?_).symm;intro y hy x hx;obtain rfl:y=f m:=by simpa using hy
  exact e2 x hx
end
section
open Go.Sort
variable {α:Type} {p:α→Int}
theorem Acv{f:Nat→α}{a b j:Nat}(ha:a≤j)(hb:j+1<b)(h:p (f j)<p (f (j+1))):BZ p (Bg (Jf f (j+1) j) a (b-a)) (Bg f a (b-a)):=by
 have e:∀g:Nat→α,Bg g a (b-a)=Bg g a (j-a)++(([g j]++[g (j+1)])++Bg g (j+2) (b-(j+2))):=fun g=>by
  rw[show b-a=(j-a)+(2+(b-(j+2))) by omega,D8,D8,show a+(j-a)=j by omega];rfl
 rw[e,e];have s1:Bg (Jf f (j+1) j) a (j-a)=Bg f a (j-a):=Ek fun i hi=>by simp only[Jf];rw[if_neg (by omega),if_neg (by omega)]
 have s2:Bg (Jf f (j+1) j) (j+2) (b-(j+2))=Bg f (j+2) (b-(j+2)):=Ek fun i hi=>by simp only[Jf];rw[if_neg (by omega),if_neg (by omega)]
 rw[s1,s2];have s3:Jf f (j+1) j j=f (j+1):=by simp[Jf]
 have s4:Jf f (j+1) j (j+1)=f j:=by simp[Jf]
 rw[s3,s4];refine BZ.app (BZ.refl _ _) (BZ.app (Mv ?_).symm (BZ.refl _ _));intro y hy x hx;obtain rfl:y=f (j+1):=by simpa using hy
 obtain rfl:x=f j:=by simpa using hx
 exact h
def Mc(p:α→Int):α→α→Bool:=fun x y=>decide (p y<p x)
theorem Alu:SWO (Mc p):=⟨fun x=>by simp[Mc],fun x y z h1 h2=>by simp[Mc] at *;omega,fun x y z h1 h2=>by simp[Mc] at *;omega⟩
end
section
open Go.Sort
variable {α:Type} [Inhabited α] {p:α→Int}
def AI(d:Array α):Nat→α:=fun i=>d[i]!
theorem QF(d:Array α)(i j:Nat)(hi:i<d.size)(hj:j<d.size):AI (swp d i j)=Jf (AI d) i j:=by
 funext t;unfold AI Jf;rw[swp_get d hi hj]
theorem Oq(a b:Nat):∀(j:Nat) (d:Array α),j<b→b≤d.size→(insInner (Mc p) a j d).size=d.size∧BZ p (Bg (AI (insInner (Mc p) a j d)) a (b-a)) (Bg (AI d) a (b-a))
 | 0,d,_,_=>⟨rfl,BZ.refl _ _⟩
 | j+1,d,hj,hb=>by
  rw[insInner]
  split
  ·rename_i hc
   simp only[aO,decide_eq_true_eq,Mc] at hc
   obtain⟨i1,i2⟩:=Oq a b j (swp d (j+1) j) (by omega) (by rw[swp_size];exact hb)
   refine⟨by rw[i1,swp_size],i2.trans ?_⟩
   rw[QF d (j+1) j (by omega) (by omega)]
   exact Acv (by omega) (by omega) hc.2
  ·exact⟨rfl,BZ.refl _ _⟩
theorem Oo(a b:Nat):∀(n i:Nat) (d:Array α),b-i=n→b≤d.size→(insOuter (Mc p) a b i d).size=d.size∧BZ p (Bg (AI (insOuter (Mc p) a b i d)) a (b-a)) (Bg (AI d) a (b-a))
 | 0,i,d,hn,hb=>by
  rw[insOuter,if_neg (by omega)]
  exact⟨rfl,BZ.refl _ _⟩
 | n+1,i,d,hn,hb=>by
  rw[insOuter,if_pos (by omega)]
  obtain⟨i1,i2⟩:=Oq (p:=p) a b i d (by omega) hb
  obtain⟨j1,j2⟩:=Oo a b n (i+1) (insInner (Mc p) a i d) (by omega) (by omega)
  exact⟨by rw[j1,i1],j2.trans i2⟩
theorem Abg(d:Array α)(a b:Nat)(hab:a≤b)(hb:b≤d.size):(insertionSort (Mc p) d a b).size=d.size∧Ds p (AI d) (AI (insertionSort (Mc p) d a b)) a b:=by
 obtain⟨⟨h1,h2,_⟩,h3⟩:=insertionSort_holds (lt:=Mc p) Alu d a b hab hb;refine⟨h1,⟨h2,fun i j hi hij hj=> ?_,(Oo a b (b-(a+1)) (a+1) d rfl hb).2⟩⟩;have:=h3 i j hi hij hj;simp[Mc] at this;exact this
end
end
structure Ai where
 bank:Int
 epoch:Int
 place:Int
 order:Int
 cube:List Int×List Int
 action:Int
 one:Int
 two:Int
 born:Int
 used:Int
 count:Int
section
variable (m:Ai→Bool) (k:Ai→Int)
def GR(C A:List Ai)(x:Ai)(B:List Ai):Prop:=C=A++x::B∧m x=true∧(∀y∈A,m y=true→k x<k y)∧∀y∈B,m y=true→k x≤k y
def Bc:List Ai→Option (List Ai×Ai×List Ai)
 | []=>none
 | x::l=>match Bc l with
  | none=>if m x then some ([],x,l) else none
  | some (A,y,B)=>if m x&&decide (k x≤k y) then some ([],x,l) else some (x::A,y,B)
variable {m k}
theorem DX{C:List Ai}:Bc m k C=none↔ ∀y∈C,m y=false:=by
 induction C with
 | nil=>simp[Bc]
 | cons x l ih=>
  unfold Bc
  cases h:Bc m k l with
  | none=>
   have h1:=ih.1 h
   cases hm:m x with
   | true=>
    rw[if_pos rfl];constructor
    ·intro e;cases e
    ·intro e;have:=e x (by simp);rw[hm] at this;cases this
   | false=>
    rw[if_neg (by simp)];simp only[true_iff];intro y hy;rcases bD.1 hy with rfl | e
    ·exact hm
    ·exact h1 y e
  | some r=>
   obtain⟨A,y,B⟩:=r;constructor
   ·intro e;simp only at e;split at e <;> cases e
   ·intro e;have:=ih.2 fun y hy=>e y (List.mem_cons_of_mem _ hy);rw[h] at this;cases this
theorem Ez{C A B:List Ai}{x:Ai}(h:Bc m k C=some (A,x,B)):GR m k C A x B:=by
 induction C generalizing A x B with
 | nil=>cases h
 | cons z l ih=>
  unfold Bc at h
  cases hl:Bc m k l with
  | none=>
   rw[hl] at h;have h1:=DX.1 hl
   cases hm:m z with
   | true=>
    rw[hm] at h;simp only[if_true,aX,Prod.mk.injEq] at h;obtain⟨rfl,rfl,rfl⟩:=h;exact⟨rfl,hm,fun y hy=>by simp at hy,fun y hy e=>by rw[h1 y hy] at e;cases e⟩
   | false=>
    rw[hm] at h;simp at h
  | some r=>
   obtain⟨A',y,B'⟩:=r;rw[hl] at h;obtain⟨e1,e2,e3,e4⟩:=ih hl;simp only at h;by_cases hc:(m z&&decide (k z≤k y))=true
   ·rw[if_pos hc] at h;simp only[aX,Prod.mk.injEq] at h;obtain⟨rfl,rfl,rfl⟩:=h;simp only[aO,decide_eq_true_eq] at hc;refine⟨rfl,hc.1,fun y hy=>by simp at hy,fun u hu hm=> ?_⟩;rw[e1] at hu;rcases aG.1 hu with h1 | h1
    ·have:=e3 u h1 hm;omega
    ·rcases bD.1 h1 with rfl | h1
     ·exact hc.2
     ·have:=e4 u h1 hm;omega
   ·rw[if_neg hc] at h;simp only[aX,Prod.mk.injEq] at h;obtain⟨rfl,rfl,rfl⟩:=h;refine⟨by rw[e1];rfl,e2,fun u hu hm=> ?_,e4⟩;rcases bD.1 hu with rfl | h1
    ·simp only[aO,decide_eq_true_eq,not_and] at hc;have:=hc hm;omega
    ·exact e3 u h1 hm
theorem Afb{C A A' B B':List Ai}{x x':Ai}(h:GR m k C A x B)(h':GR m k C A' x' B'):A=A'∧x=x'∧B=B':=by
 obtain⟨e1,e2,e3,e4⟩:=h;obtain⟨g1,g2,g3,g4⟩:=h';have e:A++x::B=A'++x'::B':=e1.symm.trans g1;rcases List.append_eq_append_iff.1 e with ⟨D,h1,h2⟩ | ⟨D,h1,h2⟩
 ·cases D with
  | nil=>
   simp at h1 h2;exact⟨h1.symm,h2.1,h2.2⟩
  | cons d D=>
   simp only[bR,List.cons.injEq] at h2;obtain⟨rfl,h3⟩:=h2;have q1:=g3 x (by rw[h1];simp) e2;have q2:=e4 x' (by rw[h3];simp) g2;omega
 ·cases D with
  | nil=>
   simp at h1 h2;exact⟨h1,h2.1.symm,h2.2.symm⟩
  | cons d D=>
   simp only[bR,List.cons.injEq] at h2;obtain⟨rfl,h3⟩:=h2;have q1:=e3 x' (by rw[h1];simp) g2;have q2:=g4 x (by rw[h3];simp) e2;omega
theorem O6{C A B:List Ai}{x:Ai}:Bc m k C=some (A,x,B)↔GR m k C A x B:=by
 refine⟨Ez,fun h=> ?_⟩
 cases hl:Bc m k C with
 | none=>
  have:=DX.1 hl x (by rw[h.1];simp);rw[h.2.1] at this;cases this
 | some r=>
  obtain⟨A',x',B'⟩:=r;obtain⟨rfl,rfl,rfl⟩:=Afb (Ez hl) h;rfl
variable (m k)
def FP(L:List Ai)(n:Nat)(c:Int):Prop:=
 (c= -1∧∀j y,j<n→L[j]?=some y→m y=false)∨∃(i:Nat) (x:Ai),c=(i:Int)∧i<n∧L[i]?=some x∧m x=true∧(∀j y,j<i→L[j]?=some y→m y=true→k x<k y)∧∀j y,i<j→j<n→L[j]?=some y→m y=true→k x≤k y
variable {m k}
theorem Vm(L:List Ai):FP m k L 0 (-1):=.inl ⟨rfl,fun j y h=>by omega⟩
theorem Mq{L:List Ai}{n:Nat}{c:Int}{y:Ai}(h:FP m k L n c)(hy:L[n]?=some y)(hm:m y=false):FP m k L (n+1) c:=by
 rcases h with ⟨h1,h2⟩ | ⟨i,x,h1,h2,h3,h4,h5,h6⟩
 ·refine .inl ⟨h1,fun j z hj hz=> ?_⟩;by_cases e:j=n
  ·subst e;rw[hy] at hz;cases hz;exact hm
  ·exact h2 j z (by omega) hz
 ·refine .inr ⟨i,x,h1,by omega,h3,h4,h5,fun j z hi hj hz hmz=> ?_⟩;by_cases e:j=n
  ·subst e;rw[hy] at hz;cases hz;rw[hm] at hmz;cases hmz
  ·exact h6 j z hi (by omega) hz hmz
theorem Rn{L:List Ai}{n:Nat}{y:Ai}(h:FP m k L n (-1))(hy:L[n]?=some y)(hm:m y=true):FP m k L (n+1) (n:Int):=by
 rcases h with ⟨_,h2⟩ | ⟨i,x,h1,_⟩
 ·exact .inr ⟨n,y,rfl,by omega,hy,hm,fun j z hj hz hmz=>(by rw[h2 j z hj hz] at hmz;cases hmz),fun j z hi hj=>by omega⟩
 ·omega
theorem Tn{L:List Ai}{n i:Nat}{x y:Ai}(h:FP m k L n (i:Int))(hx:L[i]?=some x)(hy:L[n]?=some y)(hm:m y=true)(hk:k y<k x):FP m k L (n+1) (n:Int):=by
 rcases h with ⟨h1,_⟩ | ⟨i',x',h1,h2,h3,h4,h5,h6⟩
 ·omega
 ·obtain rfl:i=i':=by omega
  rw[hx] at h3
  cases h3
  refine .inr ⟨n,y,rfl,by omega,hy,hm,fun j z hj hz hmz=> ?_,fun j z hi hj=>by omega⟩;rcases Nat.lt_trichotomy j i with e | e | e
  ·have:=h5 j z e hz hmz;omega
  ·subst e;rw[hx] at hz;cases hz;exact hk
  ·have:=h6 j z e hj hz hmz;omega
theorem To{L:List Ai}{n i:Nat}{x y:Ai}(h:FP m k L n (i:Int))(hx:L[i]?=some x)(hy:L[n]?=some y)(hk:¬k y<k x):FP m k L (n+1) (i:Int):=by
 rcases h with ⟨h1,_⟩ | ⟨i',x',h1,h2,h3,h4,h5,h6⟩
 ·omega
 ·obtain rfl:i=i':=by omega
  rw[hx] at h3
  cases h3
  refine .inr ⟨i,x,rfl,by omega,hx,h4,h5,fun j z hi hj hz hmz=> ?_⟩;by_cases e:j=n
  ·subst e;rw[hy] at hz;cases hz;omega
  ·exact h6 j z hi (by omega) hz hmz
theorem Qn{L:List Ai}{c:Int}(h:FP m k L L.length c):(c= -1∧Bc m k L=none)∨∃(i:Nat) (x:Ai),c=(i:Int)∧i<L.length∧L[i]?=some x∧Bc m k L=some (L.take i,x,L.drop (i+1)):=by
 rcases h with ⟨h1,h2⟩ | ⟨i,x,h1,h2,h3,h4,h5,h6⟩
 ·refine .inl ⟨h1,DX.2 fun y hy=> ?_⟩;obtain⟨j,hj⟩:=aP.1 hy;exact h2 j y (aH.1 hj).1 hj
 ·refine .inr ⟨i,x,h1,h2,h3,O6.2 ⟨?_,h4,fun y hy hm=> ?_,fun y hy hm=> ?_⟩⟩
  ·have e:=(aH.1 h3).2;rw[←e,List.getElem_cons_drop,List.take_append_drop]
  ·obtain⟨j,hj⟩:=aP.1 hy;have hj':=(aH.1 hj).1;rw[List.length_take] at hj';rw[List.getElem?_take_of_lt (by omega)] at hj;exact h5 j y (by omega) hj hm
  ·obtain⟨j,hj⟩:=aP.1 hy;rw[List.getElem?_drop] at hj;exact h6 (i+1+j) y (by omega) (aH.1 hj).1 hj hm
end
structure Bb where
  life:Int
  floor:Int
  top:Int
  use:Int
  said:Int
  cnt:Int→Nat×Int
def OW(inc:Int):Bb:=⟨inc,0,0,0,0,fun _=>(0,0)⟩
def Hg(h:Bb)(e:Int):Bool:=decide (0<(h.cnt e).1)&&decide (((h.cnt e).1:Int)=(h.cnt e).2)
def Ei(h:Bb):Bb:=
  {h with cnt:=fun e=>if e=h.floor∨e=h.top then h.cnt e else (0,0),
           use:=if h.use=h.floor∨h.use=h.top then h.use else 0,
           said:=if h.use=h.floor∨h.use=h.top then h.said else 0}
def Dp(h:Bb)(f:Int):Bb:=if h.floor<f then Ei {h with floor:=f,top:=max h.top f} else h
def EM(h:Bb)(e:Int):Bb:=if h.top<e then Ei {h with top:=e} else h
def Jq(h:Bb)(e o:Int):Bb:={h with cnt:=fun x=>if x=e then ((h.cnt e).1+1,o) else h.cnt x}
def DK(h:Bb)(floor epoch at_ of:Int):Bb×Int:=
  if floor<0∨epoch<1∨at_<0∨of≤at_ then (h,0) else
  if (epoch≠(EM (Dp h floor) epoch).floor∧epoch≠(EM (Dp h floor) epoch).top)∨(0<((EM (Dp h floor) epoch).cnt epoch).1∧((EM (Dp h floor) epoch).cnt epoch).2≠of)∨(((EM (Dp h floor) epoch).cnt epoch).1:Int)<at_ then (EM (Dp h floor) epoch,0) else
  if at_<(((EM (Dp h floor) epoch).cnt epoch).1:Int) then (EM (Dp h floor) epoch,2) else (Jq (EM (Dp h floor) epoch) epoch of,1)
def J9(h:Bb)(sent use:Int):Bb:=
  if Hg h use=true then if use=h.use then {h with said:=max h.said sent} else if h.use<use then {h with use:=use,said:=sent} else h else h
def Dq(h:Bb)(sent use floor:Int):Bb×Bool:=
  if sent<0∨use<0∨floor<0 then (h,false) else (J9 (Dp h floor) sent use,decide (0<use)&&decide ((J9 (Dp h floor) sent use).use=use))
def OZ(h:Bb)(now lease:Int):Bool:=decide (0<h.use)&&decide (min (max now 0) 1099511627776-h.said<lease)
structure DO(h:Bb):Prop where
  floor0:0≤h.floor
  le:h.floor≤h.top
  two:∀e,0<(h.cnt e).1→(e=h.floor∨e=h.top)∧1≤e
  few:∀e,((h.cnt e).1:Int)≤(h.cnt e).2
  none_:∀e,(h.cnt e).1=0→(h.cnt e).2=0
  uses:h.use≠0→Hg h h.use=true
  use0:0≤h.use
  said0:h.use=0→h.said=0
theorem Uc(inc:Int):DO (OW inc):=⟨aL _,aL _,fun e h=>absurd h (by simp[OW]),fun e=>aL _,fun e _=>rfl,fun h=>absurd rfl h,aL _,fun _=>rfl⟩
theorem Hw{h:Bb}{e:Int}:Hg h e=true↔0<(h.cnt e).1∧((h.cnt e).1:Int)=(h.cnt e).2:=by
  unfold Hg;rw[aO,decide_eq_true_eq,decide_eq_true_eq]
theorem Vn{h:Bb}{f t:Int}(hk:DO h)(hf:h.floor≤f)(ht:f≤t):DO (Ei {h with floor:=f,top:=t}):=by
  have hf0:=hk.floor0;refine⟨?_,ht,fun e he=> ?_,fun e=> ?_,fun e he=> ?_,fun he=> ?_,?_,fun he=> ?_⟩
  · show 0≤f;omega
  · unfold Ei at he ⊢;dsimp only at he ⊢;split at he
    · rename_i hc;exact⟨hc,(hk.two e he).2⟩
    · exact absurd he (by simp)
  · unfold Ei;dsimp only;split
    · exact hk.few e
    · simp
  · unfold Ei at he ⊢;dsimp only at he ⊢;split at he
    · rename_i hc;rw[if_pos hc];exact hk.none_ e he
    · rename_i hc;rw[if_neg hc]
  · unfold Ei at he ⊢;dsimp only at he ⊢;split at he
    · rename_i hc;have h1:=hk.uses he;rw[if_pos hc];rw[Hw] at h1 ⊢;dsimp only;simp only[if_pos hc];exact h1
    · exact absurd rfl he
  · unfold Ei;dsimp only;split
    · exact hk.use0
    · exact aL _
  · unfold Ei at he ⊢;dsimp only at he ⊢;split
    · rename_i hc;rw[if_pos hc] at he;exact hk.said0 he
    · rfl
theorem QR{h:Bb}(hk:DO h)(f:Int):DO (Dp h f):=by
  unfold Dp;split
  · exact Vn hk (by omega) (by omega)
  · exact hk
theorem Am8{h:Bb}(hk:DO h)(e:Int):DO (EM h e):=by
  unfold EM;split
  · have:=hk.le;exact Vn (f:=h.floor) (t:=e) hk (aL _) (by omega)
  · exact hk
theorem Aps{h:Bb}(hk:DO h){e o:Int}(h1:e=h.floor∨e=h.top)(h2:1≤e)(h3:0<(h.cnt e).1→(h.cnt e).2=o)(h4:((h.cnt e).1:Int)<o):DO (Jq h e o):=by
  refine⟨hk.floor0,hk.le,fun x hx=> ?_,fun x=> ?_,fun x hx=> ?_,fun hu=> ?_,hk.use0,hk.said0⟩
  · unfold Jq at hx;dsimp only at hx;by_cases ex:x=e
    · rw[ex];exact⟨h1,h2⟩
    · rw[if_neg ex] at hx;exact hk.two x hx
  · unfold Jq;dsimp only;by_cases ex:x=e
    · rw[if_pos ex];dsimp only;omega
    · rw[if_neg ex];exact hk.few x
  · unfold Jq at hx ⊢;dsimp only at hx ⊢;by_cases ex:x=e
    · rw[if_pos ex] at hx;exact absurd hx (by simp)
    · rw[if_neg ex] at hx ⊢;exact hk.none_ x hx
  · have h5:=hk.uses hu;rw[Hw] at h5 ⊢
    have hne:h.use≠e:=fun ex=>by
      rw[ex] at h5;have:=h3 h5.1;omega
    have e1:(Jq h e o).cnt (Jq h e o).use=h.cnt h.use:=by
      unfold Jq;dsimp only;rw[if_neg hne]
    rw[e1];exact h5
theorem Ui{h:Bb}(hk:DO h)(floor epoch at_ of:Int):DO (DK h floor epoch at_ of).1:=by
  unfold DK;split
  · exact hk
  · rename_i hc;have h1:=Am8 (QR hk floor) epoch;split
    · exact h1
    · rename_i hd;split
      · exact h1
      · rename_i he;rw[not_or,not_or] at hd;refine Aps h1 ?_ (by omega) (fun hp=>Classical.byContradiction fun hq=>hd.2.1 ⟨hp,hq⟩) (by omega);rcases Classical.em (epoch=(EM (Dp h floor) epoch).floor) with e | e
        · exact .inl e
        · exact .inr (Classical.byContradiction fun e2=>hd.1 ⟨e,e2⟩)
theorem Aoq{h:Bb}(hk:DO h){sent use:Int}:DO (J9 h sent use):=by
  unfold J9;split
  · rename_i hf;split
    · rename_i hu;refine⟨hk.floor0,hk.le,hk.two,hk.few,hk.none_,hk.uses,hk.use0,fun h0=> ?_⟩;have h1:=(hk.two _ (Hw.1 hf).1).2;dsimp only at h0;omega
    · split
      · have h1:=(hk.two _ (Hw.1 hf).1).2;exact⟨hk.floor0,hk.le,hk.two,hk.few,hk.none_,fun _=>hf,(by show 0≤use;omega),fun h0=>by dsimp only at h0;omega⟩
      · exact hk
  · exact hk
theorem ZD{h:Bb}(hk:DO h)(sent use floor:Int):DO (Dq h sent use floor).1:=by
  unfold Dq;split
  · exact hk
  · exact Aoq (QR hk floor)
structure AN where
 seq:Int
 index:Int
 head:List Int
 sent:Int
 due:Int
structure Be where
 room:Int
 tries:Int
 time:Int
 l:List AN
 last:Nat
def EH(now:Int):Int:=min (max now 0) 1099511627776
def WV(room tries time:Int):Option Be:=if 1≤room∧room≤64∧0≤tries∧tries≤8∧1≤time∧time≤1000 then some ⟨room,tries,time,[],0⟩ else none
def JM(w:Be)(index:Int)(h:List Int)(now:Int):Be:={w with l:=w.l++[⟨(w.last:Int)+1,index,h,1,EH now+w.time⟩],last:=w.last+1}
def Fk(w:Be)(index:Int)(h:List Int)(now:Int):Be×Int×Int:=if (w.l.length:Int)=w.room then (w,0,13) else (JM w index h now,(w.last:Int)+1,0)
def KH(s:Int)(x:AN):Bool:=x.seq==s
def Ac4(w:Be)(s:Int):Be:={w with l:=w.l.filter fun x=> !(KH s x)}
def BH(w:Be)(s:Int):Be×Option AN:=match w.l.find? (KH s) with
 | some x=>(Ac4 w s,some x)
 | none=>(w,none)
def Ex(now:Int)(x:AN):Bool:=decide (x.due≤EH now)
def DF(w:Be)(x:AN):Bool:=decide (x.sent≤w.tries)
def Ik(w:Be)(now:Int)(x:AN):AN:={x with sent:=x.sent+1,due:=EH now+w.time}
def Ce(w:Be)(now:Int)(x:AN):Option AN:=if Ex now x then (if DF w x then some (Ik w now x) else none) else some x
def Cv(w:Be)(now:Int):List AN:=(w.l.filter fun x=>Ex now x&&DF w x).map (Ik w now)
def EE(w:Be)(now:Int):List AN:=w.l.filter fun x=>Ex now x&& !(DF w x)
def Dc(w:Be)(now:Int):Be:={w with l:=w.l.filterMap (Ce w now)}
def Ij(w:Be):Be:={w with l:=[]}
structure Dn(w:Be):Prop where
 time1:1≤w.time
 tries0:0≤w.tries
 room1:1≤w.room
 len:(w.l.length:Int)≤w.room
 rise:w.l.Pairwise fun x y=>x.seq<y.seq
 seq:∀x∈w.l,1≤x.seq∧x.seq≤(w.last:Int)
 sent:∀x∈w.l,1≤x.sent∧x.sent≤w.tries+1
theorem Amo{room tries time:Int}{w:Be}(h:WV room tries time=some w):Dn w:=by
 unfold WV at h;split at h
 ·rename_i hc;obtain rfl:=aM h;exact⟨hc.2.2.2.2.1,hc.2.2.1,hc.1,by simp;omega,List.Pairwise.nil,fun x hx=>absurd hx (bS),fun x hx=>absurd hx (bS)⟩
 ·cases h
theorem ZZ{w:Be}(h:Dn w)(index:Int)(hd:List Int)(now:Int):Dn (Fk w index hd now).1:=by
 unfold Fk;split
 ·exact h
 ·rename_i hc;have hl:=h.len;have h0:=h.tries0;refine⟨h.time1,h.tries0,h.room1,?_,?_,fun x hx=> ?_,fun x hx=> ?_⟩
  ·show((w.l++_).length:Int)≤w.room;rw[List.length_append];simp;omega
  ·refine aB.2 ⟨h.rise,List.pairwise_singleton _ _,fun x hx y hy=> ?_⟩;obtain rfl:y=⟨(w.last:Int)+1,index,hd,1,EH now+w.time⟩:=by simpa using hy
   have:=(h.seq x hx).2;dsimp only;omega
  ·show 1≤x.seq∧x.seq≤((w.last+1:Nat):Int);rcases aG.1 hx with hx | hx
   ·have:=h.seq x hx;omega
   ·obtain rfl:x=⟨(w.last:Int)+1,index,hd,1,EH now+w.time⟩:=by simpa using hx
    dsimp only;omega
  ·show 1≤x.sent∧x.sent≤w.tries+1;rcases aG.1 hx with hx | hx
   ·exact h.sent x hx
   ·obtain rfl:x=⟨(w.last:Int)+1,index,hd,1,EH now+w.time⟩:=by simpa using hx
    dsimp only;omega
theorem Zo{w:Be}(h:Dn w){l:List AN}(hs:l.Sublist w.l):Dn {w with l:=l}:=
 ⟨h.time1,h.tries0,h.room1,by have:=h.len;have:=hs.length_le;show(l.length:Int)≤w.room;omega,h.rise.sublist hs,fun x hx=>h.seq x (hs.subset hx),fun x hx=>h.sent x (hs.subset hx)⟩
theorem TC{w:Be}(h:Dn w)(s:Int):Dn (BH w s).1:=by
 unfold BH;split
 ·exact Zo h List.filter_sublist
 ·exact h
theorem VC{w:Be}(h:Dn w):Dn (Ij w):=Zo h (List.nil_sublist _)
theorem MS{w:Be}{now:Int}{x y:AN}(h:Ce w now x=some y):y.seq=x.seq:=by
 unfold Ce at h;split at h
 ·split at h
  ·obtain rfl:=aM h;rfl
  ·cases h
 ·obtain rfl:=aM h;rfl
theorem RA{w:Be}(h:Dn w)(now:Int):Dn (Dc w now):=by
 refine⟨h.time1,h.tries0,h.room1,?_,?_,fun y hy=> ?_,fun y hy=> ?_⟩
 ·have:=h.len;have h2:=List.length_filterMap_le (Ce w now) w.l;show((w.l.filterMap (Ce w now)).length:Int)≤w.room;omega
 ·refine List.pairwise_filterMap.2 (h.rise.imp fun {a b} hab x hx y hy=> ?_);rw[MS hx,MS hy];exact hab
 ·obtain⟨x,hx,hxy⟩:=bJ.1 hy;rw[MS hxy];exact h.seq x hx
 ·obtain⟨x,hx,hxy⟩:=bJ.1 hy;have h1:=h.sent x hx;show 1≤y.sent∧y.sent≤w.tries+1;unfold Ce at hxy;split at hxy
  ·split at hxy
   ·rename_i hm;obtain rfl:=aM hxy;unfold DF at hm;rw[decide_eq_true_eq] at hm;show 1≤x.sent+1∧x.sent+1≤w.tries+1;omega
   ·cases hxy
  ·obtain rfl:=aM hxy;exact h1
def alike(D s:Int)(l:List AN):Prop:=∀x∈l,x.due=D∧x.sent=s
section
open Go.RowKit
theorem FH{a b:Bool}(h:a=b):Ending.returned (.bool a)=.returned (.bool b):=by rw[h]
theorem Am9{k:IntKind}{a b:Int}(h:a=b):Ending.returned (.int k a)=.returned (.int k b):=by rw[h]
def hv(L:List Int):Array Value:=(L.map (Value.int .u8)).toArray
def AK(L:List Int):Prop:=L.length=13∧∀k,0≤L.getD k 0∧L.getD k 0<256
theorem EW(L:List Int):(hv L).size=L.length:=by simp[hv]
theorem K5(L:List Int)(hL:L.length=13)(k:Nat)(hk:k<13):(hv L)[k]?=some (.int .u8 (L.getD k 0)):=by
 unfold hv;simp[List.getElem?_map,List.getElem?_eq_getElem (show k<L.length by omega),cE]
theorem Ql(L:List Int):(hv L).all (·.oneCell')=true:=by
 simp[hv,Value.oneCell']
theorem V6(L:List Int)(hL:L.length=13)(k:Nat)(hk:k<13)(w:World):(part 5 (hv L) k).run aA w=.ok (.int .u8 (L.getD k 0)) w:=by
 have u5:=bA;have hx:=K5 L hL k hk;have hz:∀w,(sizeOf 5).run aA w=.ok 1 w:=fun w=>by kernel_rfl
 have ha:∀w,(isAgg 5).run aA w=.ok false w:=fun w=>by kernel_rfl
 simp[part,ha,hx,aJ]
theorem Ap7(L M:List Int)(hL:L.length=13)(hM:M.length=13)(w:World)(k:Option Bool×Unit→World→Result Bool)(k1:k (some false,()) w=.ok false w)(k2:k (none,()) w=.ok true w):∀(is:List Nat),(∀i∈is,i<13)→
  ((forIn is ((none,()):Option Bool×Unit) fun i (_:Option Bool×Unit)=>(do
      if !(←aQ 9999 5 (←part 5 (hv L) (i*1)) (←part 5 (hv M) (i*1))) then pure (cB (some false,())) else pure (bX (none,())):Sem (ForInStep (Option Bool×Unit)))).run aA w).andThen k=.ok (is.all fun i=>L.getD i 0==M.getD i 0) w:=by
 intro is;induction is with
 | nil=>intro _;simpa using k2
 | cons i is ih=>
  intro h;have hi:=h i (by simp);have ih':=ih (fun j hj=>h j (by simp[hj]));have e:(aQ 9999 5 (.int .u8 (L.getD i 0)) (.int .u8 (M.getD i 0))).run aA w=.ok (L.getD i 0==M.getD i 0) w:=run_equalIn_int w 9998 5 .u8 .u8 _ _ bA;simp only[bY,aJ,bC,V6 L hL i hi,V6 M hM i hi,aC,e];by_cases hc:(L.getD i 0==M.getD i 0)=true
  ·simp only[hc,Bool.not_true,bK,if_false,aR,aC,aV,aW];simpa only[aJ,bC] using ih'
  ·have hc':(L.getD i 0==M.getD i 0)=false:=by simpa using hc
   simp only[hc',cC,if_true,aR,aC,aV,cD];exact k1
theorem V7(d:Nat)(L M:List Int)(hL:L.length=13)(hM:M.length=13)(w:World)(k:Option Bool×Unit→World→Result Bool)(k1:k (some false,()) w=.ok false w)(k2:k (none,()) w=.ok true w):∀(is:List Nat),(∀i∈is,i<13)→
  ((forIn is ((none,()):Option Bool×Unit) fun i (_:Option Bool×Unit)=>(do
      if !(←aQ (d+1) 5 (←part 5 (hv L) (i*1)) (←part 5 (hv M) (i*1))) then pure (cB (some false,())) else pure (bX (none,())):Sem (ForInStep (Option Bool×Unit)))).run aA w).andThen k=.ok (is.all fun i=>L.getD i 0==M.getD i 0) w:=by
 intro is;induction is with
 | nil=>intro _;simpa using k2
 | cons i is ih=>
  intro h;have hi:=h i (by simp);have ih':=ih (fun j hj=>h j (by simp[hj]));have e:(aQ (d+1) 5 (.int .u8 (L.getD i 0)) (.int .u8 (M.getD i 0))).run aA w=.ok (L.getD i 0==M.getD i 0) w:=run_equalIn_int w d 5 .u8 .u8 _ _ bA;simp only[bY,aJ,bC,V6 L hL i hi,V6 M hM i hi,aC,e];by_cases hc:(L.getD i 0==M.getD i 0)=true
  ·simp only[hc,Bool.not_true,bK,if_false,aR,aC,aV,aW];simpa only[aJ,bC] using ih'
  ·have hc':(L.getD i 0==M.getD i 0)=false:=by simpa using hc
   simp only[hc',cC,if_true,aR,aC,aV,cD];exact k1
theorem Qy(L M:List Int)(hL:L.length=13)(hM:M.length=13):((List.range' 0 13).all fun i=>L.getD i 0==M.getD i 0)=(L==M):=by
 rw[Bool.eq_iff_iff];simp only[List.all_eq_true,List.mem_range'_1,beq_iff_eq];constructor
 ·intro h;apply List.ext_getElem (by omega);intro k h1 h2;have:=h k ⟨by omega,by omega⟩;simpa[cE,h1,h2] using this
 ·rintro rfl k _;rfl
theorem Arc(L M:List Int)(hL:L.length=13)(hM:M.length=13)(w:World):
  (aQ 10000 35 (.agg (hv L)) (.agg (hv M))).run aA w=.ok (L==M) w:=by
 have z5:(sizeOf 5).run aA w=.ok 1 w:=by kernel_rfl
 rw[show(10000:Nat)=9999+1 from rfl,aQ];simp only[aJ,run_underlying aY,aC,z5];simp only[Std.Legacy.Range.forIn_eq_forIn_range',Std.Legacy.Range.size,Nat.sub_zero,Nat.add_sub_cancel,Nat.div_one];rw[←Qy L M hL hM];exact Ap7 L M hL hM w _ rfl rfl (List.range' 0 13) (fun i hi=>by simp at hi;omega)
structure Am(W:World) where
 world:World
 below:Below W.heap.size W world
theorem Am.ne(W:World):Nonempty (Am W):=⟨⟨W,aI _ _⟩⟩
theorem BE{P:Program}{id:Nat}{Q:Exit→Act→World→Prop}{a:Act}{w:World}{l:List Oper}(hm:P.follows .mixedOrders=true)(hB:Region.lexB .any l.toArray=true)
  (h:wpQuiet P l.toArray (fun w'=> ∃u:Am w,w'=u.world) (fun a'=> ∀w',(∃u:Am w,w'=u.world)→Q .normal a' w') l a):(Code.region id l.toArray true).wp P Q a w:=
 wp_region_quiet (C:=fun w'=> ∃u:Am w,w'=u.world) hm hB ⟨⟨w.drew,(aI _ _).drew⟩,rfl⟩ (by simpa using h)
theorem Calls.later_of{P:Program}{f:FuncId}{args:Array Value}{W:World}{u:Am W}{v:Value}
  (h:Calls P f args u.world fun e w'=>e=.returned v∧Below u.world.heap.size u.world w'):Calls P f args u.world fun e w''=>e=.returned v∧∃u':Am W,w''=u'.world:=
 h.mono fun _ w1 ⟨he,hb⟩=>⟨he,⟨w1,u.below.trans (hb.mono u.below.size)⟩,rfl⟩
theorem KL{P:Program}{ops:Array Oper}{C:World→Prop}{Q:Act→Prop}{rest:List Oper}{o:Oper}{a:Act}(hw:Region.wanted o (yielded ops a.tmps)=true)(ty:TypeId)(x:Operand)(ho:o.op=.load ty x)
  (g:Nat) (hx:a.eval x=.pointer (some ⟨g,0,none⟩)) (t:TypeId) (cs:Array Value) (fr:Nat×Nat) (d:TypeDesc) (hg:∀w',C w'→w'.heap[g]?=some (.cells cs t fr))
  (hu:P.underlying ty=some d) (hd:(match d with | .struct _ | .array _ _=>true | _=>false)=true) (hi:(P.info? ty).map (·.size)=some cs.size)
  (h:wpQuiet P ops C Q rest (a.put o.dst (.agg cs))):wpQuiet P ops C Q (o::rest) a:=by
 refine BigFrame.wpQuiet_want hw fun K hK=>⟨.agg cs,fun w hC=> ?_,hK _ h⟩;unfold Oper.quietAt execOp;simp only[ho,hx,Instr.loadAt,Instr.sureAddr,aJ,aR,aC,run_loadVar_row w g t ty cs fr d (hg w hC) hu hd hi];exact⟨rfl,rfl⟩
theorem Ap{W:World}{g:Nat}{o:Obj}(h:W.heap[g]?=some o):∀w',(∃u:Am W,w'=u.world)→w'.heap[g]?=some o:=by
 rintro w' ⟨u,rfl⟩
 have hlt:g<W.heap.size:=by
  rcases aK.1 h with ⟨hl,_⟩;exact hl
 rw[u.below.block g hlt,h]
theorem KE(L:List Int)(hL:L.length=13):(aA.info? 35).map (·.size)=some (hv L).size:=by
 rw[EW,hL];kernel_rfl
theorem Ej{ops:Array Oper}{rest:List Oper}{o:Oper}{a:Act}{w:World}{Q:Exit→Act→World→Prop}(hgd:o.guard=none)(x:Operand)(ho:o.op=.load 35 x)
  (g:Nat) (hx:a.eval x=.pointer (some ⟨g,0,none⟩)) (L:List Int) (hg:w.heap[g]?=some (.cells (hv L) 35 (0,0))) (hL:L.length=13)
  (h:wpList aA ops Q rest (a.put o.dst (.agg (hv L))) w):wpList aA ops Q (o::rest) a w:=
 wpList_load_row hgd 35 x ho g hx 35 (hv L) (0,0) _ hg aY rfl (KE L hL) h
theorem Iv{ops:Array Oper}{rest:List Oper}{o:Oper}{a:Act}{w:World}{Q:Exit→Act→World→Prop}(hgd:o.guard=none)(x y:Operand)(ho:o.op=.store 35 x y)
  (g:Nat) (L:List Int) (hx:a.eval x=.pointer (some ⟨g,0,none⟩)) (hy:a.eval y=.agg (hv L)) (old:Array Value) (hg:w.heap[g]?=some (.cells old 35 (0,0))) (hold:old.size=13) (hL:L.length=13)
  (w':World) (hw':w.setRow g (hv L)=w')
  (h:wpList aA ops Q rest (a.put o.dst undef) w'):wpList aA ops Q (o::rest) a w:=
 wpList_store_row hgd 35 x y ho g (hv L) hx hy 35 old hg (KE L hL) (by rw[EW,hold,hL]) (Ql L) (by rw[hw'];exact h)
theorem Bo(w:World)(old cs:Array Value)(t:TypeId)(g:Nat)(hg:g=w.heap.size):(w.alloc (.cells old t)).setRow g cs=w.alloc (.cells cs t):=by
 subst hg;simp only[World.setRow,World.alloc];congr 1;apply Array.ext
 ·simp
 ·intro k h1 h2;simp only[Array.getElem_modify,Array.getElem_push];by_cases hk:k<w.heap.size
  ·simp[hk,show¬w.heap.size=k by omega]
  ·have:w.heap.size=k:=by simp at h2;omega
   simp[this]
theorem Yy(w:World)(g:Nat)(cs:Array Value):w.drew.setRow g cs=(w.setRow g cs).drew:=rfl
theorem Aj{B:Nat}{a w:World}(h:Below B a w){g:Nat}(hg:B≤g)(cs:Array Value):Below B a (w.setRow g cs):=
 ⟨h.os,h.tape,h.output,by simpa using h.size,fun k hk=>(setRow_other w g k cs (by omega)).trans (h.block k hk)⟩
theorem OP{fn:Func}{R:Ending→World→Prop}{a:Act}{w:World}{p:Tmp}(hr:fn.results=#[.cell p 35])(hd:a.defers=[])(g:Nat)(hp:a.tmps.getD p undef=.pointer (some ⟨g,0,none⟩))(L:List Int)(hL:L.length=13)
  (hg:w.heap[g]?=some (.cells (hv L) 35 (0,0))) (h:R (.returned (.agg (hv L))) w):bodyPost aA fn R .ret a w:=
 bodyPost_ret (v:=.agg (hv L)) (results_cell_row hr _ _ g 35 (hv L) (0,0) _ hp hg aY rfl (KE L hL)) hd h
theorem Ab(w:World)(o:Obj)(g:Nat)(hg:g=w.heap.size):(w.alloc o).heap[g]?=some o:=by rw[hg];exact heap_alloc_new w o
theorem Ah(w:World)(o x:Obj)(g:Nat)(h:w.heap[g]?=some x):(w.alloc o).heap[g]?=some x:=by
 rw[Below.heap_alloc w o g (aK.1 h).1];exact h
theorem eX{α:Type _}(a:α):∃x,x=a:=⟨_,rfl⟩
theorem pU:(∀(a:Act) (d:Tmp) (v:Value),Act.put a (some d) v={a with tmps:=a.tmps.setIfInBounds d v})∧(∀(a:Act) (v:Value),Act.put a none v=a)∧(∀(l:List Value) (i:Nat) (v:Value),l.toArray.setIfInBounds i v=(l.set i v).toArray)∧(∀(a b:Value) (l:List Value) (n:Nat),(a::l).set (n+1) b=a::l.set n b)∧∀(a b:Value) (l:List Value),(a::l).set 0 b=b::l:=⟨fun _ _ _=>rfl,fun _ _=>rfl,fun _ _ _=>by simp,fun _ _ _ _=>rfl,fun _ _ _=>rfl⟩
theorem gS{α:Type _}{a:Array α}{i:Nat}{v:α}(h:a[i]?=some v):i<a.size:=(aK.1 h).1
theorem rL{P:Program}{id:Nat}{Q:Exit→Act→World→Prop}{a:Act}{w:World}{l:List Oper}(h:wpQuiet P l.toArray (fun w'=> ∃u:Am w,w'=u.world) (fun a'=> ∀w',(∃u:Am w,w'=u.world)→Q .normal a' w') l a)(hm:P.follows .mixedOrders=true:=by kernel_rfl)(hB:Region.lexB .any l.toArray=true:=by kernel_rfl):(Code.region id l.toArray true).wp P Q a w:=BE hm hB h
theorem Vc(i:Int)(w:World)(h0:0≤i)(h1:i<104):
  Calls aA 212 #[.int .i64 i] w fun e w'=>e=.returned (.bool true)∧w'=w:=by
 go_enter bN,bF;go_wp2;go_ret;exact⟨FH (by simp),rfl⟩
theorem Xn(i:Int)(w:World)(h:¬(0≤i∧i<104)):
  Calls aA 212 #[.int .i64 i] w fun e w'=>e=.returned (.bool false)∧w'=w:=by
 by_cases h0:0≤i
 ·have h1:104≤i:=by omega
  go_enter bN,bF;go_wp2;go_ret;exact⟨FH (by simp;omega),rfl⟩
 ·go_enter bN,bF;go_wp2;go_ret;exact⟨FH (by simp),rfl⟩
theorem UV(i:Int)(w:World)(h0:0≤i)(h1:i<104):
  Calls aA 213 #[.int .i64 i] w fun e w'=>e=.returned (.int .u8 (128/2 ^ (i%8).toNat))∧w'=w:=by
 go_enter Tryz.func213,Tryz.ntmps213;go_wp2;go_ret;exact⟨rfl,rfl⟩
set_option maxRecDepth 100000 in
theorem Ao8:∀x:Fin 256,∀j:Fin 8,(bits .and .u8 (x.val:Int) (128/2 ^ j.val) !=0)=((x.val:Int)/2 ^ (7-j.val)%2==1):=by decide+kernel
set_option maxRecDepth 100000 in
theorem Ali:∀x:Fin 256,∀j:Fin 8,bits .xor .u8 (bits .xor .u8 (x.val:Int) (128/2 ^ j.val)) (128/2 ^ j.val)=(x.val:Int)∧bits .xor .u8 (x.val:Int) (128/2 ^ j.val)≠(x.val:Int)∧0≤bits .xor .u8 (x.val:Int) (128/2 ^ j.val)∧bits .xor .u8 (x.val:Int) (128/2 ^ j.val)<256:=by decide+kernel
set_option maxRecDepth 100000 in
theorem Ahc:∀x:Fin 256,∀j:Fin 8,∀k:Fin 8,(bits .xor .u8 (x.val:Int) (128/2 ^ j.val)/2 ^ (7-k.val)%2==1)=(((x.val:Int)/2 ^ (7-k.val)%2==1) !=decide (j=k)):=by decide+kernel
theorem Ao9(x i:Int)(hb0:0≤x)(hb1:x<256):(bits .and .u8 x (128/2 ^ (i%8).toNat) !=0)=(x/2 ^ (7-i%8).toNat%2==1):=by
 have h:=Ao8 ⟨x.toNat,by omega⟩ ⟨(i%8).toNat,by omega⟩;simp only[] at h;rw[show((x.toNat:Nat):Int)=x by omega,show 7-(i%8).toNat=(7-i%8).toNat by omega] at h;exact h
def Eo(L:List Int)(i:Int):Int:=L.getD (i/8).toNat 0
def Gt(L:List Int)(i:Int):Bool:=decide (0≤i∧i<104)&&(Eo L i/2 ^ (7-i%8).toNat%2==1)
theorem Ml(L:List Int)(hL:AK L)(i:Int)(w:World):
  Calls aA 162 #[.agg (hv L),.int .i64 i] w fun e w'=>e=.returned (.bool (Gt L i))∧Below w.heap.size w w':=by
 by_cases hin:0≤i∧i<104
 ·obtain⟨h0,h1⟩:=hin;obtain⟨x,hx,hxe⟩:∃x,(hv L)[(i/8).toNat]?=some (.int .u8 x)∧x=Eo L i:=⟨_,K5 L hL.1 _ (by omega),rfl⟩;have hb:0≤x∧x<256:=by rw[hxe];exact hL.2 _
  obtain⟨hb0,hb1⟩:=hb;have HX:Hid _:=hxe;clear hxe;go_enter bO,bG;go_wp2;go_ret;refine⟨FH ?_,(aI _ _).alloc (aD _) _⟩;rw[Int.tmod_eq_emod_of_nonneg (Int.ediv_nonneg hb0 (Int.pow_nonneg (by decide))),HX.out];simp[Gt,h0,h1]
 ·by_cases h0:i<0
  ·go_enter bO,bG;go_wp2;go_ret;exact⟨FH (by simp[Gt];omega),(aI _ _).alloc (aD _) _⟩
  ·have h1:103<i:=by omega
   have h0':0≤i:=by omega
   go_enter bO,bG;go_wp2;go_ret;exact⟨FH (by simp[Gt];omega),(aI _ _).alloc (aD _) _⟩
theorem Ao2(L:List Int)(hL:AK L)(i:Int)(w:World):
  Calls aA 202 #[.agg (hv L),.int .i64 i] w fun e w'=>e=.returned (.bool (Gt L i))∧Below w.heap.size w w':=by
 by_cases hin:0≤i∧i<104
 ·obtain⟨h0,h1⟩:=hin;obtain⟨x,hx,hxe⟩:∃x,(hv L)[(i/8).toNat]?=some (.int .u8 x)∧x=Eo L i:=⟨_,K5 L hL.1 _ (by omega),rfl⟩;have hb:0≤x∧x<256:=by rw[hxe];exact hL.2 _
  obtain⟨hb0,hb1⟩:=hb;have HX:Hid _:=hxe;clear hxe;go_enter Tryz.func202,Tryz.ntmps202;go_wp2;go_quiet (first|(go_at_call 212;exact aT (Vc _ _ h0 h1))|(go_at_call 213;exact aT (UV _ _ h0 h1)));go_wp2;go_ret;refine⟨FH ?_,below_drewN ((aI _ _).alloc (aD _) _) _⟩;rw[Ao9 x i hb0 hb1,HX.out];simp[Gt,h0,h1]
 ·go_enter Tryz.func202,Tryz.ntmps202;go_wp2;go_quiet (first|(go_at_call 212;exact aT (Xn _ _ hin)));go_wp2;go_ret;exact⟨FH (by simp[Gt];omega),below_drewN ((aI _ _).alloc (aD _) _) _⟩
def J5(L:List Int)(i:Int):List Int:=if 0≤i∧i<104 then L.set (i/8).toNat (bits .xor .u8 (Eo L i) (128/2 ^ (i%8).toNat)) else L
theorem Lm{P:Program}{ops:Array Oper}{w:World}{Q:Act→Prop}:∀(l:List Oper) (a:Act),wpQuiet P ops (fun w'=>w'=w) Q l a→wpStill P ops w Q l a
 | [],_,h=>h
 | o::rest,a,h=>by
  unfold wpQuiet at h
  unfold wpStill
  split at h
  ·rename_i hw
   rw[if_pos hw]
   obtain⟨v,h1,h2⟩:=h
   have h2':=Lm rest _ h2
   have h1':=h1 w rfl
   unfold Oper.quietAt at h1'
   unfold Oper.still
   revert h1'
   generalize (execOp a.eval o).run P w=r
   intro h1'
   match r,h1' with
   | .ok (.value u) w',⟨e1,e2⟩=>exact⟨e1,by rw[e2];exact h2'⟩
   | .ok .skip w',⟨e1,e2⟩=>exact⟨e1,by rw[←e2];exact h2'⟩
   | .ok (.enter f args) w',⟨e1,e2⟩=>exact⟨e1,v,e2,h2'⟩
  ·rename_i hw
   rw[if_neg hw]
   exact Lm rest _ h
theorem GM{P:Program}{id:Nat}{Q:Exit→Act→World→Prop}{a:Act}{w:World}{l:List Oper}(n:Nat)(hm:P.follows .mixedOrders=true)(hB:Region.lexTailB .any l.toArray n=true)
  (h:wpQuiet P l.toArray (fun w'=>w'=w.drew) (fun a'=>wpList P l.toArray Q (l.drop n) a' w.drew) (l.take n) a):(Code.region id l.toArray true).wp P Q a w:=
 wp_region_still_tail n hm hB (Lm _ _ h)
theorem Qm{w:World}{g:Nat}{x:Obj}(h:w.heap[g]?=some x):w.drew.heap[g]?=some x:=h
theorem Qk(L:List Int)(k:Nat)(v:Int):(hv L).setIfInBounds k (.int .u8 v)=hv (L.set k v):=by
 unfold hv;rw[List.setIfInBounds_toArray, ←List.map_set]
theorem Ank(L:List Int)(hL:AK L)(i:Int)(w:World)(h0:0≤i)(h1:i<104):
  Calls aA 222 #[.agg (hv L),.int .i64 i] w fun e w'=>e=.returned (.agg (hv (J5 L i)))∧Below w.heap.size w w':=by
 obtain⟨x,hx,hxe⟩:∃x,(hv L)[(i/8).toNat]?=some (.int .u8 x)∧x=Eo L i:=⟨_,K5 L hL.1 _ (by omega),rfl⟩;have hb:0≤x∧x<256:=by rw[hxe];exact hL.2 _
 obtain⟨hb0,hb1⟩:=hb;have HX:Hid _:=hxe;clear hxe;go_enter Tryz.func222,Tryz.ntmps222;go_wp2_with (first|(go_at_call 212;refine(Vc _ _ h0 h1).mono ?_;rintro e w' ⟨rfl,rfl⟩));refine GM 8 (by kernel_rfl) (by kernel_rfl) ?_;simp only[List.take_succ_cons,List.take_zero,List.drop_succ_cons,List.drop_zero]
 iterate 5 (go_big_quiet_step (fail))
 go_big_quiet_want;go_big_quiet_op;refine⟨_,UV _ _ h0 h1,?_⟩;go_big_quiet_on;go_big_quiet_step (fail);go_big_quiet_step (fail);refine wpQuiet_nil ?_;have hL2:(L.set (i/8).toNat (bits .xor .u8 x (128/2 ^ (i%8).toNat))).length=13:=by rw[bB];exact hL.1
 go_wp2_with (first
  | (refine Ej rfl _ rfl w.heap.size rfl (L.set (i/8).toNat (bits .xor .u8 x (128/2 ^ (i%8).toNat))) (Qm (by rw[←Qk];exact Ah _ _ _ _ (Ab _ _ _ rfl))) hL2 ?_)
  | (refine Iv rfl _ _ rfl (w.heap.size+1) (L.set (i/8).toNat (bits .xor .u8 x (128/2 ^ (i%8).toNat))) rfl rfl _ (Qm (Ab _ _ _ (by simp))) rfl hL2 _ (by rw[Yy,Bo _ _ _ _ _ (by simp)]) ?_))
 refine OP (p:=4) rfl rfl (w.heap.size+1) rfl _ hL2 (Qm (Ab _ _ _ (by simp))) ⟨?_,?_⟩
 ·rw[HX.out];unfold J5;rw[if_pos ⟨h0,h1⟩]
 ·exact(((aI _ _).alloc (aD _) _).alloc (by simp) _).drew
theorem Anj(L:List Int)(hL:AK L)(i:Int)(w:World)(hin:¬(0≤i∧i<104)):
  Calls aA 222 #[.agg (hv L),.int .i64 i] w fun e w'=>e=.returned (.agg (hv (J5 L i)))∧Below w.heap.size w w':=by
 have hf:J5 L i=L:=by unfold J5;rw[if_neg hin]
 rw[hf];clear hf;go_enter Tryz.func222,Tryz.ntmps222;go_wp2_with (first|(go_at_call 212;refine(Xn _ _ hin).mono ?_;rintro e w' ⟨rfl,rfl⟩)|(refine Ej rfl _ rfl w.heap.size rfl L (Ah _ _ _ _ (Ab _ _ _ rfl)) hL.1 ?_)|(refine Iv rfl _ _ rfl (w.heap.size+1) L rfl rfl _ (Ab _ _ _ (by simp)) rfl hL.1 _ (Bo _ _ _ _ _ (by simp)) ?_));refine OP (p:=4) rfl rfl (w.heap.size+1) rfl L hL.1 (Ab _ _ _ (by simp)) ⟨rfl,?_⟩;exact((aI _ _).alloc (aD _) _).alloc (by simp) _
theorem Aju(L:List Int)(hL:AK L)(i:Int)(w:World):
  Calls aA 222 #[.agg (hv L),.int .i64 i] w fun e w'=>e=.returned (.agg (hv (J5 L i)))∧Below w.heap.size w w':=by
 by_cases hin:0≤i∧i<104
 ·exact Ank L hL i w hin.1 hin.2
 ·exact Anj L hL i w hin
theorem Jo(L:List Int)(j k:Nat)(v:Int)(hj:j<L.length):(L.set j v).getD k 0=if j=k then v else L.getD k 0:=by
 simp only[cE,List.getElem?_set];by_cases h:j=k
 ·subst h;simp[hj]
 ·simp[h]
theorem Wg(x i:Int)(hx:0≤x∧x<256):bits .xor .u8 (bits .xor .u8 x (128/2 ^ (i%8).toNat)) (128/2 ^ (i%8).toNat)=x∧bits .xor .u8 x (128/2 ^ (i%8).toNat)≠x∧0≤bits .xor .u8 x (128/2 ^ (i%8).toNat)∧bits .xor .u8 x (128/2 ^ (i%8).toNat)<256:=by
 have h:=Ali ⟨x.toNat,by omega⟩ ⟨(i%8).toNat,by omega⟩;simp only[] at h;rw[show((x.toNat:Nat):Int)=x by omega] at h;exact h
theorem Ad8(x i k:Int)(hx:0≤x∧x<256):(bits .xor .u8 x (128/2 ^ (i%8).toNat)/2 ^ (7-k%8).toNat%2==1)=((x/2 ^ (7-k%8).toNat%2==1) !=decide (i%8=k%8)):=by
 have h:=Ahc ⟨x.toNat,by omega⟩ ⟨(i%8).toNat,by omega⟩ ⟨(k%8).toNat,by omega⟩;simp only[Fin.mk.injEq] at h;rw[show((x.toNat:Nat):Int)=x by omega,show 7-(k%8).toNat=(7-k%8).toNat by omega] at h;rw[h];congr 1;rw[decide_eq_decide];omega
theorem Ajs(L:List Int)(hL:AK L)(i:Int):AK (J5 L i):=by
 unfold J5;split
 ·rename_i h;refine⟨by rw[bB];exact hL.1,fun k=> ?_⟩;rw[Jo _ _ _ _ (by rw[hL.1];omega)];split
  ·exact⟨(Wg (Eo L i) i (hL.2 _)).2.2.1,(Wg (Eo L i) i (hL.2 _)).2.2.2⟩
  ·exact hL.2 k
 ·exact hL
theorem Ajt(L:List Int)(hL:AK L)(i k:Int):Gt (J5 L i) k=(Gt L k !=(decide (0≤i∧i<104)&&decide (i=k))):=by
 by_cases h:0≤i∧i<104
 ·rw[decide_eq_true h];unfold J5;rw[if_pos h];by_cases hk:0≤k∧k<104
  ·have hlt:(i/8).toNat<L.length:=by rw[hL.1];omega
   unfold Gt;rw[decide_eq_true hk];simp only[aW];unfold Eo;rw[Jo _ _ _ _ hlt];by_cases e:(i/8).toNat=(k/8).toNat
   ·rw[if_pos e];have:=Ad8 (L.getD (i/8).toNat 0) i k (hL.2 _);rw[this, ←e];congr 1;rw[decide_eq_decide];omega
   ·rw[if_neg e,decide_eq_false (show¬i=k by rintro rfl;exact e rfl)];simp
  ·unfold Gt;rw[decide_eq_false hk,decide_eq_false (show¬i=k by rintro rfl;exact hk h)];simp
 ·unfold J5;rw[if_neg h,decide_eq_false h];simp
abbrev Kx:Array Value:=#[.int .u8 0,.int .u8 0,.int .u8 0,.int .u8 0,.int .u8 0,.int .u8 0,.int .u8 0,.int .u8 0,.int .u8 0,.int .u8 0,.int .u8 0,.int .u8 0,.int .u8 0]
def JL(L:List Int)(i:Int)(b:Bool):List Int:=
 if Gt L i=b then L else if b then L.set (i/8).toNat (Eo L i+128/2 ^ (i%8).toNat) else L.set (i/8).toNat (Eo L i-128/2 ^ (i%8).toNat)
set_option maxRecDepth 100000 in
theorem Aol:∀x:Fin 256,∀j:Fin 8,((x.val:Int)/2 ^ (7-j.val)%2==1)=false→(x.val:Int)+128/2 ^ j.val<256∧∀k:Fin 8,(((x.val:Int)+128/2 ^ j.val)/2 ^ (7-k.val)%2==1)=if k=j then true else ((x.val:Int)/2 ^ (7-k.val)%2==1):=by decide+kernel
set_option maxRecDepth 100000 in
theorem Ak6:∀x:Fin 256,∀j:Fin 8,((x.val:Int)/2 ^ (7-j.val)%2==1)=true→0≤(x.val:Int)-128/2 ^ j.val∧∀k:Fin 8,(((x.val:Int)-128/2 ^ j.val)/2 ^ (7-k.val)%2==1)=if k=j then false else ((x.val:Int)/2 ^ (7-k.val)%2==1):=by decide+kernel
theorem Zm(x i:Int)(hx:0≤x∧x<256)(h:(x/2 ^ (7-i%8).toNat%2==1)=false):x+128/2 ^ (i%8).toNat<256∧∀k:Int,((x+128/2 ^ (i%8).toNat)/2 ^ (7-k%8).toNat%2==1)=if k%8=i%8 then true else (x/2 ^ (7-k%8).toNat%2==1):=by
 have hh:=Aol ⟨x.toNat,by omega⟩ ⟨(i%8).toNat,by omega⟩;simp only[show((x.toNat:Nat):Int)=x by omega,show 7-(i%8).toNat=(7-i%8).toNat by omega] at hh;obtain⟨h1,h2⟩:=hh h;refine⟨h1,fun k=> ?_⟩;have h3:=h2 ⟨(k%8).toNat,by omega⟩;simp only[Fin.mk.injEq,show 7-(k%8).toNat=(7-k%8).toNat by omega] at h3;rw[h3];by_cases e:k%8=i%8
 ·rw[if_pos (by rw[e]),if_pos e]
 ·rw[if_neg (by omega),if_neg e]
theorem Vu(x i:Int)(hx:0≤x∧x<256)(h:(x/2 ^ (7-i%8).toNat%2==1)=true):0≤x-128/2 ^ (i%8).toNat∧∀k:Int,((x-128/2 ^ (i%8).toNat)/2 ^ (7-k%8).toNat%2==1)=if k%8=i%8 then false else (x/2 ^ (7-k%8).toNat%2==1):=by
 have hh:=Ak6 ⟨x.toNat,by omega⟩ ⟨(i%8).toNat,by omega⟩;simp only[show((x.toNat:Nat):Int)=x by omega,show 7-(i%8).toNat=(7-i%8).toNat by omega] at hh;obtain⟨h1,h2⟩:=hh h;refine⟨h1,fun k=> ?_⟩;have h3:=h2 ⟨(k%8).toNat,by omega⟩;simp only[Fin.mk.injEq,show 7-(k%8).toNat=(7-k%8).toNat by omega] at h3;rw[h3];by_cases e:k%8=i%8
 ·rw[if_pos (by rw[e]),if_pos e]
 ·rw[if_neg (by omega),if_neg e]
theorem PU(i:Int):0≤(128:Int)/2 ^ (i%8).toNat∧(128:Int)/2 ^ (i%8).toNat≤128:=by
 have:∀j:Fin 8,0≤(128:Int)/2 ^ j.val∧(128:Int)/2 ^ j.val≤128:=by decide
 exact this ⟨(i%8).toNat,by omega⟩
theorem MH(L:List Int)(i:Int)(h0:0≤i)(h1:i<104):Gt L i=(Eo L i/2 ^ (7-i%8).toNat%2==1):=by
 unfold Gt;rw[decide_eq_true ⟨h0,h1⟩,aW]
theorem Ahn(L:List Int)(hL:AK L)(i:Int)(b:Bool)(h0:0≤i)(h1:i<104):
  AK (JL L i b)∧∀k,0≤k→k<104→Gt (JL L i b) k=if k=i then b else Gt L k:=by
 have hlt:(i/8).toNat<L.length:=by rw[hL.1];omega
 have hx:0≤Eo L i∧Eo L i<256:=hL.2 _;have hs:=PU i;by_cases e:Gt L i=b
 ·have es:JL L i b=L:=by unfold JL;rw[if_pos e]
  rw[es];refine⟨hL,fun k _ _=> ?_⟩;by_cases ek:k=i
  ·rw[if_pos ek,ek,e]
  ·rw[if_neg ek]
 ·cases b
  focus
   have hbt:(Eo L i/2 ^ (7-i%8).toNat%2==1)=true:=by
    rw[←MH L i h0 h1];cases h:Gt L i
    ·exact absurd h e
    ·rfl
   have es:JL L i false=L.set (i/8).toNat (Eo L i-128/2 ^ (i%8).toNat):=by unfold JL;rw[if_neg e];rfl
   obtain⟨g1,g2⟩:=Vu _ i hx hbt
  rotate_left
  focus
   have hbt:(Eo L i/2 ^ (7-i%8).toNat%2==1)=false:=by
    rw[←MH L i h0 h1];cases h:Gt L i
    ·rfl
    ·exact absurd h e
   have es:JL L i true=L.set (i/8).toNat (Eo L i+128/2 ^ (i%8).toNat):=by unfold JL;rw[if_neg e];rfl
   obtain⟨g1,g2⟩:=Zm _ i hx hbt
  all_goals
   rw[es];refine⟨⟨by rw[bB];exact hL.1,fun k=> ?_⟩,fun k hk0 hk1=> ?_⟩
   ·rw[Jo _ _ _ _ hlt];split
    ·omega
    ·exact hL.2 k
   ·rw[MH _ k hk0 hk1,MH _ k hk0 hk1];unfold Eo;rw[Jo _ _ _ _ hlt];by_cases ek:(i/8).toNat=(k/8).toNat
    ·rw[if_pos ek];have g3:=g2 k;unfold Eo at g3;rw[g3,ek];by_cases e2:k=i
     ·rw[if_pos e2,if_pos (by rw[e2])]
     ·rw[if_neg e2,if_neg (by omega)]
    ·rw[if_neg ek,if_neg (by rintro rfl;exact ek rfl)]
end
end Go.Proofs.YtbhkoipcpcoooaaGreat
