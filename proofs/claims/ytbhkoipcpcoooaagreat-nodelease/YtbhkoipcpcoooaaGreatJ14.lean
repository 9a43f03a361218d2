import Derived.Test.YtbhkoipcpcoooaaGreatJ13
import Derived.BigRegion
import Derived.Lib.Hide
import Derived.Maps.AppendAt
namespace Go.Proofs.YtbhkoipcpcoooaaGreat
set_option maxRecDepth 20000
set_option maxHeartbeats 64000000
open Go
open _root_.Nat renaming le_refl → aA, le_succ → aK, zero_le → aQ
open Go.Proofs.Tryz renaming prog → aB, ntmps80 → aG, func80 → aI, ntmps79 → aP, func79 → aR
open Go.RowKit.Below renaming refl → aC
open _root_.List renaming setIfInBounds_toArray → aD, getElem?_eq_getElem → aH, set_cons_succ → aL, set_cons_zero → aM, take_length → aN, mem_of_getElem? → aO, length_append → aT, take_add_one → aV, all_eq_true → aY
open _root_.Array renaming getElem?_eq_some_iff → aJ
open Go.Act renaming put → aW
section
open Go.Lib Go.RowKit
def Aas(g:Nat)(ns:List Nat):Array Value:=(ns.map fun j=>Value.pointer (some ⟨g,j+1,none⟩)).toArray
def PZ(g:Nat)(c:Bool):Value:=if c then .pointer (some ⟨g,14,none⟩) else .pointer none
def PY(g:Nat)(d:Bool):Value:=if d then .pointer (some ⟨g,40,none⟩) else .pointer none
def Df(h g n:Nat)(c d:Bool):Array Value:=#[.slice (some ⟨h,0,none⟩) n n,PZ g c,PY g d]
def Nk(g:Nat)(ns:List Nat)(c d:Bool)(w:World)(e:Ending)(w':World):Prop:=
 ∃h,e=.returned (.tuple #[.agg (Df h g ns.length c d),.bool true])∧w.heap.size≤h∧w'.heap[h]?=some (.cells (Aas g ns) 182 (0,0))∧Below w.heap.size w w'
def FvG:Ag:=⟨140,3⟩
theorem I8:FvG.Ok:=⟨⟨_,Tryz.underlying140,rfl⟩,by kernel_rfl⟩
theorem RT(h g n:Nat)(c d:Bool):(Df h g n c d).size=3∧(Df h g n c d).all (·.oneCell')=true:=by
 refine⟨rfl,?_⟩;unfold Df PZ PY
 cases c <;> cases d <;> simp[Value.oneCell']
theorem RD{w:World}{g:Nat}{a b c x y z:Value}{t:TypeId}(h:w.heap[g]?=some (.cells #[a,b,c] t (0,0))):(((w.setCell ⟨g,0,none⟩ x).setCell ⟨g,1,none⟩ y).setCell ⟨g,2,none⟩ z).heap[g]?=some (.cells #[x,y,z] t (0,0)):=
 heap_setCell_same _ _ _ _ _ _ (heap_setCell_same _ _ _ _ _ _ (heap_setCell_same _ _ _ _ _ _ h))
theorem Iz{B g:Nat}{u w:World}(hB:Below B u w)(hg:B≤g)(x y z:Value):Below B u (((w.setCell ⟨g,0,none⟩ x).setCell ⟨g,1,none⟩ y).setCell ⟨g,2,none⟩ z):=
 ((hB.setCell (by simpa using hg) x).setCell (by simpa using hg) y).setCell (by simpa using hg) z
theorem Ans(g:Nat)(m:An)(hk:m.kind=1)(w:World)(hg:w.heap[g]?=some (.cells (Ae m) 39 (0,0))):
  Calls aB 80 #[.pointer (some ⟨g,0,none⟩)] w fun e w'=>Nk g [0,1,2,3,4,7,8] true false w e w':=by
 have hc:∀o,(w.alloc o).cell? ⟨g,0,none⟩=some (.int .i64 1):=fun o=>by
  rw[cell_of_row _ _ _ _ _ _ (Ah _ _ _ _ hg),DB,hk]
 clear hk hg;go_enter aI,aG;go_wp2_with fail;obtain⟨w1,hw1⟩:=eX (w.alloc (.cells (#[.slice none 0 0,.pointer none,.pointer none]) 140));rw[←hw1];have h1:w1.heap[w.heap.size]?=some (.cells #[.slice none 0 0,.pointer none,.pointer none] 140 (0,0)):=by rw[hw1];exact Ab _ _ _ rfl
 have B1:Below w.heap.size w w1:=by rw[hw1];exact(aC _ _).alloc (aA _) _
 have hs1:w1.heap.size=w.heap.size+1:=by rw[hw1];simp
 clear hw1 hc;have c0:w1.cell? ⟨w.heap.size,0,none⟩=some (.slice none 0 0):=cell_of_row _ _ _ _ _ _ h1;have c1:w1.cell? ⟨w.heap.size,1,none⟩=some (.pointer none):=cell_of_row _ _ _ _ _ _ h1;have c2:w1.cell? ⟨w.heap.size,2,none⟩=some (.pointer none):=cell_of_row _ _ _ _ _ _ h1;have f0:w1.frozen? ⟨w.heap.size,0,none⟩=false:=frozen_of_row _ _ _ _ _ h1;have f1:w1.frozen? ⟨w.heap.size,1,none⟩=false:=frozen_of_row _ _ _ _ _ h1;have f2:w1.frozen? ⟨w.heap.size,2,none⟩=false:=frozen_of_row _ _ _ _ _ h1;go_region;go_wp2_with fail;have hh:=RD (x:=.slice (some ⟨w.heap.size+1,0,none⟩) 7 7) (y:=.pointer (some ⟨g,14,none⟩)) (z:=.pointer none) h1;have hB:=Iz B1 (aA w.heap.size) (.slice (some ⟨w.heap.size+1,0,none⟩) 7 7) (.pointer (some ⟨g,14,none⟩)) (.pointer none);refine GE I8 (p:=2) (u:=3) rfl rfl w.heap.size rfl (Df (w.heap.size+1) g 7 true false) rfl ?_ _ rfl ⟨w.heap.size+1,rfl,aK _,?_,?_⟩
 ·exact Ah _ _ _ _ hh
 ·exact Ab _ _ _ (by simp[hs1])
 ·exact(hB.alloc (by simp[hs1]) _).drew
theorem Anr(g:Nat)(m:An)(hk:m.kind=2)(w:World)(hg:w.heap[g]?=some (.cells (Ae m) 39 (0,0))):
  Calls aB 80 #[.pointer (some ⟨g,0,none⟩)] w fun e w'=>Nk g [0,1,2,3,4,5,6] true false w e w':=by
 have hc:∀o,(w.alloc o).cell? ⟨g,0,none⟩=some (.int .i64 2):=fun o=>by
  rw[cell_of_row _ _ _ _ _ _ (Ah _ _ _ _ hg),DB,hk]
 clear hk hg;go_enter aI,aG;go_wp2_with fail;obtain⟨w1,hw1⟩:=eX (w.alloc (.cells (#[.slice none 0 0,.pointer none,.pointer none]) 140));rw[←hw1];have h1:w1.heap[w.heap.size]?=some (.cells #[.slice none 0 0,.pointer none,.pointer none] 140 (0,0)):=by rw[hw1];exact Ab _ _ _ rfl
 have B1:Below w.heap.size w w1:=by rw[hw1];exact(aC _ _).alloc (aA _) _
 have hs1:w1.heap.size=w.heap.size+1:=by rw[hw1];simp
 clear hw1 hc;have c0:w1.cell? ⟨w.heap.size,0,none⟩=some (.slice none 0 0):=cell_of_row _ _ _ _ _ _ h1;have c1:w1.cell? ⟨w.heap.size,1,none⟩=some (.pointer none):=cell_of_row _ _ _ _ _ _ h1;have c2:w1.cell? ⟨w.heap.size,2,none⟩=some (.pointer none):=cell_of_row _ _ _ _ _ _ h1;have f0:w1.frozen? ⟨w.heap.size,0,none⟩=false:=frozen_of_row _ _ _ _ _ h1;have f1:w1.frozen? ⟨w.heap.size,1,none⟩=false:=frozen_of_row _ _ _ _ _ h1;have f2:w1.frozen? ⟨w.heap.size,2,none⟩=false:=frozen_of_row _ _ _ _ _ h1;go_region;go_wp2_with fail;have hh:=RD (x:=.slice (some ⟨w.heap.size+1,0,none⟩) 7 7) (y:=.pointer (some ⟨g,14,none⟩)) (z:=.pointer none) h1;have hB:=Iz B1 (aA w.heap.size) (.slice (some ⟨w.heap.size+1,0,none⟩) 7 7) (.pointer (some ⟨g,14,none⟩)) (.pointer none);refine GE I8 (p:=2) (u:=3) rfl rfl w.heap.size rfl (Df (w.heap.size+1) g 7 true false) rfl ?_ _ rfl ⟨w.heap.size+1,rfl,aK _,?_,?_⟩
 ·exact Ah _ _ _ _ hh
 ·exact Ab _ _ _ (by simp[hs1])
 ·exact(hB.alloc (by simp[hs1]) _).drew
theorem Anq(g:Nat)(m:An)(hk:m.kind=3)(w:World)(hg:w.heap[g]?=some (.cells (Ae m) 39 (0,0))):
  Calls aB 80 #[.pointer (some ⟨g,0,none⟩)] w fun e w'=>Nk g [0,9,10,2] false false w e w':=by
 have hc:∀o,(w.alloc o).cell? ⟨g,0,none⟩=some (.int .i64 3):=fun o=>by
  rw[cell_of_row _ _ _ _ _ _ (Ah _ _ _ _ hg),DB,hk]
 clear hk hg;go_enter aI,aG;go_wp2_with fail;obtain⟨w1,hw1⟩:=eX (w.alloc (.cells (#[.slice none 0 0,.pointer none,.pointer none]) 140));rw[←hw1];have h1:w1.heap[w.heap.size]?=some (.cells #[.slice none 0 0,.pointer none,.pointer none] 140 (0,0)):=by rw[hw1];exact Ab _ _ _ rfl
 have B1:Below w.heap.size w w1:=by rw[hw1];exact(aC _ _).alloc (aA _) _
 have hs1:w1.heap.size=w.heap.size+1:=by rw[hw1];simp
 clear hw1 hc;have c0:w1.cell? ⟨w.heap.size,0,none⟩=some (.slice none 0 0):=cell_of_row _ _ _ _ _ _ h1;have c1:w1.cell? ⟨w.heap.size,1,none⟩=some (.pointer none):=cell_of_row _ _ _ _ _ _ h1;have c2:w1.cell? ⟨w.heap.size,2,none⟩=some (.pointer none):=cell_of_row _ _ _ _ _ _ h1;have f0:w1.frozen? ⟨w.heap.size,0,none⟩=false:=frozen_of_row _ _ _ _ _ h1;have f1:w1.frozen? ⟨w.heap.size,1,none⟩=false:=frozen_of_row _ _ _ _ _ h1;have f2:w1.frozen? ⟨w.heap.size,2,none⟩=false:=frozen_of_row _ _ _ _ _ h1;go_region;go_wp2_with fail;have hh:=RD (x:=.slice (some ⟨w.heap.size+1,0,none⟩) 4 4) (y:=.pointer none) (z:=.pointer none) h1;have hB:=Iz B1 (aA w.heap.size) (.slice (some ⟨w.heap.size+1,0,none⟩) 4 4) (.pointer none) (.pointer none);refine GE I8 (p:=2) (u:=3) rfl rfl w.heap.size rfl (Df (w.heap.size+1) g 4 false false) rfl ?_ _ rfl ⟨w.heap.size+1,rfl,aK _,?_,?_⟩
 ·exact Ah _ _ _ _ hh
 ·exact Ab _ _ _ (by simp[hs1])
 ·exact(hB.alloc (by simp[hs1]) _).drew
theorem Anp(g:Nat)(m:An)(hk:m.kind=4)(w:World)(hg:w.heap[g]?=some (.cells (Ae m) 39 (0,0))):
  Calls aB 80 #[.pointer (some ⟨g,0,none⟩)] w fun e w'=>Nk g [0,1,3] false false w e w':=by
 have hc:∀o,(w.alloc o).cell? ⟨g,0,none⟩=some (.int .i64 4):=fun o=>by
  rw[cell_of_row _ _ _ _ _ _ (Ah _ _ _ _ hg),DB,hk]
 clear hk hg;go_enter aI,aG;go_wp2_with fail;obtain⟨w1,hw1⟩:=eX (w.alloc (.cells (#[.slice none 0 0,.pointer none,.pointer none]) 140));rw[←hw1];have h1:w1.heap[w.heap.size]?=some (.cells #[.slice none 0 0,.pointer none,.pointer none] 140 (0,0)):=by rw[hw1];exact Ab _ _ _ rfl
 have B1:Below w.heap.size w w1:=by rw[hw1];exact(aC _ _).alloc (aA _) _
 have hs1:w1.heap.size=w.heap.size+1:=by rw[hw1];simp
 clear hw1 hc;have c0:w1.cell? ⟨w.heap.size,0,none⟩=some (.slice none 0 0):=cell_of_row _ _ _ _ _ _ h1;have c1:w1.cell? ⟨w.heap.size,1,none⟩=some (.pointer none):=cell_of_row _ _ _ _ _ _ h1;have c2:w1.cell? ⟨w.heap.size,2,none⟩=some (.pointer none):=cell_of_row _ _ _ _ _ _ h1;have f0:w1.frozen? ⟨w.heap.size,0,none⟩=false:=frozen_of_row _ _ _ _ _ h1;have f1:w1.frozen? ⟨w.heap.size,1,none⟩=false:=frozen_of_row _ _ _ _ _ h1;have f2:w1.frozen? ⟨w.heap.size,2,none⟩=false:=frozen_of_row _ _ _ _ _ h1;go_region;go_wp2_with fail;have hh:=RD (x:=.slice (some ⟨w.heap.size+1,0,none⟩) 3 3) (y:=.pointer none) (z:=.pointer none) h1;have hB:=Iz B1 (aA w.heap.size) (.slice (some ⟨w.heap.size+1,0,none⟩) 3 3) (.pointer none) (.pointer none);refine GE I8 (p:=2) (u:=3) rfl rfl w.heap.size rfl (Df (w.heap.size+1) g 3 false false) rfl ?_ _ rfl ⟨w.heap.size+1,rfl,aK _,?_,?_⟩
 ·exact Ah _ _ _ _ hh
 ·exact Ab _ _ _ (by simp[hs1])
 ·exact(hB.alloc (by simp[hs1]) _).drew
theorem Ano(g:Nat)(m:An)(hk:m.kind=5)(w:World)(hg:w.heap[g]?=some (.cells (Ae m) 39 (0,0))):
  Calls aB 80 #[.pointer (some ⟨g,0,none⟩)] w fun e w'=>Nk g [0,10,1,3,12] false false w e w':=by
 have hc:∀o,(w.alloc o).cell? ⟨g,0,none⟩=some (.int .i64 5):=fun o=>by
  rw[cell_of_row _ _ _ _ _ _ (Ah _ _ _ _ hg),DB,hk]
 clear hk hg;go_enter aI,aG;go_wp2_with fail;obtain⟨w1,hw1⟩:=eX (w.alloc (.cells (#[.slice none 0 0,.pointer none,.pointer none]) 140));rw[←hw1];have h1:w1.heap[w.heap.size]?=some (.cells #[.slice none 0 0,.pointer none,.pointer none] 140 (0,0)):=by rw[hw1];exact Ab _ _ _ rfl
 have B1:Below w.heap.size w w1:=by rw[hw1];exact(aC _ _).alloc (aA _) _
 have hs1:w1.heap.size=w.heap.size+1:=by rw[hw1];simp
 clear hw1 hc;have c0:w1.cell? ⟨w.heap.size,0,none⟩=some (.slice none 0 0):=cell_of_row _ _ _ _ _ _ h1;have c1:w1.cell? ⟨w.heap.size,1,none⟩=some (.pointer none):=cell_of_row _ _ _ _ _ _ h1;have c2:w1.cell? ⟨w.heap.size,2,none⟩=some (.pointer none):=cell_of_row _ _ _ _ _ _ h1;have f0:w1.frozen? ⟨w.heap.size,0,none⟩=false:=frozen_of_row _ _ _ _ _ h1;have f1:w1.frozen? ⟨w.heap.size,1,none⟩=false:=frozen_of_row _ _ _ _ _ h1;have f2:w1.frozen? ⟨w.heap.size,2,none⟩=false:=frozen_of_row _ _ _ _ _ h1;go_region;go_wp2_with fail;have hh:=RD (x:=.slice (some ⟨w.heap.size+1,0,none⟩) 5 5) (y:=.pointer none) (z:=.pointer none) h1;have hB:=Iz B1 (aA w.heap.size) (.slice (some ⟨w.heap.size+1,0,none⟩) 5 5) (.pointer none) (.pointer none);refine GE I8 (p:=2) (u:=3) rfl rfl w.heap.size rfl (Df (w.heap.size+1) g 5 false false) rfl ?_ _ rfl ⟨w.heap.size+1,rfl,aK _,?_,?_⟩
 ·exact Ah _ _ _ _ hh
 ·exact Ab _ _ _ (by simp[hs1])
 ·exact(hB.alloc (by simp[hs1]) _).drew
theorem Ann(g:Nat)(m:An)(hk:m.kind=6)(w:World)(hg:w.heap[g]?=some (.cells (Ae m) 39 (0,0))):
  Calls aB 80 #[.pointer (some ⟨g,0,none⟩)] w fun e w'=>Nk g [0,11,1] false true w e w':=by
 have hc:∀o,(w.alloc o).cell? ⟨g,0,none⟩=some (.int .i64 6):=fun o=>by
  rw[cell_of_row _ _ _ _ _ _ (Ah _ _ _ _ hg),DB,hk]
 clear hk hg;go_enter aI,aG;go_wp2_with fail;obtain⟨w1,hw1⟩:=eX (w.alloc (.cells (#[.slice none 0 0,.pointer none,.pointer none]) 140));rw[←hw1];have h1:w1.heap[w.heap.size]?=some (.cells #[.slice none 0 0,.pointer none,.pointer none] 140 (0,0)):=by rw[hw1];exact Ab _ _ _ rfl
 have B1:Below w.heap.size w w1:=by rw[hw1];exact(aC _ _).alloc (aA _) _
 have hs1:w1.heap.size=w.heap.size+1:=by rw[hw1];simp
 clear hw1 hc;have c0:w1.cell? ⟨w.heap.size,0,none⟩=some (.slice none 0 0):=cell_of_row _ _ _ _ _ _ h1;have c1:w1.cell? ⟨w.heap.size,1,none⟩=some (.pointer none):=cell_of_row _ _ _ _ _ _ h1;have c2:w1.cell? ⟨w.heap.size,2,none⟩=some (.pointer none):=cell_of_row _ _ _ _ _ _ h1;have f0:w1.frozen? ⟨w.heap.size,0,none⟩=false:=frozen_of_row _ _ _ _ _ h1;have f1:w1.frozen? ⟨w.heap.size,1,none⟩=false:=frozen_of_row _ _ _ _ _ h1;have f2:w1.frozen? ⟨w.heap.size,2,none⟩=false:=frozen_of_row _ _ _ _ _ h1;go_region;go_wp2_with fail;have hh:=RD (x:=.slice (some ⟨w.heap.size+1,0,none⟩) 3 3) (y:=.pointer none) (z:=.pointer (some ⟨g,40,none⟩)) h1;have hB:=Iz B1 (aA w.heap.size) (.slice (some ⟨w.heap.size+1,0,none⟩) 3 3) (.pointer none) (.pointer (some ⟨g,40,none⟩));refine GE I8 (p:=2) (u:=3) rfl rfl w.heap.size rfl (Df (w.heap.size+1) g 3 false true) rfl ?_ _ rfl ⟨w.heap.size+1,rfl,aK _,?_,?_⟩
 ·exact Ah _ _ _ _ hh
 ·exact Ab _ _ _ (by simp[hs1])
 ·exact(hB.alloc (by simp[hs1]) _).drew
theorem Anm(g:Nat)(m:An)(hk:m.kind=7)(w:World)(hg:w.heap[g]?=some (.cells (Ae m) 39 (0,0))):
  Calls aB 80 #[.pointer (some ⟨g,0,none⟩)] w fun e w'=>Nk g [0,11,1,6] true false w e w':=by
 have hc:∀o,(w.alloc o).cell? ⟨g,0,none⟩=some (.int .i64 7):=fun o=>by
  rw[cell_of_row _ _ _ _ _ _ (Ah _ _ _ _ hg),DB,hk]
 clear hk hg;go_enter aI,aG;go_wp2_with fail;obtain⟨w1,hw1⟩:=eX (w.alloc (.cells (#[.slice none 0 0,.pointer none,.pointer none]) 140));rw[←hw1];have h1:w1.heap[w.heap.size]?=some (.cells #[.slice none 0 0,.pointer none,.pointer none] 140 (0,0)):=by rw[hw1];exact Ab _ _ _ rfl
 have B1:Below w.heap.size w w1:=by rw[hw1];exact(aC _ _).alloc (aA _) _
 have hs1:w1.heap.size=w.heap.size+1:=by rw[hw1];simp
 clear hw1 hc;have c0:w1.cell? ⟨w.heap.size,0,none⟩=some (.slice none 0 0):=cell_of_row _ _ _ _ _ _ h1;have c1:w1.cell? ⟨w.heap.size,1,none⟩=some (.pointer none):=cell_of_row _ _ _ _ _ _ h1;have c2:w1.cell? ⟨w.heap.size,2,none⟩=some (.pointer none):=cell_of_row _ _ _ _ _ _ h1;have f0:w1.frozen? ⟨w.heap.size,0,none⟩=false:=frozen_of_row _ _ _ _ _ h1;have f1:w1.frozen? ⟨w.heap.size,1,none⟩=false:=frozen_of_row _ _ _ _ _ h1;have f2:w1.frozen? ⟨w.heap.size,2,none⟩=false:=frozen_of_row _ _ _ _ _ h1;go_region;go_wp2_with fail;have hh:=RD (x:=.slice (some ⟨w.heap.size+1,0,none⟩) 4 4) (y:=.pointer (some ⟨g,14,none⟩)) (z:=.pointer none) h1;have hB:=Iz B1 (aA w.heap.size) (.slice (some ⟨w.heap.size+1,0,none⟩) 4 4) (.pointer (some ⟨g,14,none⟩)) (.pointer none);refine GE I8 (p:=2) (u:=3) rfl rfl w.heap.size rfl (Df (w.heap.size+1) g 4 true false) rfl ?_ _ rfl ⟨w.heap.size+1,rfl,aK _,?_,?_⟩
 ·exact Ah _ _ _ _ hh
 ·exact Ab _ _ _ (by simp[hs1])
 ·exact(hB.alloc (by simp[hs1]) _).drew
theorem ZR(g:Nat)(m:An)(hk:AQ m.kind=[])(w:World)(hg:w.heap[g]?=some (.cells (Ae m) 39 (0,0))):
  Calls aB 80 #[.pointer (some ⟨g,0,none⟩)] w fun e w'=>e=.returned (.tuple #[.agg #[.slice none 0 0,.pointer none,.pointer none],.bool false])∧Below w.heap.size w w':=by
 have hc:∀o,(w.alloc o).cell? ⟨g,0,none⟩=some (.int .i64 m.kind):=fun o=>by
  rw[cell_of_row _ _ _ _ _ _ (Ah _ _ _ _ hg),DB]
 obtain⟨k,hkk⟩:=eX m.kind;rw[←hkk] at hc hk;have n1:¬k=1:=fun e=>by rw[e] at hk;cases hk
 have n2:¬k=2:=fun e=>by rw[e] at hk;cases hk
 have n3:¬k=3:=fun e=>by rw[e] at hk;cases hk
 have n4:¬k=4:=fun e=>by rw[e] at hk;cases hk
 have n5:¬k=5:=fun e=>by rw[e] at hk;cases hk
 have n6:¬k=6:=fun e=>by rw[e] at hk;cases hk
 have n7:¬k=7:=fun e=>by rw[e] at hk;cases hk
 clear hkk hg hk;go_enter aI,aG;go_wp2_with fail;have h1:(w.alloc (.cells #[.slice none 0 0,.pointer none,.pointer none] 140)).heap[w.heap.size]?=some (.cells #[.slice none 0 0,.pointer none,.pointer none] 140 (0,0)):=Ab _ _ _ rfl;refine GE I8 (p:=2) (u:=3) rfl rfl w.heap.size rfl _ rfl h1 _ rfl ⟨rfl,(aC _ _).alloc (aA _) _⟩
def Li(k:Int):List Nat:=(AQ k).filter (fun f=>decide (f<13))
def K7(k:Int):Bool:=(AQ k).contains 13
def NA(k:Int):Bool:=(AQ k).contains 14
theorem Po(g:Nat)(m:An)(hk:AQ m.kind≠[])(w:World)(hg:w.heap[g]?=some (.cells (Ae m) 39 (0,0))):
  Calls aB 80 #[.pointer (some ⟨g,0,none⟩)] w fun e w'=>Nk g (Li m.kind) (K7 m.kind) (NA m.kind) w e w':=by
 have hr:=RU (k:=m.kind) (by cases h:AQ m.kind with | nil=>exact absurd h hk | cons a l=>rfl);have hcases:m.kind=1∨m.kind=2∨m.kind=3∨m.kind=4∨m.kind=5∨m.kind=6∨m.kind=7:=by omega
 rcases hcases with h | h | h | h | h | h | h
 ·have:=Ans g m h w hg;rw[h];exact this
 ·have:=Anr g m h w hg;rw[h];exact this
 ·have:=Anq g m h w hg;rw[h];exact this
 ·have:=Anp g m h w hg;rw[h];exact this
 ·have:=Ano g m h w hg;rw[h];exact this
 ·have:=Ann g m h w hg;rw[h];exact this
 ·have:=Anm g m h w hg;rw[h];exact this
def inN(x:Int):Bool:=decide (0≤x)&&decide (x≤281474976710655)
theorem QW(x:Int):inN x=true↔0≤x∧x≤281474976710655:=by unfold inN;simp
def Ng(m:An)(ns:List Nat):Bool:=ns.all fun j=>inN (Ad m j)
def E9(m:An)(ns:List Nat)(c:Bool):Bool:=Ng m ns&&(!c || F7 m)
theorem Ags{m:An}{ns:List Nat}{k j:Nat}(hj:ns[k]?=some j)(h:Ng m (ns.take k)=true)(hx:inN (Ad m j)=true):Ng m (ns.take (k+1))=true:=by
 unfold Ng at h ⊢;rw[aV,hj,List.all_append,h];simp[hx]
theorem Yk{m:An}{ns:List Nat}{k j:Nat}(hj:ns[k]?=some j)(hx:inN (Ad m j)=false):Ng m ns=false:=by
 cases e:Ng m ns with
 | false=>rfl
 | true=>
  unfold Ng at e;rw[aY] at e;have:=e j (aO hj);rw[hx] at this
  cases this
structure G3(w:World)(h g:Nat)(ns:List Nat)(m:An):Prop where
 hg:w.heap[g]?=some (.cells (Ae m) 39 (0,0))
 hh:w.heap[h]?=some (.cells (Aas g ns) 182 (0,0))
 hm:BB m
 hn:∀j∈ns,j<13
theorem G3.at{w:World}{h g:Nat}{ns:List Nat}{m:An}(H:G3 w h g ns m){k j:Nat}(hj:ns[k]?=some j):w.cell? ⟨h,k,none⟩=some (.pointer (some ⟨g,j+1,none⟩))∧w.cell? ⟨g,j+1,none⟩=some (.int .i64 (Ad m j))∧j<13:=by
 have hl:=H.hn j (aO hj);refine⟨?_,?_,hl⟩
 ·rw[cell_of_row _ _ _ _ _ _ H.hh];unfold Aas;rw[List.getElem?_toArray,List.getElem?_map,hj];rfl
 ·rw[cell_of_row _ _ _ _ _ _ H.hg,BK H.hm j hl]
theorem G3.below{w w':World}{h g:Nat}{ns:List Nat}{m:An}(H:G3 w h g ns m)(hb:Below w.heap.size w w'):G3 w' h g ns m:=
 ⟨(hb.block _ (gS H.hg)).trans H.hg,(hb.block _ (gS H.hh)).trans H.hh,H.hm,H.hn⟩
theorem G3.alloc{w:World}{h g:Nat}{ns:List Nat}{m:An}(H:G3 w h g ns m)(o:Obj):G3 (w.alloc o) h g ns m:=H.below ((aC _ _).alloc (aA _) _)
theorem Kc(w:World)(h g n:Nat)(c d:Bool)(k:Nat):(w.alloc (.cells (Df h g n c d) 140)).cell? ⟨w.heap.size,k,none⟩=(Df h g n c d)[k]?:=
 cell_of_row _ _ _ _ _ _ (Ab _ _ _ rfl)
theorem Aw{P:Program}{ops:Array Oper}{Q:Exit→Act→World→Prop}{o:Oper}{rest:List Oper}{a:Act}{w:World}(ty:TypeId)(x:Operand)(_:o.op=.load ty x)(h:wpList P ops Q (o::rest) a w):wpList P ops Q (o::rest) a w:=h
theorem Bu{P:Program}{ops:Array Oper}{Q:Exit→Act→World→Prop}{o:Oper}{rest:List Oper}{a:Act}{w:World}(ty:TypeId)(x y:Operand)(_:o.op=.store ty x y)(h:wpList P ops Q (o::rest) a w):wpList P ops Q (o::rest) a w:=h
theorem Cy{P:Program}{ops:Array Oper}{Q:Exit→Act→World→Prop}{o:Oper}{rest:List Oper}{a:Act}{w:World}(ty:TypeId)(ps:Array (Nat×Operand))(_:o.op=.build ty ps)(h:wpList P ops Q (o::rest) a w):wpList P ops Q (o::rest) a w:=h
theorem Abo(h g:Nat)(ns:List Nat)(c d:Bool)(m:An)(w:World)(H:G3 w h g ns m)(hl:ns.length≤7):
  Calls aB 192 #[.agg (Df h g ns.length c d)] w fun e w'=>e=.returned (.bool (E9 m ns c))∧Below w.heap.size w w':=by
 obtain⟨n,hn⟩:=eX ns.length;have HN:Hid _:=hn;rw[←hn] at hl ⊢;clear hn;obtain⟨w1,hw1⟩:=eX (w.alloc (.cells (Df h g n c d) 140));have HI:Hid (G3 w1 h g ns m):=by rw[hw1];exact H.alloc _
 have HB:Hid (Below w.heap.size w w1):=by rw[hw1];exact(aC _ _).alloc (aA _) _
 have c0:w1.cell? ⟨w.heap.size,0,none⟩=some (.slice (some ⟨h,0,none⟩) n n):=by rw[hw1,Kc];rfl
 have c1:w1.cell? ⟨w.heap.size,1,none⟩=some (PZ g c):=by rw[hw1,Kc];rfl
 have CQ:Hid (∀W,Calls aB 160 #[.agg (cv m.cube.1 m.cube.2)] W fun e w'=>e=.returned (.bool (F7 m))∧Below W.heap.size W w'):=Si _ _ H.hm.2.1 H.hm.2.2.1;rw[hw1] at c0 c1;go_enter Tryz.func192,Tryz.ntmps192;go_wp2_with fail;rw[←hw1] at c0 c1 ⊢;clear hw1;go_loop [8] (fun i=> ∃k:Nat,k≤n∧i=.int .i64 k∧Ng m (ns.take k)=true) (fun i=>n-(intOf i).toNat)
 case atStart=>exact⟨0,aQ _,rfl,rfl⟩
 case round=>
  obtain⟨k,hk,rfl,ha⟩:=hrel;have HA:Hid _:=ha;clear ha;by_cases hlt:k<n
  ·obtain⟨j,hj⟩:∃j,ns[k]?=some j:=⟨_,aH (by rw[←HN.out];exact hlt)⟩;obtain⟨e1,e2,hj13⟩:=HI.out.at hj;have HJ:Hid _:=hj;obtain⟨x,hx⟩:=eX (Ad m j);have HX:Hid _:=hx;rw[←hx] at e2;clear hj hx;by_cases h0:x<0
   ·have HF:Hid (E9 m ns c=false):=by
     show _=_;unfold E9;rw[Yk HJ.out (by rw[←HX.out];unfold inN;simp;omega)];rfl
    go_wp2_with fail;go_ret;rw[HF.out];exact⟨rfl,HB.out⟩
   ·by_cases h1:281474976710655<x
    ·have HF:Hid (E9 m ns c=false):=by
      show _=_;unfold E9;rw[Yk HJ.out (by rw[←HX.out];unfold inN;simp;omega)];rfl
     go_wp2_with fail;go_ret;rw[HF.out];exact⟨rfl,HB.out⟩
    ·have HA2:Hid (Ng m (ns.take (k+1))=true):=Ags HJ.out HA.out (by rw[←HX.out,QW];omega);go_wp2_with fail;exact⟨⟨k+1,by omega,by go_num,HA2.out⟩,by simp[intOf];omega⟩
  ·obtain rfl:k=n:=by omega
   have HA2:Hid (E9 m ns c=(!c || F7 m)):=by
    show _=_;have:=HA.out;rw[HN.out,aN] at this;unfold E9;rw[this];rfl
   cases c with
   | false=>
    have c1':w1.cell? ⟨w.heap.size,1,none⟩=some (.pointer none):=c1;clear c1;go_wp2_with go_skip;go_ret;rw[HA2.out];exact⟨rfl,HB.out⟩
   | true=>
    have c1':w1.cell? ⟨w.heap.size,1,none⟩=some (.pointer (some ⟨g,14,none⟩)):=c1;clear c1;have hgm:=HI.out.hg;have hmm:=HI.out.hm;go_wp2_with (first | go_skip|((with_reducible refine Aw 37 _ rfl ?_);refine AH Es rfl _ rfl g 14 rfl _ _ _ (cv m.cube.1 m.cube.2) (Bq _ _ hmm.2.1.1 hmm.2.2.1.1) hgm (Kq hmm) ?_));refine(CQ.out _).mono ?_;rintro e w2 ⟨rfl,hb2⟩;have HB2:Hid _:=HB.out.trans (hb2.mono HB.out.size);clear hb2;go_wp2_with fail;go_ret;rw[HA2.out];exact⟨rfl,HB2.out⟩
theorem Ih(w:World)(r:Option Nat):w.grownBy w r:=⟨rfl,rfl,rfl,aA _,fun _ _ _=>rfl⟩
theorem K8{u w:World}{g:Nat}(h:u.grownBy w (some g))(k:Nat)(v:Value):u.grownBy (w.setCell ⟨g,k,none⟩ v) (some g):=
 h.trans ⟨rfl,rfl,rfl,by simp,fun i _ hi=>heap_setCell_other w ⟨g,k,none⟩ i v (fun e=>hi (by rw[e]))⟩
theorem Hu{u w:World}{g:Nat}(h:u.grownBy w (some g))(cs:Array Value):u.grownBy (w.setRow g cs) (some g):=
 h.trans ⟨rfl,rfl,rfl,by simp,fun i _ hi=>setRow_other w g i cs (fun e=>hi (by rw[e]))⟩
theorem Gs{u w w':World}{r:Option Nat}(h:u.grownBy w r)(hb:Below w.heap.size w w'):u.grownBy w' r:=
 h.trans ⟨hb.os,hb.tape,hb.output,hb.size,fun i hi _=>hb.block i hi⟩
theorem Ma{B:Nat}{u w w':World}{g:Nat}(h:Below B u w)(hg:w.grownBy w' (some g))(hB:B≤g)(hs:B≤w.heap.size):Below B u w':=
 h.grown hg hs fun k hk=>by cases hk;exact hB
theorem Jv{ops:Array Oper}{rest:List Oper}{o:Oper}{a:Act}{w:World}{Q:Exit→Act→World→Prop}(hg:o.guard=none)(ho:o.op=.build 35 #[])
  (h:wpList aB ops Q rest (a.put o.dst (.agg (hv Z))) w):wpList aB ops Q (o::rest) a w:=
 wpList_plain hg fun _ hK=>by
  unfold Oper.wp execOp
  have e:((#[]:Array (Nat×Operand)).map (fun(i,x)=>(i,a.eval x)))=#[]:=by simp
  have hb:(Instr.build 35 #[]).run aB w=.ok (.agg (hv Z)) w:=by
   rw[←Ad0];kernel_rfl
  simp only[ho,Sem.run_bind];rw[e,hb];exact hK _ _ h
def Hx(m:An):List Nat→An
 | []=>m
 | j::ns=>Hx (AR m j 0) ns
theorem XV(m:An):∀(a b:List Nat),Hx m (a++b)=Hx (Hx m a) b
 | [],_=>rfl
 | j::a,b=>XV (AR m j 0) a b
theorem ZW:∀(ns:List Nat) {m:An},BB m→BB (Hx m ns)
 | [],_,h=>h
 | j::ns,_,h=>ZW ns (EU h j 0)
def G7(m:An)(ns:List Nat)(c d:Bool):An:=
 let m1:=Hx m ns
 let m2:=if c then EG m1 Z Z else m1
 if d then GA m2 Z else m2
theorem Aby(h g:Nat)(ns:List Nat)(c d:Bool)(m:An)(w:World)(H:G3 w h g ns m)(hl:ns.length≤7)(hne:h≠g):
  Calls aB 193 #[.agg (Df h g ns.length c d)] w fun e w'=>e=.returned (.tuple #[])∧w'.heap[g]?=some (.cells (Ae (G7 m ns c d)) 39 (0,0))∧w.grownBy w' (some g):=by
 obtain⟨n,hn⟩:=eX ns.length;have HN:Hid _:=hn;rw[←hn] at hl ⊢;clear hn;have HNS:Hid (∀j∈ns,j<13):=H.hn;have HM:Hid (BB m):=H.hm;have hgl:=(gS H.hg);have hhl:=(gS H.hh);obtain⟨w1,hw1⟩:=eX (w.alloc (.cells (Df h g n c d) 140));have HI:Hid (G3 w1 h g ns m):=by rw[hw1];exact H.alloc _
 have HF:Hid (w1.heap[w.heap.size]?=some (.cells (Df h g n c d) 140 (0,0))):=by rw[hw1];exact Ab _ _ _ rfl
 have HB:Hid (w.grownBy w1 (some g)):=by rw[hw1];exact Gs (Ih _ _) ((aC _ _).alloc (aA _) _)
 have c0:w1.cell? ⟨w.heap.size,0,none⟩=some (.slice (some ⟨h,0,none⟩) n n):=by rw[hw1,Kc];rfl
 rw[hw1] at c0;clear H;go_enter Tryz.func193,Tryz.ntmps193;go_wp2_with fail;rw[←hw1] at c0 ⊢;clear hw1 c0;go_loopw [7] (fun i W=> ∃k:Nat,k≤n∧i=.int .i64 k∧G3 W h g ns (Hx m (ns.take k))∧W.heap[w.heap.size]?=some (.cells (Df h g n c d) 140 (0,0))∧w.grownBy W (some g)) (fun i _=>n-(intOf i).toNat)
 case atStart=>exact⟨0,aQ _,rfl,HI.out,HF.out,HB.out⟩
 case round=>
  clear HI HF HB;obtain⟨k,hk,rfl,hI,hF,hB⟩:=hrel;have HI:Hid _:=hI;have HF:Hid _:=hF;have HB:Hid _:=hB;clear hI hF hB;by_cases hlt:k<n
  ·obtain⟨j,hj⟩:∃j,ns[k]?=some j:=⟨_,aH (by rw[←HN.out];exact hlt)⟩;obtain⟨e1,e2,hj13⟩:=HI.out.at hj;have HJ:Hid _:=hj;have f2:wr.frozen? ⟨g,j+1,none⟩=false:=frozen_of_row _ _ _ _ _ HI.out.hg;obtain⟨x,hx⟩:=eX (Ad (Hx m (ns.take k)) j);rw[←hx] at e2;clear hj hx
   have HT:Hid (Hx m (ns.take (k+1))=AR (Hx m (ns.take k)) j 0):=by
    show _=_;rw[aV,HJ.out,XV];rfl
   go_wp2_with fail;refine⟨⟨k+1,by omega,by go_num,⟨?_,?_,?_,HNS.out⟩,?_,K8 HB.out _ _⟩,by simp[intOf];omega⟩
   ·rw[HT.out, ←FK HI.out.hm j hj13 0];exact heap_setCell_same _ _ _ _ _ _ HI.out.hg
   ·exact(heap_setCell_other _ ⟨g,j+1,none⟩ h _ (by simpa using hne)).trans HI.out.hh
   ·rw[HT.out];exact EU HI.out.hm j 0
   ·exact(heap_setCell_other _ ⟨g,j+1,none⟩ w.heap.size _ (by simp;omega)).trans HF.out
  ·obtain rfl:k=n:=by omega
   have HI2:Hid (G3 wr h g ns (Hx m ns)):=by
    have:=HI.out;rw[HN.out,aN] at this;exact this
   clear HI;obtain⟨m1,hm1⟩:=eX (Hx m ns);have HC:Hid (G7 m ns c d=(let m2:=if c then EG m1 Z Z else m1;if d then GA m2 Z else m2)):=by show _=_;rw[hm1];rfl
   rw[←hm1] at HI2;clear hm1;have hgm:=HI2.out.hg;have hmm:=HI2.out.hm;have hms:=BG hmm;have c1:wr.cell? ⟨w.heap.size,1,none⟩=some (PZ g c):=cell_of_row _ _ _ _ _ _ HF.out;have c2:wr.cell? ⟨w.heap.size,2,none⟩=some (PY g d):=cell_of_row _ _ _ _ _ _ HF.out
   cases c with
   | false=>
    have c1':wr.cell? ⟨w.heap.size,1,none⟩=some (.pointer none):=c1;clear c1
    cases d with
    | false=>
     have c2':wr.cell? ⟨w.heap.size,2,none⟩=some (.pointer none):=c2;clear c2;go_wp2_with fail;go_end0;rw[HC.out];exact⟨rfl,hgm,HB.out⟩
    | true=>
     have c2':wr.cell? ⟨w.heap.size,2,none⟩=some (.pointer (some ⟨g,40,none⟩)):=c2;clear c2
     go_wp2_with (first
      | ((with_reducible refine Cy 35 _ rfl ?_);refine Jv rfl rfl ?_)
      | ((with_reducible refine Bu 35 _ _ rfl ?_);refine Jw JT rfl _ _ rfl g 40 rfl (hv Z) ⟨by rw[EW,BO.1];rfl,Ql _⟩ rfl _ _ hgm (by rw[hms];decide) _ (Ue hmm Z) ?_))
     try simp only[aW]
     go_wp2_with fail;go_end0;rw[HC.out];exact⟨rfl,setRow_heap _ _ _ _ _ _ hgm,Hu HB.out _⟩
   | true=>
    have c1':wr.cell? ⟨w.heap.size,1,none⟩=some (.pointer (some ⟨g,14,none⟩)):=c1;clear c1 c2;have hg2:=setRow_heap _ _ _ (Ae (EG m1 Z Z)) _ _ hgm;have hm2:BB (EG m1 Z Z):=LO hmm BO BO;have hms2:=BG hm2;have HB2:Hid (w.grownBy (wr.setRow g (Ae (EG m1 Z Z))) (some g)):=Hu HB.out _
    cases d with
    | false=>
     have d2:(wr.setRow g (Ae (EG m1 Z Z))).cell? ⟨w.heap.size,2,none⟩=some (.pointer none):=by
      rw[cell_of_row _ _ _ _ _ _ ((setRow_other wr g w.heap.size _ (by omega)).trans HF.out)];rfl
     go_wp2_with (first
      | ((with_reducible refine Cy 37 _ rfl ?_);refine Hr rfl rfl ?_)
      | ((with_reducible refine Bu 37 _ _ rfl ?_);refine Jw Es rfl _ _ rfl g 14 rfl (cv Z Z) ⟨Bq _ _ BO.1 BO.1,Ii _ _⟩ rfl _ _ hgm (by rw[hms];decide) _ (QN hmm Z Z) ?_))
     try simp only[aW]
     go_wp2_with fail;go_end0;rw[HC.out];exact⟨rfl,hg2,HB2.out⟩
    | true=>
     have d2:(wr.setRow g (Ae (EG m1 Z Z))).cell? ⟨w.heap.size,2,none⟩=some (.pointer (some ⟨g,40,none⟩)):=by
      rw[cell_of_row _ _ _ _ _ _ ((setRow_other wr g w.heap.size _ (by omega)).trans HF.out)];rfl
     go_wp2_with (first
      | ((with_reducible refine Cy 35 _ rfl ?_);refine Jv rfl rfl ?_)
      | ((with_reducible refine Bu 35 _ _ rfl ?_);refine Jw JT rfl _ _ rfl g 40 rfl (hv Z) ⟨by rw[EW,BO.1];rfl,Ql _⟩ rfl _ _ hg2 (by rw[hms2];decide) _ (Ue hm2 Z) ?_)
      | ((with_reducible refine Cy 37 _ rfl ?_);refine Hr rfl rfl ?_)
      | ((with_reducible refine Bu 37 _ _ rfl ?_);refine Jw Es rfl _ _ rfl g 14 rfl (cv Z Z) ⟨Bq _ _ BO.1 BO.1,Ii _ _⟩ rfl _ _ hgm (by rw[hms];decide) _ (QN hmm Z Z) ?_))
     try simp only[aW]
     go_wp2_with fail;go_end0;rw[HC.out];exact⟨rfl,setRow_heap _ _ _ _ _ _ hg2,Hu HB2.out _⟩
theorem Afz(h g n:Nat)(c d:Bool)(w:World)(hl:n≤7):
  Calls aB 126 #[.agg (Df h g n c d)] w fun e w'=>e=.returned (.int .i64 ((n*6+(if c then 26 else 0)+(if d then 13 else 0):Nat):Int))∧Below w.heap.size w w':=by
 obtain⟨w1,hw1⟩:=eX (w.alloc (.cells (Df h g n c d) 140));have HB:Hid (Below w.heap.size w w1):=by rw[hw1];exact(aC _ _).alloc (aA _) _
 have c0:w1.cell? ⟨w.heap.size,0,none⟩=some (.slice (some ⟨h,0,none⟩) n n):=by rw[hw1,Kc];rfl
 have c1:w1.cell? ⟨w.heap.size,1,none⟩=some (PZ g c):=by rw[hw1,Kc];rfl
 have c2:w1.cell? ⟨w.heap.size,2,none⟩=some (PY g d):=by rw[hw1,Kc];rfl
 rw[hw1] at c0 c1 c2 HB;clear hw1
 cases c
 all_goals cases d
 all_goals (
  simp only[PZ,PY,if_true,if_false,Bool.false_eq_true] at c1 c2;go_enter Tryz.func126,Tryz.ntmps126;go_wp2_with fail;go_ret;refine⟨?_,HB.out⟩;apply Am9;simp)
end
section
open Go.RowKit
theorem Ad1(v:Value)(L:List UInt8)(w:World)(hL:Br w v L)(hl:L.length≤140737488355328):
  Calls aB 79 #[v] w fun e w'=> ∃u,e=.returned (.tuple #[.int .i64 (DE L).1,u,.int .i64 (DE L).2.2])∧AB w.heap.size w' u (DE L).2.1∧Below w.heap.size w w':=by
 have HL:Hid (Br w v L):=hL;obtain⟨ov,cv,hv,hc1,hc2⟩:=hL.slice;subst hv;clear hL;obtain⟨n,hn⟩:=eX L.length;have HN:Hid (n=L.length):=hn;rw[←hn] at HL hc1 hl ⊢;clear hn;have hcm:=hc2;unfold maxLen at hc2;by_cases h3:3≤n
 ·obtain⟨g,off,_,rfl,_,_⟩:=HL.out.at 2 (by omega)
  have HA:Hid (Br w (.slice (some ⟨g,off,none⟩) 2 cv) (L.take 2)):=by
   have:=HL.out.part g off 0 2 cv rfl (by omega) (by omega) hcm;rw[Nat.add_zero,List.drop_zero] at this;exact this
  have HK:Hid (Br w (.slice (some ⟨g,off+2,none⟩) 1 (cv-2)) ((L.drop 2).take 1)):=HL.out.part g off 2 1 (cv-2) rfl (by omega) (by omega) (by omega)
  have CA:Hid (∀W,W=w→Calls aB 124 #[.slice (some ⟨g,off,none⟩) 2 cv] W fun e w'=>e=.returned (.int .u64 (Dv (L.take 2):Int))∧w'=W):=fun W hW=>by
   subst hW;exact OT _ _ W HA.out (by simp;omega)
  have CK:Hid (∀W,W=w→Calls aB 124 #[.slice (some ⟨g,off+2,none⟩) 1 (cv-2)] W fun e w'=>e=.returned (.int .u64 (Dv ((L.drop 2).take 1):Int))∧w'=W):=fun W hW=>by
   subst hW;exact OT _ _ W HK.out (by simp;omega)
  have HO:=Aav L (by rw[←HN.out];exact h3)
  have hk1:Dv ((L.drop 2).take 1)<256:=by
   have:=My ((L.drop 2).take 1);have e:((L.drop 2).take 1).length=1:=by simp;rw[←HN.out];omega
   rwa [e] at this
  have ha1:Dv (L.take 2)<65536:=by
   have:=My (L.take 2);have e:(L.take 2).length=2:=by simp;rw[←HN.out];omega
   rwa [e] at this
  rw[←HN.out] at HO;obtain⟨a,ha⟩:=eX (Dv (L.take 2));obtain⟨k,hk⟩:=eX (Dv ((L.drop 2).take 1));rw[←ha] at CA HO ha1;rw[←hk] at CK HO hk1;clear ha hk HA HK;by_cases hc3:cv=3
  ·subst hc3;obtain rfl:n=3:=by omega
   have HBd:Hid (Br w (.slice (some ⟨g,off,none⟩) 0 0) (L.drop 3)):=by show Br _ _ _;rw[List.drop_eq_nil_of_le (by rw[←HN.out];exact aA _)];exact X5 _ _ _ (aQ _)
   have HJ:Hid (∀(g2:Nat) (W:World),W.heap[g2]?=some (.cells #[.slice (some ⟨g,off,none⟩) 0 0] 70 (0,0))→Br W (.slice (some ⟨g,off,none⟩) 0 0) (L.drop 3)→Calls aB 125 #[.slice (some ⟨g2,0,none⟩) 1 1] W fun e w'=> ∃v,e=.returned v∧AB W.heap.size w' v (L.drop 3)∧Below W.heap.size W w'):=fun g2 W g3 g4=>by
    refine(MY g2 [.slice (some ⟨g,off,none⟩) 0 0] [L.drop 3] W g3 (by simp) ⟨g4,trivial⟩ ?_).mono ?_
    ·simp;rw[←HN.out];omega
    ·rintro e w' ⟨u,rfl,h4,h5⟩;exact⟨u,rfl,by simpa using h4,h5⟩
   by_cases hq:a=0
   ·have HP:Hid (DE L=((k:Int),L.drop 3,0)):=by show _=_;unfold DE;rw[HO,if_pos hq]
    have hqi:((a:Int)==0)=true:=by simp;exact hq
    clear hq HO;go_enter aR,aP;go_wp2_with fail;refine(CA.out _ rfl).mono ?_;rintro e w1 ⟨rfl,rfl⟩;go_wp2_with fail;refine(CK.out _ rfl).mono ?_;rintro e w2 ⟨rfl,rfl⟩;go_wp2_with (refine MP rfl 1 _ rfl #[.slice (some ⟨g,off,none⟩) 0 0] (by decide) (by decide) rfl ?_);refine(HJ.out _ _ (Ab _ _ _ rfl) (HBd.out.alloc _)).mono ?_;rintro e w3 ⟨y,rfl,ho,hb⟩;have HOw:Hid (AB w2.heap.size w3 y (L.drop 3)):=ho.base (by simp);have HB3:Hid (Below w2.heap.size w2 w3):=((aC _ _).alloc (aA _) _).trans (hb.mono (by simp));clear ho hb;go_wp2_with fail;go_ret3;rw[HP.out];exact⟨y,rfl,HOw.out,HB3.out⟩
   ·have HP:Hid (DE L=(0,[],12)):=by show _=_;unfold DE;rw[HO,if_neg hq]
    have hqi:((a:Int)==0)=false:=by simp;exact hq
    clear hq HO;go_enter aR,aP;go_wp2_with fail;refine(CA.out _ rfl).mono ?_;rintro e w1 ⟨rfl,rfl⟩;go_wp2_with fail;go_ret3;rw[HP.out];exact⟨_,rfl,AB.nil _ _,aC _ _⟩
  ·have hc4:3<cv:=by omega
   have HBd:Hid (Br w (.slice (some ⟨g,off+3,none⟩) (n-3) (cv-3)) (L.drop 3)):=by
    have:=HL.out.part g off 3 (n-3) (cv-3) rfl (by omega) (by omega) (by omega);rw[List.take_of_length_le (by simp;rw[←HN.out];omega)] at this;exact this
   have HJ:Hid (∀(g2:Nat) (W:World),W.heap[g2]?=some (.cells #[.slice (some ⟨g,off+3,none⟩) (n-3) (cv-3)] 70 (0,0))→Br W (.slice (some ⟨g,off+3,none⟩) (n-3) (cv-3)) (L.drop 3)→Calls aB 125 #[.slice (some ⟨g2,0,none⟩) 1 1] W fun e w'=> ∃v,e=.returned v∧AB W.heap.size w' v (L.drop 3)∧Below W.heap.size W w'):=fun g2 W g3 g4=>by
    refine(MY g2 [.slice (some ⟨g,off+3,none⟩) (n-3) (cv-3)] [L.drop 3] W g3 (by simp) ⟨g4,trivial⟩ ?_).mono ?_
    ·simp;rw[←HN.out];omega
    ·rintro e w' ⟨u,rfl,h4,h5⟩;exact⟨u,rfl,by simpa using h4,h5⟩
   by_cases hq:a=n-3
   ·have HP:Hid (DE L=((k:Int),L.drop 3,0)):=by show _=_;unfold DE;rw[HO,if_pos hq]
    have hqi:((a:Int)==((n-3:Nat):Int))=true:=by simp;omega
    clear hq HO;go_enter aR,aP;go_wp2_with fail;refine(CA.out _ rfl).mono ?_;rintro e w1 ⟨rfl,rfl⟩;go_wp2_with fail;refine(CK.out _ rfl).mono ?_;rintro e w2 ⟨rfl,rfl⟩;go_wp2_with (refine MP rfl 1 _ rfl #[.slice (some ⟨g,off+3,none⟩) (n-3) (cv-3)] (by decide) (by decide) rfl ?_);refine(HJ.out _ _ (Ab _ _ _ rfl) (HBd.out.alloc _)).mono ?_;rintro e w3 ⟨y,rfl,ho,hb⟩;have HOw:Hid (AB w2.heap.size w3 y (L.drop 3)):=ho.base (by simp);have HB3:Hid (Below w2.heap.size w2 w3):=((aC _ _).alloc (aA _) _).trans (hb.mono (by simp));clear ho hb;go_wp2_with fail;go_ret3;rw[HP.out];exact⟨y,rfl,HOw.out,HB3.out⟩
   ·have HP:Hid (DE L=(0,[],12)):=by show _=_;unfold DE;rw[HO,if_neg hq]
    have hqi:((a:Int)==((n-3:Nat):Int))=false:=by simp;omega
    clear hq HO;go_enter aR,aP;go_wp2_with fail;refine(CA.out _ rfl).mono ?_;rintro e w1 ⟨rfl,rfl⟩;go_wp2_with fail;go_ret3;rw[HP.out];exact⟨_,rfl,AB.nil _ _,aC _ _⟩
 ·have HP:Hid (DE L=(0,[],12)):=by show _=_;unfold DE;rw[Rd L (by rw[←HN.out];exact h3)]
  have hn:(n:Int)<3:=by omega
  go_enter aR,aP;go_wp2_with fail;go_ret3;rw[HP.out];exact⟨_,rfl,AB.nil _ _,aC _ _⟩
theorem Zv(w:World)(L:List UInt8)(hl:L.length≤1000):AB w.heap.size (w.alloc (.cells (Lib.byteCells L).toArray 5)) (.slice (some ⟨w.heap.size,0,none⟩) L.length L.length) L:=by
 have:=World.ownsRow_lit (base:=w.heap.size) (e:=5) (size:=1) w (Lib.byteCells L).toArray L.length (aA _) (by unfold maxLen;omega) (by simp[Lib.byteCells]);simpa[AB] using this
theorem Fw{w:World}{v:Value}{L:List UInt8}(h:Br w v L):∃o n c,v=.slice o n c:=by obtain⟨o,c,h,_⟩:=h.slice;exact⟨o,_,c,h⟩
theorem Mz(w:World)(c:UInt8):AB w.heap.size (w.alloc (.cells #[.int .u8 (c.toNat:Int)] 5)) (.slice (some ⟨w.heap.size,0,none⟩) 1 1) [c]:=Zv w [c] (by simp)
theorem OS(w:World):AB w.heap.size (w.alloc (.cells #[] 5)) (.slice (some ⟨w.heap.size,0,none⟩) 0 0) []:=Zv w [] (by simp)
theorem Mm(v:Value)(L:List UInt8)(w:World)(hL:Br w v L)(hl:L.length≤140737488355328):
  Calls aB 105 #[v] w fun e w'=> ∃u,e=.returned u∧AB w.heap.size w' u L∧Below w.heap.size w w':=by
 have HL:Hid (Br w v L):=hL;obtain⟨ov,nv,cv,rfl⟩:∃o n c,v=.slice o n c:=by obtain⟨o,c,h,_⟩:=hL.slice;exact⟨o,_,c,h⟩
 clear hL;go_enter Tryz.func105,Tryz.ntmps105;go_wp2_with (at_builtin;refine Dk ?_);unfold E6;refine H9 rfl _ _ rfl w.heap.size _ (.slice ov nv cv) [] L rfl (OS w) rfl (HL.out.alloc _) (by simpa using hl) (by simp) ?_;intro v' w' ho hgr _;have HO:Hid (AB w.heap.size w' v' L):=ho;have HB:Hid (Below w.heap.size w w'):=((aC w.heap.size w).alloc (aA _) _).grown hgr (by simp) fun q hq=>((OS w).ge q hq).1;simp only[pU];clear ho hgr;go_wp2_with fail;go_ret;exact⟨_,rfl,HO.out,HB.out⟩
theorem WB(v:Value)(L:List UInt8)(n:Nat)(s:Int)(w:World)(hL:Br w v L)(hl:L.length≤140737488351232)(hn:n<18446744073709551616):
  Calls aB 121 #[v,.int .u64 (n:Int),.int .i64 s] w fun e w'=> ∃u,e=.returned (.tuple #[u,.int .i64 (Ie L n s).2])∧AB w.heap.size w' u (Ie L n s).1∧Below w.heap.size w w':=by
 have HL:Hid (Br w v L):=hL;obtain⟨ov,nv,cv,rfl⟩:∃o n c,v=.slice o n c:=by obtain⟨o,c,h,_⟩:=hL.slice;exact⟨o,_,c,h⟩
 clear hL;by_cases hc:IF s=true
 ·have hs:=(Lw s).1 hc;obtain⟨m,rfl⟩:∃m:Nat,s=m:=⟨s.toNat,by omega⟩;have hs1:1≤(m:Int):=hs.1;have hs2:(m:Int)≤8:=hs.2;have HP:Hid (Ie L n m=if n<256 ^ m then (L++Dd m n,0) else ([],10)):=by show _=_;unfold Ie;rw[if_pos hc];simp
  clear hc hs;go_enter Tryz.func121,Tryz.ntmps121;go_wp2_with fail;go_loopw [1,8,9] (fun a x i W=> ∃k:Nat,k≤m∧i=.int .i64 k∧a=.int .u64 ((n/256 ^ k:Nat):Int)∧AB w.heap.size W x (Dd k n)∧Below w.heap.size w W) (fun _ _ i _=>m-(intOf i).toNat)
  case atStart=>exact⟨0,aQ _,rfl,by simp,OS w,(aC _ _).alloc (aA _) _⟩
  case round=>
   obtain⟨k,hk,rfl,rfl,ho,hb⟩:=hrel;obtain⟨ox,nx,cx,rfl⟩:=Fw ho.sl;have HO:Hid (AB w.heap.size wr (.slice ox nx cx) (Dd k n)):=ho;have HB:Hid (Below w.heap.size w wr):=hb;have hsz:=hb.size;obtain⟨q,hq⟩:∃q,q=n/256 ^ k:=⟨_,rfl⟩;have HQ:Hid (q=n/256 ^ k):=hq;have hqn:q<18446744073709551616:=by rw[hq];exact Nat.lt_of_le_of_lt (Nat.div_le_self _ _) hn
   rw[←hq];clear ho hb hq;by_cases hlt:k<m
   ·have HC:Hid ((q:Int)%256=((UInt8.ofNat (n/256 ^ k%256)).toNat:Int)):=by
     show _=_;rw[UInt8.toNat_ofNat',Nat.mod_mod,HQ.out];simp
    have HN2:Hid (n/256 ^ (k+1)=q/256):=by
     show _=_;rw[HQ.out,Nat.div_div_eq_div_mul,Nat.pow_succ]
    go_wp2_with (at_builtin;refine Dk ?_);unfold E6
    first | rw[HC.out]|(rw[Int.emod_emod_of_dvd _ (by decide),HC.out])
    refine H9 rfl _ _ rfl wr.heap.size _ (.slice ox nx cx) [_] (Dd k n) rfl (Mz wr _) rfl (HO.out.sl.alloc _) (by rw[GQ];simp;omega) (by simp) ?_;intro v' w' ho hgr _
    have HO2:Hid (AB w.heap.size w' v' (Dd (k+1) n)):=by
     rw[Qv];exact ho.base hsz
    have HB2:Hid (Below w.heap.size w w'):=HB.out.trans ((((aC wr.heap.size wr).alloc (aA _) _).grown hgr (by simp) fun q hq=>((Mz wr (UInt8.ofNat (n/256 ^ k%256))).ge q hq).1).mono hsz);simp only[aW,aD,aL,aM];clear ho hgr;go_wp2_with fail;go_roundw
    case rel=>exact⟨k+1,by omega,by go_num,by rw[HN2.out];first | rfl | simp,HO2.out,HB2.out⟩
    case measure=>simp[intOf];omega
   ·obtain rfl:k=m:=by omega
    by_cases hr:n<256 ^ k
    ·rw[if_pos hr] at HP;have h0:¬0<q:=by rw[HQ.out,Nat.div_eq_of_lt hr];decide
     have CB:Hid (∀W,Below w.heap.size w W→Calls aB 105 #[.slice ov nv cv] W fun e w'=> ∃u,e=.returned u∧AB W.heap.size w' u L∧Below W.heap.size W w'):=fun W hW=>Mm _ L W (HL.out.below hW) (by omega);clear hr;go_wp2_with fail;refine(CB.out _ HB.out).mono ?_;rintro e w1 ⟨u,rfl,ho1,hb1⟩;obtain⟨ou,nu,cu,rfl⟩:=Fw ho1.sl;have HO1:Hid (AB w.heap.size w1 (.slice ou nu cu) L):=ho1.base hsz;have HX1:Hid (Br w1 (.slice ox nx cx) (Dd k n)):=HO.out.sl.below hb1;have HB1:Hid (Below w.heap.size w w1):=HB.out.trans (hb1.mono hsz);clear ho1 hb1;go_wp2_with (at_builtin;refine Dk ?_);unfold E6;refine H9 rfl _ _ rfl w.heap.size (.slice ou nu cu) (.slice ox nx cx) L (Dd k n) rfl HO1.out rfl HX1.out (by rw[GQ];omega) HB1.out.size ?_;intro v' w' ho hgr _;have HO2:Hid (AB w.heap.size w' v' (L++Dd k n)):=ho;have HB2:Hid (Below w.heap.size w w'):=HB1.out.grown hgr HB1.out.size fun q hq=>(HO1.out.ge q hq).1;simp only[aW,aD,aL,aM];clear ho hgr;go_wp2_with fail;go_ret2;rw[HP.out];exact⟨_,rfl,HO2.out,HB2.out⟩
    ·rw[if_neg hr] at HP;have h0:0<q:=by rw[HQ.out];exact Nat.div_pos (by omega) (Nat.pow_pos (by decide))
     clear hr;go_wp2_with fail;go_ret2;rw[HP.out];exact⟨_,rfl,AB.nil _ _,HB.out⟩
 ·have HP:Hid (Ie L n s=([],1)):=by show _=_;unfold Ie;rw[if_neg hc]
  have hc':s<1∨8<s:=by have:=mt (Lw s).2 hc;omega
  clear hc;rcases hc' with hc' | hc'
  all_goals
   go_enter Tryz.func121,Tryz.ntmps121;go_wp2_with fail;go_ret2;rw[HP.out];exact⟨_,rfl,AB.nil _ _,aC _ _⟩
end
section
open Go.Lib Go.RowKit
def LY(m:An)(ns:List Nat)(c d:Bool):List UInt8:=ns.flatMap (Bt m)++((if c then FW m.cube.1 m.cube.2 else [])++(if d then Dr m.head else []))
theorem Ag2{m:An}{ns:List Nat}{k j:Nat}(hj:ns[k]?=some j)(hl:j<13):(ns.take (k+1)).flatMap (Bt m)=(ns.take k).flatMap (Bt m)++Dd 6 (Ad m j).toNat:=by
 rw[aV,hj,List.flatMap_append];congr 1;show Bt m j++[]=_;rw[List.append_nil];unfold Bt;rw[if_neg (by omega),if_neg (by omega)]
theorem XG{m:An}:∀ {ns:List Nat},(∀j∈ns,j<13)→(ns.flatMap (Bt m)).length=ns.length*6
 | [],_=>rfl
 | j::ns,h=>by
  have h1:=h j List.mem_cons_self
  rw[List.flatMap_cons,aT,XG (fun x hx=>h x (List.mem_cons_of_mem _ hx)),List.length_cons]
  have:(Bt m j).length=6:=by
   unfold Bt;rw[if_neg (by omega),if_neg (by omega),GQ]
  omega
theorem Yb{w:World}{g:Nat}{m:An}(hm:BB m)(h:w.heap[g]?=some (.cells (Ae m) 39 (0,0))):Br w (.slice (some ⟨g,40,none⟩) 13 13) (Dr m.head):=by
 have hH:=hm.2.2.2;have hl:(Dr m.head).length=13:=by rw[D5,hH.1]
 refine⟨_,13,by rw[hl],by rw[hl];exact aA _,by unfold maxLen;omega,(fun e=>by cases e),fun i hi=>⟨g,40,_,_,_,rfl,h,?_⟩⟩;rw[hl] at hi;rw[Lr hm i hi,K5 _ hH.1 i hi, ←(Na hH i hi).2,List.getD_eq_getElem?_getD,aH (by omega)];rfl
theorem Abz(h g:Nat)(ns:List Nat)(c d:Bool)(m:An)(w:World)(H:G3 w h g ns m)(hl:ns.length≤7)(hR:E9 m ns c=true):
  Calls aB 173 #[.agg (Df h g ns.length c d)] w fun e w'=> ∃u,e=.returned u∧AB w.heap.size w' u (LY m ns c d)∧Below w.heap.size w w':=by
 obtain⟨n,hn⟩:∃n,n=ns.length:=⟨_,rfl⟩;have HN:Hid (n=ns.length):=hn;rw[←hn] at hl ⊢;clear hn;have HNS:Hid (∀j∈ns,j<13):=H.hn
 have HR:Hid (∀j∈ns,inN (Ad m j)=true):=by
  unfold E9 at hR;rw[Bool.and_eq_true] at hR;exact aY.1 hR.1
 have HRC:Hid (c=true→AZ m.cube.1 m.cube.2=m.cube.1):=fun hc=>by
  unfold E9 at hR;rw[Bool.and_eq_true,hc] at hR;have h2:=hR.2;simp only[Bool.not_true,Bool.false_or] at h2;unfold F7 at h2;exact(beq_iff_eq.1 h2).symm
 clear hR;have hgl:=(aJ.1 H.hg).1;have hhl:=(aJ.1 H.hh).1;obtain⟨w1,hw1⟩:∃w1,w1=w.alloc (.cells (Df h g n c d) 140):=⟨_,rfl⟩;have HI:Hid (G3 w1 h g ns m):=by rw[hw1];exact H.alloc _
 have HF:Hid (w1.heap[w.heap.size]?=some (.cells (Df h g n c d) 140 (0,0))):=by rw[hw1];exact Ab _ _ _ rfl
 have HB:Hid (Below w.heap.size w w1):=by rw[hw1];exact(aC _ _).alloc (aA _) _
 have c0:w1.cell? ⟨w.heap.size,0,none⟩=some (.slice (some ⟨h,0,none⟩) n n):=by rw[hw1,Kc];rfl
 rw[hw1] at c0;clear H;go_enter Tryz.func173,Tryz.ntmps173;go_wp2_with fail;rw[←hw1] at c0 ⊢;clear hw1 c0;go_loopw [3,9] (fun b i W=> ∃k:Nat,k≤n∧i=.int .i64 k∧AB w.heap.size W b ((ns.take k).flatMap (Bt m))∧G3 W h g ns m∧W.heap[w.heap.size]?=some (.cells (Df h g n c d) 140 (0,0))∧Below w.heap.size w W) (fun _ i _=>n-(intOf i).toNat)
 case atStart=>exact⟨0,aQ _,rfl,AB.nil _ _,HI.out,HF.out,HB.out⟩
 case round=>
  clear HI HF HB;obtain⟨k,hk,rfl,hO,hI,hF,hB⟩:=hrel;obtain⟨ob,nb,cb,rfl⟩:=Fw hO.sl;have HO:Hid (AB w.heap.size wr (.slice ob nb cb) ((ns.take k).flatMap (Bt m))):=hO;have HI:Hid (G3 wr h g ns m):=hI;have HF:Hid (wr.heap[w.heap.size]?=some (.cells (Df h g n c d) 140 (0,0))):=hF;have HB:Hid (Below w.heap.size w wr):=hB;have hsz:=(aJ.1 hF).1;clear hO hI hF hB
  have HLN:Hid (((ns.take k).flatMap (Bt m)).length≤42):=by
   show _≤_;rw[XG (fun x hx=>HNS.out x (List.mem_of_mem_take hx)),List.length_take];omega
  by_cases hlt:k<n
  ·obtain⟨j,hj⟩:∃j,ns[k]?=some j:=⟨_,aH (by rw[←HN.out];exact hlt)⟩;obtain⟨e1,e2,hj13⟩:=HI.out.at hj;have HT:Hid ((ns.take (k+1)).flatMap (Bt m)=(ns.take k).flatMap (Bt m)++Dd 6 (Ad m j).toNat):=Ag2 hj hj13;have hx:=(QW _).1 (HR.out j (aO hj));obtain⟨p,hp⟩:∃p:Nat,Ad m j=p:=⟨(Ad m j).toNat,by omega⟩;rw[hp] at e2 hx HT;have hp2:p≤281474976710655:=by omega
   have CP:Hid (∀W,Below wr.heap.size wr W→Calls aB 195 #[.slice ob nb cb,.int .u64 (p:Int),.int .i64 6] W fun e w'=> ∃u,e=.returned (.tuple #[u,.int .i64 0])∧AB W.heap.size w' u ((ns.take k).flatMap (Bt m)++Dd 6 p)∧Below W.heap.size W w'):=fun W hW=>by
    have hq:Ie ((ns.take k).flatMap (Bt m)) p 6=((ns.take k).flatMap (Bt m)++Dd 6 p,0):=by
     unfold Ie;rw[if_pos (by decide),if_pos (by show p<256 ^ 6;omega)];rfl
    have:=Amb (.slice ob nb cb) _ p 6 W (HO.out.sl.below hW) (by have:=HLN.out;omega);rw[hq] at this;exact this
   clear hj hp hx;go_wp2_with fail;refine(CP.out _ (aC _ _)).mono ?_;rintro e w2 ⟨u,rfl,hO,hb⟩
   have HO2:Hid (AB w.heap.size w2 u ((ns.take (k+1)).flatMap (Bt m))):=by
    show AB _ _ _ _;rw[HT.out];exact hO.base HB.out.size
   have HI2:Hid (G3 w2 h g ns m):=HI.out.below hb;have HF2:Hid (w2.heap[w.heap.size]?=some (.cells (Df h g n c d) 140 (0,0))):=(hb.block _ hsz).trans HF.out;have HB2:Hid (Below w.heap.size w w2):=HB.out.trans (hb.mono HB.out.size);clear hO hb;go_wp2_with fail;exact⟨⟨k+1,by omega,by go_num,HO2.out,HI2.out,HF2.out,HB2.out⟩,by simp[intOf];omega⟩
  ·obtain rfl:k=n:=by omega
   have HO2:Hid (AB w.heap.size wr (.slice ob nb cb) (ns.flatMap (Bt m))):=by
    have:=HO.out;rw[HN.out,aN] at this;exact this
   have HLN2:Hid ((ns.flatMap (Bt m)).length≤42):=by
    have:=HLN.out;rw[HN.out,aN] at this;exact this
   clear HO HLN;have hgm:=HI.out.hg;have hmm:=HI.out.hm;have c1:wr.cell? ⟨w.heap.size,1,none⟩=some (PZ g c):=cell_of_row _ _ _ _ _ _ HF.out;have c2:wr.cell? ⟨w.heap.size,2,none⟩=some (PY g d):=cell_of_row _ _ _ _ _ _ HF.out
   cases c with
   | false=>
    have c1':wr.cell? ⟨w.heap.size,1,none⟩=some (.pointer none):=c1;clear c1
    cases d with
    | false=>
     have c2':wr.cell? ⟨w.heap.size,2,none⟩=some (.pointer none):=c2;clear c2;go_wp2_with fail;go_ret;refine⟨_,rfl,?_,HB.out⟩;have:=HO2.out;unfold LY;simpa using this
    | true=>
     have c2':wr.cell? ⟨w.heap.size,2,none⟩=some (.pointer (some ⟨g,40,none⟩)):=c2;clear c2;go_wp2_with (at_builtin;refine Dk ?_);unfold E6;refine H9 rfl _ _ rfl w.heap.size (.slice ob nb cb) _ _ (Dr m.head) rfl HO2.out rfl (Yb hmm hgm) (by have:=HLN2.out;rw[D5,hmm.2.2.2.1];omega) HB.out.size ?_;intro v' w' ho hgr _;have HO3:Hid (AB w.heap.size w' v' (ns.flatMap (Bt m)++Dr m.head)):=ho;have HB3:Hid (Below w.heap.size w w'):=HB.out.grown hgr HB.out.size fun q hq=>(HO2.out.ge q hq).1;clear ho hgr
     try simp only[aW,aD,aL,aM]
     go_wp2_with fail;go_ret;refine⟨_,rfl,?_,HB3.out⟩;have:=HO3.out;unfold LY;simpa using this
   | true=>
    have c1':wr.cell? ⟨w.heap.size,1,none⟩=some (.pointer (some ⟨g,14,none⟩)):=c1;clear c1 c2
    have CC:Hid (∀W,Below wr.heap.size wr W→Calls aB 196 #[.slice ob nb cb,.agg (cv m.cube.1 m.cube.2)] W fun e w'=> ∃u,e=.returned u∧AB W.heap.size w' u (ns.flatMap (Bt m)++FW m.cube.1 m.cube.2)∧Below W.heap.size W w'):=fun W hW=>by
     have:=YF (.slice ob nb cb) _ m.cube.1 m.cube.2 hmm.2.1 hmm.2.2.1 W (HO2.out.sl.below hW) (by have:=HLN2.out;omega);rw[HRC.out rfl] at this;exact this
    go_wp2_with (first|((with_reducible refine Aw 37 _ rfl ?_);refine AH Es rfl _ rfl g 14 rfl _ _ _ (cv m.cube.1 m.cube.2) (Bq _ _ hmm.2.1.1 hmm.2.2.1.1) hgm (Kq hmm) ?_));refine(CC.out _ (aC _ _)).mono ?_;rintro e w2 ⟨u,rfl,hO,hb⟩;obtain⟨o3,n3,c3,rfl⟩:=Fw hO.sl;have HO3:Hid (AB w.heap.size w2 (.slice o3 n3 c3) (ns.flatMap (Bt m)++FW m.cube.1 m.cube.2)):=hO.base HB.out.size
    have HL3:Hid ((ns.flatMap (Bt m)++FW m.cube.1 m.cube.2).length≤68):=by
     show _≤_;have:=HLN2.out;unfold FW;rw[aT,aT,D5,D5,hmm.2.1.1,hmm.2.2.1.1];omega
    have hI2:G3 w2 h g ns m:=HI.out.below hb;have c2:w2.cell? ⟨w.heap.size,2,none⟩=some (PY g d):=cell_of_row _ _ _ _ _ _ ((hb.block _ hsz).trans HF.out);have HB2:Hid (Below w.heap.size w w2):=HB.out.trans (hb.mono HB.out.size);have hg2:=hI2.hg;clear hO hb hI2 c1' hgm
    cases d with
    | false=>
     have c2':w2.cell? ⟨w.heap.size,2,none⟩=some (.pointer none):=c2;clear c2;go_wp2_with fail;go_ret;refine⟨_,rfl,?_,HB2.out⟩;have:=HO3.out;unfold LY;simpa using this
    | true=>
     have c2':w2.cell? ⟨w.heap.size,2,none⟩=some (.pointer (some ⟨g,40,none⟩)):=c2;clear c2;go_wp2_with (at_builtin;refine Dk ?_);unfold E6;refine H9 rfl _ _ rfl w.heap.size (.slice o3 n3 c3) _ _ (Dr m.head) rfl HO3.out rfl (Yb hmm hg2) (by have:=HL3.out;rw[D5,hmm.2.2.2.1];omega) HB2.out.size ?_;intro v' w' ho hgr _;have HO4:Hid (AB w.heap.size w' v' ((ns.flatMap (Bt m)++FW m.cube.1 m.cube.2)++Dr m.head)):=ho;have HB3:Hid (Below w.heap.size w w'):=HB2.out.grown hgr HB2.out.size fun q hq=>(HO3.out.ge q hq).1;clear ho hgr
     try simp only[aW,aD,aL,aM]
     go_wp2_with fail;go_ret;refine⟨_,rfl,?_,HB3.out⟩;have:=HO4.out;unfold LY;simpa using this
end
end Go.Proofs.YtbhkoipcpcoooaaGreat
