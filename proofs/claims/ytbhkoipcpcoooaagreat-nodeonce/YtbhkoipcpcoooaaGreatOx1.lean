import Derived.Test.YtbhkoipcpcoooaaGreatJ1
import Derived.Test.YtbhkoipcpcoooaaGreatProg
import Derived.Test.YtbhkoipcpcoooaaGreatJ9
import Derived.Test.YtbhkoipcpcoooaaGreatJ2
import Derived.Sort.LotA
import Derived.WalkKit
import Derived.WalkSpells
import Derived.WalkLawsBesides
import Derived.BigQuiet
import Derived.KernelRfl
import Derived.Laws.StructEq
import Derived.Laws.Tables
import Derived.Laws.Rows
import Derived.StillTailTactics
import Derived.StillTail
import Derived.Test.YtbhkoipcpcoooaaGreatJ17
import Derived.Test.YtbhkoipcpcoooaaGreatJ3
import Derived.OrdersHeld
import Derived.Test.YtbhkoipcpcoooaaGreatJ12
import Derived.Test.YtbhkoipcpcoooaaGreatJ7
import Derived.Great.BuildSlice
import Derived.Laws.AppendOwn
import Derived.Laws.OwnMore
import Derived.Maps.AppendAt
import Derived.Test.YtbhkoipcpcoooaaGreatJ18
import Derived.Test.YtbhkoipcpcoooaaGreatJ16
import Derived.Test.YtbhkoipcpcoooaaGreatJ11
import Derived.Test.YtbhkoipcpcoooaaGreatJ4
import Derived.Lib.Bytealg
import Derived.Lib.UnsafeStr
import Derived.Lib.BufferWrite
import Derived.Laws.MakeOwn
import Derived.OwnWalk
import Derived.Laws.CopyRow
import Derived.Lib.BitFns
import Derived.WalkMore
import Derived.Test.YtbhkoipcpcoooaaGreatJ6
import Derived.Test.YtbhkoipcpcoooaaGreatJ5
import Derived.Deep.QuietTactic
import Derived.Lib.Hide
import Derived.Lib.Walk
import Derived.Shelf.SlSortCmp.KitK
import Derived.Deep.LoopGhost
import Derived.Deep.CutRange
import Derived.Laws.AppendOwnNone
import Derived.Great.Walk
import Derived.Laws.Cover3
import Derived.Test.YtbhkoipcpcoooaaGreatJ8
import Derived.Test.YtbhkoipcpcoooaaGreatJ10
import Derived.BigRegion
import Derived.Deep.RegionLaw
import Derived.Shelf.RegionOpenPlain
import Derived.Test.YtbhkoipcpcoooaaGreatJ15
import Derived.Test.YtbhkoipcpcoooaaGreatJ14
import Derived.Test.YtbhkoipcpcoooaaGreatJ13
import Derived.Laws.BytesArg
import Derived.Laws.Bits64b
import Derived.Laws.CopyOwn
import Derived.Test.YtbhkoipcpcoooaaGreatRows
import Derived.ProofKit
import Derived.OpenShut
import Derived.Carry
import Derived.Deep.Slices
import Derived.SizedLaws
import Derived.Test.YtbhkoipcpcoooaaGreatJ20
import Derived.Test.YtbhkoipcpcoooaaGreatJ21
import Derived.Test.YtbhkoipcpcoooaaGreatJ26
import Derived.Test.YtbhkoipcpcoooaaGreatJ25
import Derived.Test.YtbhkoipcpcoooaaGreatJ24
import Derived.Test.YtbhkoipcpcoooaaGreatJ23
import Derived.Test.YtbhkoipcpcoooaaGreatJ22
import Derived.Test.YtbhkoipcpcoooaaGreatJ19
namespace Go.Proofs.YtbhkoipcpcoooaaGreat
set_option maxRecDepth 20000
set_option maxHeartbeats 64000000
open Go
open _root_.Option.some renaming inj → aA, injEq → aC
open _root_.List renaming mem_cons_of_mem → aB, mem_filter → aD, mem_filterMap → aG, mem_cons_self → aH, not_mem_nil → aL, append_nil → aM, append_assoc → aN, mem_singleton → aQ, mem_cons → aR, getElem?_eq_none → aT, filter_sublist → aW, mem_map → aX, filter_append → aY, length_append → aZ, length_set → bD, nodup_cons → bE, replicate → bF
open _root_.Nat renaming add_zero → aI
open Go.Value renaming ownBlock → aJ, slice → bC
open _root_.Bool renaming and_eq_true → aK, not_eq_true' → bA
open _root_.Prod.mk renaming injEq → aO
open Go.Proofs.Tryz renaming prog → aP
theorem Yl{w:Be}{now:Int}{y:AN}(h:y∈Cv w now):y∈(Dc w now).l∧∃x∈w.l,y.seq=x.seq:=by
 unfold Cv at h;obtain⟨x,hx,rfl⟩:=aX.1 h;obtain⟨h1,h2⟩:=aD.1 hx;rw[aK] at h2;exact⟨aG.2 ⟨x,h1,by unfold Ce;rw[h2.1,h2.2];rfl⟩,x,h1,rfl⟩
theorem T7{w:Be}(h:Dn w){x y:AN}(hx:x∈w.l)(hy:y∈w.l)(e:x.seq=y.seq):x=y:=by
 have hr:=h.rise;generalize w.l=l at hx hy hr;induction l with
 | nil=>exact absurd hx (aL)
 | cons a l ih=>
  obtain⟨h1,h2⟩:=List.pairwise_cons.1 hr;rcases aR.1 hx with ex | gx
  ·rcases aR.1 hy with ey | gy
   ·rw[ex,ey]
   ·have:=h1 y gy;rw[←ex] at this;omega
  ·rcases aR.1 hy with ey | gy
   ·have:=h1 x gx;rw[←ey] at this;omega
   ·exact ih gx gy h2
theorem Ajm{w:Be}(h:Dn w){now:Int}{x:AN}(hx:x∈EE w now):x∈w.l∧∀y∈(Dc w now).l,y.seq≠x.seq:=by
 obtain⟨h1,h2⟩:=aD.1 hx;refine⟨h1,fun y hy e=> ?_⟩;obtain⟨z,hz,hzy⟩:=aG.1 hy;have hq:=MS hzy;obtain rfl:=T7 h hz h1 (by omega);rw[aK,bA] at h2;unfold Ce at hzy;rw[h2.1,h2.2] at hzy
 cases hzy
theorem Alt{w:Be}{now:Int}{x:AN}(hx:x∈w.l):x∈EE w now∨∃y∈(Dc w now).l,y.seq=x.seq:=by
 cases e:Ce w now x with
 | none=>
  left;unfold Ce at e;split at e
  ·rename_i h1;split at e
   ·cases e
   ·rename_i h2;exact aD.2 ⟨hx,by rw[h1,Bool.not_eq_true] at *;rw[h2];rfl⟩
  ·cases e
 | some y=>exact .inr ⟨y,aG.2 ⟨x,hx,e⟩,MS e⟩
section
variable {T:Type} {O:Qz T}
theorem Adm{w w':Be}(h:Dn w)(hs:w'.l.Sublist w.l)(h1:w'.tries=w.tries)(h2:w'.time=w.time)(h3:w'.room=w.room)(h4:w'.last=w.last):Dn w':=by
 refine⟨by rw[h2];exact h.time1,by rw[h1];exact h.tries0,by rw[h3];exact h.room1,?_,h.rise.sublist hs,fun x hx=>by rw[h4];exact h.seq x (hs.subset hx),fun x hx=>by rw[h1];exact h.sent x (hs.subset hx)⟩;have:=h.len;have:=hs.length_le;rw[h3];omega
theorem Ye(n:Af T)(now:Int)(x:AN):(DJ O n now x).wait.last=n.wait.last:=by
 unfold DJ;split
 ·rename_i t s _;split
  ·rw[(EY (AX n t) x.seq x.index x.head x.sent s).wait];rfl
  ·exact(Ld n.wait x.seq).2.2.2.1
 ·rfl
end
section
open Go.RowKit
theorem UD{ops:Array Oper}{Q:Exit→Act→World→Prop}{i:Nat}{o:Oper}{K:Act→World→Prop}{a:Act}{w:World}(hi:ops[i]?=some o)(hw:Region.wanted o (yielded ops a.tmps)=true)(v:Value)(hx:(execOp a.eval o).run aP w=.ok (.value v) w)(d:Option Tmp)(hd:o.dst=d)(hK:K (a.put d v) w):wpOp aP ops Q i K a w:=
 FF hi hw v hx d hd hK
theorem L3(B:Nat)(w:World)(g gt gh gw:Nat)(R:Rm)(n:Af Aq)(r:D0)(h:Cb B w g gt gh gw R n r)(hw:Ga n.wait):
  Calls aP 25 #[.pointer (some ⟨g,0,none⟩)] w fun e w'=>(∃u,e=.returned u∧AU w.heap.size w' u n.wait.l)∧Below w.heap.size w w':=by
 have c6:=h.f.c6;have C:=U8 B w gw n.wait r.vw h.wait hw;clear h hw;go_enter Tryz.func25,Tryz.ntmps25;go_wp2_with (go_at_call 63;refine C.mono ?_;rintro e w1 ⟨⟨u,rfl,hu⟩,hb⟩;have HU:Hid _:=hu;have HB:Hid _:=hb;clear hu hb);go_ret;exact⟨⟨u,rfl,HU.out⟩,HB.out⟩
def far(M V' M' H:List Int):Nat→Nat→Bool
 | 0,_=>false
 | f+1,i=>(!(bt M i)&&bt M' i&&(bt H i !=bt V' i)) || far M V' M' H f (i+1)
theorem Me.len{w:World}{o:Option Addr}{n cap:Nat}{L:List Value}(h:Me w (.slice o n cap) L):n=L.length:=by
 obtain⟨o',cap',h1,_⟩:=h;simp only[Value.slice.injEq] at h1;exact h1.2.1
theorem Dj.base{ty B B':Nat}{w:World}{v:Value}{L:List Value}(h:Dj ty B w v L)(hB:B'≤B):Dj ty B' w v L:=by
 obtain⟨h1,h2 | ⟨g',cap,cur,rfl,hB,h3⟩⟩:=h
 ·exact⟨h1,.inl h2⟩
 ·exact⟨h1,.inr ⟨g',cap,cur,rfl,by omega,h3⟩⟩
theorem Dj.grown{ty B:Nat}{w w':World}{v:Value}{L:List Value}(h:Dj ty B w v L){row:Option Nat}(hg:w.grownBy w' row)(hne:∀g,v.ownBlock=some g→row≠some g):Dj ty B w' v L:=by
 obtain⟨h1,h2 | ⟨g,cap,cur,rfl,hB,hcur,h3⟩⟩:=h
 ·exact⟨h1,.inl h2⟩
 ·exact⟨h1,.inr ⟨g,cap,cur,rfl,hB,(hg.block g (gS hcur) fun e=>hne g rfl e.symm).trans hcur,h3⟩⟩
theorem Dj.set{ty B:Nat}{w:World}{g n cap:Nat}{L:List Value}(h:Dj ty B w (.slice (some ⟨g,0,none⟩) n cap) L)(k:Nat)(u:Value):Dj ty B (w.setCell ⟨g,k,none⟩ u) (.slice (some ⟨g,0,none⟩) n cap) (L.set k u):=by
 have hn:=h.sl.len;subst hn;have:=(World.ownsRow.stored h k u).1;unfold Dj;rw[bD];exact this
theorem Dj.setBelow{ty B:Nat}{w:World}{g n cap:Nat}{L:List Value}(h:Dj ty B w (.slice (some ⟨g,0,none⟩) n cap) L)(k:Nat)(u:Value):w.grownBy (w.setCell ⟨g,k,none⟩ u) (some g):=by
 have hn:=h.sl.len;subst hn;exact(World.ownsRow.stored h k u).2
theorem Dj.cell{ty B:Nat}{w:World}{g n cap:Nat}{L:List Value}(h:Dj ty B w (.slice (some ⟨g,0,none⟩) n cap) L)(k:Nat)(hk:k<n):∃c,w.cell? ⟨g,k,none⟩=some c∧L[k]?=some c∧w.frozen? ⟨g,k,none⟩=false:=by
 have hn:=h.sl.len;subst hn;obtain⟨g',off,c,e,h1,h2⟩:=h.sl.at k hk;simp only[aC,Addr.mk.injEq,and_true] at e;obtain⟨rfl,rfl⟩:=e;rw[Nat.zero_add] at h1;obtain⟨_,⟨e,_⟩ | ⟨g',cap',cur,e,hB,hcur,_⟩⟩:=h
 ·cases e
 ·simp only[Value.slice.injEq,aC,Addr.mk.injEq,and_true] at e;obtain⟨⟨rfl,_⟩,_⟩:=e;exact⟨c,h1,h2,by simp[World.frozen?,hcur]⟩
theorem Rw{ty sl:TypeId}{z:Value}(S:Sc ty sl z){ops:Array Oper}{rest:List Oper}{o:Oper}{a:Act}{w:World}{Q:Exit→Act→World→Prop}(hgd:o.guard=none)(x y:Operand)(ho:o.op=.makeSlice sl x y)
  (n:Nat) (hx:a.eval x=.int .i64 (n:Int)) (hy:a.eval y=.int .i64 (n:Int)) (hn:n≤1000000)
  (h:∀w',Dj ty w.heap.size w' (.slice (some ⟨w.heap.size,0,none⟩) n n) (bF n z)→Below w.heap.size w w'→wpList aP ops Q rest (a.put o.dst (.slice (some ⟨w.heap.size,0,none⟩) n n)) w'):wpList aP ops Q (o::rest) a w:=by
 obtain⟨i,b,hi,hz,h1,h2,h3,h4⟩:=S.info;refine wpList_plain hgd fun K hK=> ?_;obtain⟨w',hr,hown,hgr⟩:=run_make_full (P:=aP) w w.heap.size sl ty i z 1 S.hs hi hz h1 .i64 .i64 n (by rw[h2];have:=Nat.mul_le_mul h4 hn;omega) (by unfold maxLen;omega) (Nat.le_refl _);unfold Oper.wp execOp;simp only[ho,hx,hy,hr,Sem.run_bind,Sem.run_pure,Result.andThen_ok];refine hK _ _ (h w' ?_ ((Below.refl _ _).grown hgr (Nat.le_refl _) fun k hk=>by cases hk));unfold Dj;rw[List.length_replicate]
 have e:bF n z=(madeCells z.cells (n*1)).toList:=by
  rw[S.hz,toList_madeCells_one,Nat.mul_one]
 rw[e];exact hown
theorem ET.row{a b:World}(h:ET a b){p:Nat}{cs:Array Value}{t:TypeId}{fr:Nat×Nat}(hp:a.heap[p]?=some (.cells cs t fr))(ht:t∉Zn):b.heap[p]?=some (.cells cs t fr):=
 h.heap hp fun⟨t',h1,cs',fr',e⟩=>by
  rw[hp] at e
  simp only[aC,Obj.cells.injEq] at e
  exact ht (e.2.1▸h1)
section
variable {w wr w':World} {g gt gh gw:Nat} {R:Rm} {n n':Af Aq}
end
end
section
open Go
def ZF(j:Int)(y:AP):Bool:=(decide (y.kind=5) || decide (y.kind=6))&&decide (y.index=j)
def Xm(j:Int)(y:AP):Bool:=decide (y.kind=9)&&decide (y.index=j)
def Dz(l:List AP)(j:Int):Nat:=(l.filter (ZF j)).length
def DS(l:List AP)(j:Int):Nat:=(l.filter (Xm j)).length
theorem Fy(l:List AP)(y:AP)(j:Int):Dz (l++[y]) j=Dz l j+if ZF j y=true then 1 else 0:=by
 unfold Dz;rw[aY,aZ]
 cases h:ZF j y <;> simp[h]
theorem F8(l:List AP)(y:AP)(j:Int):DS (l++[y]) j=DS l j+if Xm j y=true then 1 else 0:=by
 unfold DS;rw[aY,aZ]
 cases h:Xm j y <;> simp[h]
theorem GP(j:Int)(y:AP):ZF j y=true↔(y.kind=5∨y.kind=6)∧y.index=j:=by unfold ZF;simp
theorem GY(j:Int)(y:AP):Xm j y=true↔y.kind=9∧y.index=j:=by unfold Xm;simp
structure DU(came:Int→Prop)(tries:Int)(hist:List AP)(W Pd:AN→Prop):Prop where
 dist:∀x y,W x→W y→x.index=y.index→x=y
 wait:∀x,W x→came x.index∧Dz hist x.index=0∧(DS hist x.index:Int)≤x.sent∧(Pd x→(DS hist x.index:Int)+1≤x.sent)∧x.sent≤tries+1
 over:∀j,(∀x,W x→x.index≠j)→came j→Dz hist j=1∧(DS hist j:Int)≤tries+1
 none_:∀j,¬came j→Dz hist j=0∧DS hist j=0∧∀x,W x→x.index≠j
def TL(came:Int→Prop)(tries:Int)(hist:List AP)(y:AP):Prop:=
 y.kind=5∨y.kind=6∨y.kind=9→came y.index∧Dz hist y.index≤1∧(DS hist y.index:Int)≤tries+1∧(y.kind=9→Dz hist y.index=0)
def NS(came:Int→Prop)(tries:Int):List AP→List AP→Prop
 | _,[]=>True
 | hist,y::l=>TL came tries (hist++[y]) y∧NS came tries (hist++[y]) l
theorem XA{came:Int→Prop}{tries:Int}:∀(a b hist:List AP),NS came tries hist a→NS came tries (hist++a) b→NS came tries hist (a++b)
 | [],b,hist,_,h=>by rw[aM] at h;exact h
 | y::a,b,hist,h1,h2=>⟨h1.1,XA a b (hist++[y]) h1.2 (by rw[aN];exact h2)⟩
variable {came:Int→Prop} {tries:Int} {hist:List AP} {W Pd:AN→Prop}
theorem Amh(h:DU came tries hist W Pd){y:AP}(h5:y.kind≠5)(h6:y.kind≠6)(h9:y.kind≠9):DU came tries (hist++[y]) W Pd∧TL came tries (hist++[y]) y:=by
 have eO:∀j,Dz (hist++[y]) j=Dz hist j:=fun j=>by
  rw[Fy,if_neg (fun e=>by rcases((GP j y).1 e).1 with e | e <;> contradiction),aI]
 have eR:∀j,DS (hist++[y]) j=DS hist j:=fun j=>by
  rw[F8,if_neg (fun e=>h9 ((GY j y).1 e).1),aI]
 refine⟨⟨h.dist,fun x hx=> ?_,fun j h1 h2=> ?_,fun j h1=> ?_⟩,fun e=> ?_⟩
 ·rw[eO,eR];exact h.wait x hx
 ·rw[eO,eR];exact h.over j h1 h2
 ·rw[eO,eR];exact h.none_ j h1
 ·rcases e with e | e | e <;> contradiction
theorem Aax(h:DU came tries hist W Pd){x:AN}(hx:W x)(hp:Pd x){y:AP}(hk:y.kind=9)(hi:y.index=x.index):DU came tries (hist++[y]) W (fun z=>Pd z∧z≠x)∧TL came tries (hist++[y]) y:=by
 obtain⟨w1,w2,w3,w4,w5⟩:=h.wait x hx
 have eO:∀j,Dz (hist++[y]) j=Dz hist j:=fun j=>by
  rw[Fy,if_neg (fun e=>by rcases((GP j y).1 e).1 with e | e <;> rw[hk] at e <;> cases e),aI]
 have eR:∀j,j≠x.index→DS (hist++[y]) j=DS hist j:=fun j hj=>by
  rw[F8,if_neg (fun e=>hj (by rw[←((GY j y).1 e).2,hi])),aI]
 have eX:DS (hist++[y]) x.index=DS hist x.index+1:=by
  rw[F8,if_pos ((GY _ y).2 ⟨hk,hi⟩)]
 have hp4:=w4 hp;refine⟨⟨h.dist,fun z hz=> ?_,fun j h1 h2=> ?_,fun j h1=> ?_⟩,fun _=> ?_⟩
 ·by_cases e:z=x
  ·subst e;rw[eO,eX];exact⟨w1,w2,by omega,fun hpz=>absurd rfl hpz.2,w5⟩
  ·have hne:z.index≠x.index:=fun ei=>e (h.dist z x hz hx ei);rw[eO,eR _ hne];obtain⟨a1,a2,a3,a4,a5⟩:=h.wait z hz;exact⟨a1,a2,a3,fun hpz=>a4 hpz.1,a5⟩
 ·rw[eO,eR j (fun e=>h1 x hx e.symm)];exact h.over j h1 h2
 ·have hj:j≠x.index:=fun e=>h1 (by rw[e];exact w1);rw[eO,eR j hj];exact h.none_ j h1
 ·rw[hi,eO,eX];exact⟨w1,by omega,by omega,fun _=>w2⟩
theorem WR(h:DU came tries hist W Pd){x:AN}(hx:W x){y:AP}(hk:y.kind=5∨y.kind=6)(hi:y.index=x.index):DU came tries (hist++[y]) (fun z=>W z∧z≠x) Pd∧TL came tries (hist++[y]) y:=by
 obtain⟨w1,w2,w3,w4,w5⟩:=h.wait x hx
 have eO:∀j,j≠x.index→Dz (hist++[y]) j=Dz hist j:=fun j hj=>by
  rw[Fy,if_neg (fun e=>hj (by rw[←((GP j y).1 e).2,hi])),aI]
 have eX:Dz (hist++[y]) x.index=Dz hist x.index+1:=by
  rw[Fy,if_pos ((GP _ y).2 ⟨hk,hi⟩)]
 have eR:∀j,DS (hist++[y]) j=DS hist j:=fun j=>by
  rw[F8,if_neg (fun e=>by have:=((GY j y).1 e).1;rcases hk with e' | e' <;> rw[e'] at this <;> cases this),aI]
 refine⟨⟨fun a b ha hb e=>h.dist a b ha.1 hb.1 e,fun z hz=> ?_,fun j h1 h2=> ?_,fun j h1=> ?_⟩,fun _=> ?_⟩
 ·have hne:z.index≠x.index:=fun ei=>hz.2 (h.dist z x hz.1 hx ei);rw[eO _ hne,eR];exact h.wait z hz.1
 ·by_cases e:j=x.index
  ·rw[e,eX,eR,w2];exact⟨rfl,by omega⟩
  ·rw[eO j e,eR];refine h.over j (fun z hz ez=> ?_) h2;by_cases e2:z=x
   ·rw[e2] at ez;exact e ez.symm
   ·exact h1 z ⟨hz,e2⟩ ez
 ·have hj:j≠x.index:=fun e=>h1 (by rw[e];exact w1);rw[eO j hj,eR];obtain⟨a1,a2,a3⟩:=h.none_ j h1;exact⟨a1,a2,fun z hz=>a3 z hz.1⟩
 ·rw[hi,eX,eR,w2];refine⟨w1,by omega,by omega,fun e=> ?_⟩;rcases hk with e' | e' <;> rw[e'] at e <;> cases e
theorem Ami(h:DU came tries hist W Pd)(ht:0≤tries){j:Int}(hj:¬came j){y:AP}(hk:y.kind=5∨y.kind=6)(hi:y.index=j):DU (fun k=>came k∨k=j) tries (hist++[y]) W Pd∧TL (fun k=>came k∨k=j) tries (hist++[y]) y:=by
 obtain⟨n1,n2,n3⟩:=h.none_ j hj
 have eO:∀k,k≠j→Dz (hist++[y]) k=Dz hist k:=fun k hk'=>by
  rw[Fy,if_neg (fun e=>hk' (by rw[←((GP k y).1 e).2,hi])),aI]
 have eX:Dz (hist++[y]) j=1:=by
  rw[Fy,if_pos ((GP _ y).2 ⟨hk,hi⟩),n1]
 have eR:∀k,DS (hist++[y]) k=DS hist k:=fun k=>by
  rw[F8,if_neg (fun e=>by have:=((GY k y).1 e).1;rcases hk with e' | e' <;> rw[e'] at this <;> cases this),aI]
 refine⟨⟨h.dist,fun z hz=> ?_,fun k h1 h2=> ?_,fun k h1=> ?_⟩,fun _=> ?_⟩
 ·rw[eO _ (n3 z hz),eR];obtain⟨a1,a2⟩:=h.wait z hz;exact⟨.inl a1,a2⟩
 ·by_cases e:k=j
  ·rw[e,eX,eR,n2];exact⟨rfl,by omega⟩
  ·rw[eO k e,eR];exact h.over k h1 (h2.resolve_right e)
 ·have hkj:k≠j:=fun e=>h1 (.inr e);rw[eO k hkj,eR];exact h.none_ k (fun e=>h1 (.inl e))
 ·rw[hi,eX,eR,n2];refine⟨.inr rfl,by omega,by omega,fun e=> ?_⟩;rcases hk with e' | e' <;> rw[e'] at e <;> cases e
theorem Aqn(h:DU came tries hist W Pd)(ht:0≤tries){x:AN}(hj:¬came x.index)(hs:x.sent=1):DU (fun k=>came k∨k=x.index) tries hist (fun z=>W z∨z=x) (fun z=>Pd z∨z=x):=by
 obtain⟨n1,n2,n3⟩:=h.none_ x.index hj;refine⟨fun a b ha hb e=> ?_,fun z hz=> ?_,fun k h1 h2=> ?_,fun k h1=> ?_⟩
 ·rcases ha with ha | rfl
  ·rcases hb with hb | rfl
   ·exact h.dist a b ha hb e
   ·exact absurd e (n3 a ha)
  ·rcases hb with hb | rfl
   ·exact absurd e.symm (n3 b hb)
   ·rfl
 ·rcases hz with hz | rfl
  ·obtain⟨a1,a2,a3,a4,a5⟩:=h.wait z hz;exact⟨.inl a1,a2,a3,fun hp=>a4 (hp.resolve_right (fun e=>n3 z hz (by rw[e]))),a5⟩
  ·exact⟨.inr rfl,n1,by rw[n2,hs];decide,fun _=>by rw[n2,hs];decide,by omega⟩
 ·exact h.over k (fun z hz=>h1 z (.inl hz)) (h2.resolve_right (fun e=>h1 x (.inr rfl) e.symm))
 ·obtain⟨a1,a2,a3⟩:=h.none_ k (fun e=>h1 (.inl e));refine⟨a1,a2,fun z hz=> ?_⟩;rcases hz with hz | rfl
  ·exact a3 z hz
  ·exact fun e=>h1 (.inr e.symm)
theorem P7(h:DU came tries hist W Pd){Pd':AN→Prop}(hp:∀x,W x→Pd' x→Pd x):DU came tries hist W Pd':=
 ⟨h.dist,fun x hx=>by obtain⟨a1,a2,a3,a4,a5⟩:=h.wait x hx;exact⟨a1,a2,a3,fun e=>a4 (hp x hx e),a5⟩,h.over,h.none_⟩
theorem Aem(h:DU came tries hist W Pd){W':AN→Prop}(hw:∀x,W' x↔W x):DU came tries hist W' Pd:=
 ⟨fun a b ha hb e=>h.dist a b ((hw a).1 ha) ((hw b).1 hb) e,fun x hx=>h.wait x ((hw x).1 hx),fun j h1 h2=>h.over j (fun x hx=>h1 x ((hw x).2 hx)) h2,fun j h1=>by
  obtain⟨a1,a2,a3⟩:=h.none_ j h1
  exact⟨a1,a2,fun x hx=>a3 x ((hw x).1 hx)⟩⟩
theorem Ael{w:Be}(hw:Dn w){now:Int}(h:DU came tries hist (fun x=>x∈w.l) Pd)(ht:w.tries=tries):DU came tries hist (fun x=>x∈(Dc w now).l∨x∈EE w now) (fun x=>x∈Cv w now):=by
 have key:∀x,(x∈(Dc w now).l∨x∈EE w now)→∃y∈w.l,y.index=x.index∧((Ce w now y=some x∧x∈(Dc w now).l)∨(Ce w now y=none∧x=y)):=fun x hx=>by
  rcases hx with hx | hx
  ·unfold Dc at hx;obtain⟨y,hy,e⟩:=aG.1 hx;refine⟨y,hy,?_,.inl ⟨e,aG.2 ⟨y,hy,e⟩⟩⟩;unfold Ce at e;split at e
   ·split at e
    ·obtain rfl:=aA e;rfl
    ·cases e
   ·obtain rfl:=aA e;rfl
  ·unfold EE at hx;obtain⟨hx1,hx2⟩:=aD.1 hx;rw[aK,bA] at hx2;refine⟨x,hx1,rfl,.inr ⟨?_,rfl⟩⟩;unfold Ce;rw[hx2.1,hx2.2];rfl
 have back:∀y∈w.l,∃x,(x∈(Dc w now).l∨x∈EE w now)∧x.index=y.index:=fun y hy=>by
  rcases Alt (now:=now) hy with hg | _
  ·exact⟨y,.inr hg,rfl⟩
  ·cases e:Ce w now y with
   | none=>
    refine⟨y,.inr ?_,rfl⟩;unfold EE;rw[aD];refine⟨hy,?_⟩;unfold Ce at e;split at e
    ·rename_i hd;split at e
     ·cases e
     ·rename_i hm;rw[hd];simp[hm]
    ·cases e
   | some x=>
    refine⟨x,.inl (aG.2 ⟨y,hy,e⟩),?_⟩;unfold Ce at e;split at e
    ·split at e
     ·obtain rfl:=aA e;rfl
     ·cases e
    ·obtain rfl:=aA e;rfl
 refine⟨fun a b ha hb e=> ?_,fun x hx=> ?_,fun j h1 h2=> ?_,fun j h1=> ?_⟩
 ·obtain⟨ya,hya,ia,ca⟩:=key a ha;obtain⟨yb,hyb,ib,cb⟩:=key b hb;have hy:=h.dist ya yb hya hyb (by rw[ia,ib,e]);subst hy;rcases ca with ⟨ca,_⟩ | ⟨ca,ea⟩
  ·rcases cb with ⟨cb,_⟩ | ⟨cb,_⟩
   ·rw[ca] at cb;exact aA cb
   ·rw[ca] at cb;cases cb
  ·rcases cb with ⟨cb,_⟩ | ⟨cb,eb⟩
   ·rw[ca] at cb;cases cb
   ·rw[ea,eb]
 ·obtain⟨y,hy,ix,cx⟩:=key x hx;obtain⟨a1,a2,a3,_,a5⟩:=h.wait y hy;have hsn:=hw.sent y hy;rw[←ix];rcases cx with ⟨cx,_⟩ | ⟨cx,ex⟩
  ·unfold Ce at cx;split at cx
   ·split at cx
    ·rename_i hm;unfold DF at hm;have hm':=of_decide_eq_true hm;obtain rfl:=aA cx;exact⟨a1,a2,by show _≤y.sent+1;omega,fun _=>by show _≤y.sent+1;omega,by show y.sent+1≤_;omega⟩
    ·cases cx
   ·rename_i hd;obtain rfl:=aA cx;refine⟨a1,a2,a3,fun hp=> ?_,a5⟩;unfold Cv at hp;obtain⟨z,hz,ez⟩:=aX.1 hp;obtain⟨hz1,hz2⟩:=aD.1 hz;have hzy:z=y:=h.dist z y hz1 hy (by rw[←ez];rfl);rw[aK,hzy] at hz2;exact absurd hz2.1 hd
  ·subst ex;refine⟨a1,a2,a3,fun hp=> ?_,a5⟩;unfold Cv at hp;obtain⟨z,hz,ez⟩:=aX.1 hp;obtain⟨hz1,hz2⟩:=aD.1 hz;have hzy:z=x:=h.dist z x hz1 hy (by rw[←ez];rfl);rw[aK,hzy] at hz2;unfold Ce at cx;rw[hz2.1,hz2.2] at cx
   cases cx
 ·refine h.over j (fun y hy e=> ?_) h2;obtain⟨x,hx,ex⟩:=back y hy;exact h1 x hx (ex.trans e)
 ·obtain⟨a1,a2,a3⟩:=h.none_ j h1;refine⟨a1,a2,fun x hx e=> ?_⟩;obtain⟨y,hy,ix,_⟩:=key x hx;exact a3 y hy (ix.trans e)
end
section
variable {T:Type} {O:Qz T}
def FA(came':Int→Prop)(tries:Int)(hist:List AP)(n n':Af T)(W' Pd':AN→Prop):Prop:=
 ∃l,n'.log=n.log++l∧NS came' tries hist l∧DU came' tries (hist++l) W' Pd'
theorem F5{came:Int→Prop}{tries:Int}{hist:List AP}{n:Af T}{W Pd:AN→Prop}(h:DU came tries hist W Pd):FA came tries hist n n W Pd:=⟨[],by simp,trivial,by rw[aM];exact h⟩
theorem Lu{came:Int→Prop}{tries:Int}{hist:List AP}{n n':Af T}{W Pd:AN→Prop}(h:DU came tries hist W Pd)(e:n'.log=n.log):FA came tries hist n n' W Pd:=⟨[],by simpa using e,trivial,by rw[aM];exact h⟩
theorem M8{came:Int→Prop}{tries:Int}{hist:List AP}{n:Af T}{W' Pd':AN→Prop}{y:AP}{n':Af T}(e:n'.log=n.log++[y])(h:DU came tries (hist++[y]) W' Pd'∧TL came tries (hist++[y]) y):FA came tries hist n n' W' Pd':=⟨[y],e,⟨h.2,trivial⟩,h.1⟩
theorem Fo{came:Int→Prop}{tries:Int}{hist:List AP}{a b c:Af T}{W Pd W' Pd':AN→Prop}(h1:FA came tries hist a b W Pd)(h2:∀hist',DU came tries hist' W Pd→FA came tries hist' b c W' Pd'):FA came tries hist a c W' Pd':=by
 obtain⟨l,e1,g1,o1⟩:=h1;obtain⟨k,e2,g2,o2⟩:=h2 _ o1;exact⟨l++k,by rw[e2,e1,aN],XA l k hist g1 g2,by rw[←aN];exact o2⟩
theorem La{came:Int→Prop}{tries:Int}{hist:List AP}{n n':Af T}{W Pd:AN→Prop}(h:DU came tries hist W Pd)(hm:AS (fun y=>y.kind≠5∧y.kind≠6∧y.kind≠9) n n'):FA came tries hist n n' W Pd:=by
 obtain⟨l,e,q⟩:=hm
 have key:∀(l:List AP) (hist:List AP),(∀y∈l,y.kind≠5∧y.kind≠6∧y.kind≠9)→DU came tries hist W Pd→NS came tries hist l∧DU came tries (hist++l) W Pd:=fun l=>by
  induction l with
  | nil=>intro hist _ h;exact⟨trivial,by rw[aM];exact h⟩
  | cons y l ih=>
   intro hist hq h;have hy:=hq y aH;obtain⟨o1,o2⟩:=Amh h hy.1 hy.2.1 hy.2.2;obtain⟨g,o⟩:=ih (hist++[y]) (fun z hz=>hq z (aB _ hz)) o1;exact⟨⟨o2,g⟩,by rw[aN] at o;exact o⟩
 obtain⟨g,o⟩:=key l hist q h;exact⟨l,e,g,o⟩
theorem WH(n:Af T)(seq index:Int)(h:List Int)(sent:Int)(s:Ai):(Da n seq index h sent s).log=n.log∨∃y,(Da n seq index h sent s).log=n.log++[y]∧y.kind=9∧y.index=index:=by
 unfold Da;split
 ·exact .inl rfl
 ·refine .inr ⟨{FB with kind:=9,index:=index,epoch:=n.hold.use,«to»:=Kk sent s,at_:=(Cx n (Kk sent s) (Cz 6 n.hold.life n.hold.use 0 0 0 0 0 0 0 0 0 seq 0 (Z,Z) h)).num},?_,rfl,rfl⟩;unfold Cc;dsimp only;rw[(Ew n _ _).1]
theorem PF{came:Int→Prop}{tries:Int}{hist:List AP}{n:Af T}{W Pd:AN→Prop}(h:DU came tries hist W Pd){x:AN}(hx:W x)(hp:Pd x){seq:Int}{hd:List Int}{sent:Int}{s:Ai}:FA came tries hist n (Da n seq x.index hd sent s) W (fun z=>Pd z∧z≠x):=by
 rcases WH n seq x.index hd sent s with e | ⟨y,e,hk,hi⟩
 ·exact Lu (P7 h fun z _ hz=>hz.1) e
 ·exact M8 e (Aax h hx hp hk hi)
def Fm:AN→Prop:=fun _=>False
def GJ(w:Be):AN→Prop:=fun x=>x∈w.l
theorem M7{came:Int→Prop}{tries:Int}{hist:List AP}{n n':Af T}{W Pd W' Pd':AN→Prop}(h:FA came tries hist n n' W Pd)(hw:∀x,W' x↔W x)(hp:∀x,W' x→Pd' x→Pd x):FA came tries hist n n' W' Pd':=by
 obtain⟨l,e,g,o⟩:=h;exact⟨l,e,g,P7 (Aem o hw) hp⟩
theorem YV{came:Int→Prop}{hist:List AP}{n:Af T}(hw:Dn n.wait)(h:DU came n.wait.tries hist (GJ n.wait) Fm){index:Int}(hj:¬came index)(hd:List Int)(now:Int):FA (fun k=>came k∨k=index) n.wait.tries hist n (Cl O n index hd now) (GJ (Cl O n index hd now).wait) Fm:=by
 have ht:=hw.tries0
 have brief:∀(n':Af T) (y:AP),n'.log=n.log++[y]→n'.wait=n.wait→(y.kind=5∨y.kind=6)→y.index=index→FA (fun k=>came k∨k=index) n.wait.tries hist n n' (GJ n'.wait) Fm:=fun n' y e ew hk hi=>by
  rw[ew];exact M8 e (Ami h ht hj hk hi)
 unfold Cl;split
 ·split
  ·rename_i t s _;split
   ·split;rename_i w seq e ha;split
    ·rename_i he;unfold Fk at ha;split at ha
     ·simp only[aO] at ha;obtain⟨_,_,rfl⟩:=ha
      cases he
     ·simp only[aO] at ha;obtain⟨rfl,_,_⟩:=ha;obtain⟨x,hx⟩:∃x:AN,x=⟨(n.wait.last:Int)+1,index,hd,1,EH now+n.wait.time⟩:=⟨_,rfl⟩;have hxi:x.index=index:=by rw[hx]
      have o1:=Aqn h ht (x:=x) (by rw[hxi];exact hj) (by rw[hx]);rw[hxi] at o1
      have hwl:∀z,GJ (JM n.wait index hd now) z↔(GJ n.wait z∨z=x):=fun z=>by
       unfold GJ JM;dsimp only;rw[List.mem_append,aQ,hx]
      have g1:FA (fun k=>came k∨k=index) n.wait.tries hist n (Db (AX n t) (JM n.wait index hd now)) (fun z=>GJ n.wait z∨z=x) (fun z=>Fm z∨z=x):=Lu o1 rfl;have g2:=Fo g1 fun hist' o'=>PF (n:=Db (AX n t) (JM n.wait index hd now)) (seq:=seq) (hd:=hd) (sent:=1) (s:=s) o' (x:=x) (.inr rfl) (.inr rfl);rw[hxi] at g2;have ew:=(EY (Db (AX n t) (JM n.wait index hd now)) seq index hd 1 s).wait;rw[ew];exact M7 g2 hwl fun z _ hz=>hz.elim
    ·exact brief (Eb (AX n t) index 3) _ rfl rfl (.inr rfl) rfl
   ·exact brief (FC (AX n t) index s.action) _ rfl rfl (.inl rfl) rfl
  ·rename_i t _ _;exact brief (Eb (AX n t) index 6) _ rfl rfl (.inr rfl) rfl
 ·exact brief (Eb n index 2) _ rfl rfl (.inr rfl) rfl
theorem TD{w:Be}(hw:Dn w){s:Int}{w':Be}{x:AN}(h:BH w s=(w',some x)):x∈w.l∧x.seq=s∧∀z,z∈w'.l↔(z∈w.l∧z≠x):=by
 unfold BH at h;split at h
 ·rename_i y hy;simp only[aO,aC] at h;obtain⟨rfl,rfl⟩:=h;have hm:=List.mem_of_find?_eq_some hy
  have hs:y.seq=s:=by
   have:=List.find?_some hy;unfold KH at this;simpa using this
  refine⟨hm,hs,fun z=> ?_⟩;unfold Ac4;dsimp only;rw[aD];unfold KH;constructor
  ·rintro⟨a,b⟩;refine⟨a,fun e=> ?_⟩;rw[e,hs] at b;simp at b
  ·rintro⟨a,b⟩;refine⟨a,?_⟩;have:z.seq≠s:=fun e=>b (T7 hw a hm (e.trans hs.symm));simpa using this
 ·cases h
theorem Xq{came:Int→Prop}{hist:List AP}{n:Af T}(hw:Dn n.wait)(h:DU came n.wait.tries hist (GJ n.wait) Fm)(m:An)(now:Int):FA came n.wait.tries hist n (FL O n m now).1 (GJ (FL O n m now).1.wait) Fm:=by
 obtain⟨p1,p2⟩:=P5 (O:=O) n m now;have g1:FA came n.wait.tries hist n (EB O n m now) (GJ n.wait) Fm:=La h (p1.mono fun y hy=>by rcases hy with e | e <;> rw[e] <;> decide);unfold FL;split
 ·split
  ·rename_i w x e;rw[p2.wait] at e;obtain⟨a1,a2,a3⟩:=TD hw e;have g2:=Fo g1 fun hist' o'=>M8 (n':=FC (Db (EB O n m now) w) x.index (Ad m 6)) (y:={FB with kind:=5,index:=x.index,action:=Ad m 6,at_:=(EB O n m now).num}) rfl (WR o' (x:=x) a1 (.inl rfl) rfl);exact M7 g2 (fun z=>a3 z) fun _ _ hz=>hz.elim
  ·dsimp only;rw[p2.wait];exact g1
 ·exact F5 h
theorem Ae0{came:Int→Prop}{hist:List AP}{n:Af T}(hw:Dn n.wait)(h:DU came n.wait.tries hist (GJ n.wait) Fm)(src:Int)(data:List UInt8)(now:Int):FA came n.wait.tries hist n (IA O n src data now).1 (GJ (IA O n src data now).1.wait) Fm:=by
 unfold IA;split
 ·exact F5 h
 ·rename_i m hd;dsimp only;split
  ·split
   ·obtain⟨i1,_,i3,_⟩:=Ny (O:=O) n m;rw[i3];exact La h (i1.mono fun y hy=>by rcases hy with e | e <;> rw[e] <;> decide)
   ·exact F5 h
  ·split
   ·split
    ·obtain⟨i1,_,i3,_⟩:=Qg (O:=O) n m;rw[i3];exact La h (i1.mono fun y hy=>by rw[hy];decide)
    ·exact F5 h
   ·split
    ·split
     ·obtain⟨a1,a2,_⟩:=LH (O:=O) n src m;rw[a2.wait];exact Lu h a1
     ·exact F5 h
    ·split
     ·split
      ·exact Xq hw h m now
      ·exact F5 h
     ·exact F5 h
theorem Adf{came:Int→Prop}{hist:List AP}{n:Af T}(hw:Dn n.wait)(h:DU came n.wait.tries hist (GJ n.wait) Fm)(src:Int)(data:List UInt8)(now:Int):FA came n.wait.tries hist n (DC O n src data now) (GJ (DC O n src data now).wait) Fm:=by
 have g:=Ae0 (O:=O) hw h src data now;unfold DC;split
 ·rename_i a e;rw[e] at g;exact g
 ·rename_i a e;rw[e] at g;exact Fo g fun hist' o'=>La o' ((AS.refl _ a).write ⟨show(13:Int)≠5 by decide,show(13:Int)≠6 by decide,show(13:Int)≠9 by decide⟩)
theorem VG{came:Int→Prop}{tries:Int}{G:AN→Prop}(now:Int):∀(L:List AN) (a:Af T) (hist:List AP),Dn a.wait→L.Nodup→(∀x∈L,x∈a.wait.l)→DU came tries hist (fun x=>x∈a.wait.l∨G x) (fun x=>x∈L)→(∀x∈L,¬G x)→
  FA came tries hist a (L.foldl (fun n x=>DJ O n now x) a) (fun x=>x∈(L.foldl (fun n x=>DJ O n now x) a).wait.l∨G x) Fm
 | [],a,hist,_,_,_,h,_=>F5 (P7 h fun _ _ hz=>hz.elim)
 | x::L,a,hist,hw,hn,hL,h,hG=>by
  have hx:=hL x aH
  have hnd:=bE.1 hn
  show FA came tries hist a (L.foldl (fun n x=>DJ O n now x) (DJ O a now x)) _ _
  have step:FA came tries hist a (DJ O a now x) (fun z=>z∈(DJ O a now x).wait.l∨G z) (fun z=>z∈L)∧(∀z∈L,z∈(DJ O a now x).wait.l):=by
   unfold DJ;split
   ·rename_i t s _;split
    ·have ew:=(EY (AX a t) x.seq x.index x.head x.sent s).wait;rw[ew];refine⟨?_,fun z hz=>hL z (aB _ hz)⟩;have g1:FA came tries hist a (AX a t) (fun z=>z∈a.wait.l∨G z) (fun z=>z∈x::L):=Lu h rfl;have g2:=Fo g1 fun hist' o'=>PF (n:=AX a t) (seq:=x.seq) (hd:=x.head) (sent:=x.sent) (s:=s) o' (x:=x) (.inl hx) aH;exact M7 g2 (fun _=>Iff.rfl) fun z _ hz=>⟨aB _ hz,fun e=>hnd.1 (by rw[←e];exact hz)⟩
    ·cases ha:BH a.wait x.seq with
     | mk w' o=>
      cases o with
      | none=>
       exfalso;unfold BH at ha;split at ha
       ·cases ha
       ·rename_i hf;have:=List.find?_eq_none.1 hf x hx;unfold KH at this;simp at this
      | some y=>
       obtain⟨a1,a2,a3⟩:=TD hw ha;have hyx:y=x:=T7 hw a1 hx a2;subst hyx;dsimp only;refine⟨?_,fun z hz=>(a3 z).2 ⟨hL z (aB _ hz),fun e=>hnd.1 (by rw[←e];exact hz)⟩⟩;have g1:=M8 (n:=a) (n':=FC (Db (AX a t) w') y.index s.action) (y:={FB with kind:=5,index:=y.index,action:=s.action,at_:=a.num}) rfl (WR h (x:=y) (.inl hx) (.inl rfl) rfl);refine M7 g1 (fun z=> ?_) fun z _ hz=>aB _ hz;show(z∈w'.l∨G z)↔((z∈a.wait.l∨G z)∧z≠y);rw[a3 z];constructor
       ·rintro(⟨p,q⟩ | p)
        ·exact⟨.inl p,q⟩
        ·exact⟨.inr p,fun e=>hG y aH (by rw[←e];exact p)⟩
       ·rintro⟨p | p,q⟩
        ·exact .inl ⟨p,q⟩
        ·exact .inr p
   ·rename_i t _ _;refine⟨?_,fun z hz=>hL z (aB _ hz)⟩;exact Lu (P7 h fun z _ hz=>aB _ hz) rfl
  obtain⟨sub,s2,s3,s4⟩:=Sa (O:=O) a now x;have hw2:Dn (DJ O a now x).wait:=Adm hw sub s2 s3 s4 (Ye a now x);exact Fo step.1 fun hist' o'=>VG now L (DJ O a now x) hist' hw2 hnd.2 step.2 o' fun z hz=>hG z (aB _ hz)
theorem Pp{came:Int→Prop}{tries:Int}(f:Af T→AN→Af T)(hf:∀a x,∃y,(f a x).log=a.log++[y]∧y.kind=6∧y.index=x.index):∀(L:List AN) (a:Af T) (hist:List AP) (W Pd:AN→Prop),L.Nodup→(∀x∈L,W x)→DU came tries hist W Pd→FA came tries hist a (L.foldl f a) (fun z=>W z∧z∉L) Pd
 | [],a,hist,W,Pd,_,_,h=>F5 (Aem h fun z=>⟨fun e=>e.1,fun e=>⟨e,aL⟩⟩)
 | x::L,a,hist,W,Pd,hn,hL,h=>by
  have hnd:=bE.1 hn
  obtain⟨y,e,hk,hi⟩:=hf a x
  have g1:=M8 (n:=a) (n':=f a x) e (WR h (hL x aH) (.inr hk) hi)
  have g2:=Fo g1 fun hist' o'=>Pp f hf L (f a x) hist' (fun z=>W z∧z≠x) Pd hnd.2 (fun z hz=>⟨hL z (aB _ hz),fun e=>hnd.1 (by rw[←e];exact hz)⟩) o'
  refine M7 g2 (fun z=> ?_) fun _ _ hz=>hz
  constructor
  ·rintro⟨p,q⟩
   exact⟨⟨p,fun e=>q (by rw[e];exact aH)⟩,fun hz=>q (aB _ hz)⟩
  ·rintro⟨⟨p,q⟩,r⟩
   refine⟨p,fun hz=> ?_⟩
   rcases aR.1 hz with e | hz
   ·exact q e
   ·exact r hz
theorem OK{l:List AN}(h:l.Pairwise fun x y=>x.seq<y.seq):l.Nodup:=h.imp fun hxy e=>by rw[e] at hxy;omega
theorem Zi{w:Be}(hw:Dn w)(now:Int):(Cv w now).Nodup:=by
 unfold Cv;have h1:(w.l.filter fun x=>Ex now x&&DF w x).Pairwise fun x y=>x.seq<y.seq:=hw.rise.sublist aW;have h2:((w.l.filter fun x=>Ex now x&&DF w x).map (Ik w now)).Pairwise fun x y=>x.seq<y.seq:=List.pairwise_map.2 h1;exact OK h2
theorem Adc{came:Int→Prop}{hist:List AP}{n:Af T}(hw:Dn n.wait)(h:DU came n.wait.tries hist (GJ n.wait) Fm)(now:Int):FA came n.wait.tries hist n (Ct O n now) (GJ (Ct O n now).wait) Fm:=by
 obtain⟨a1,a2⟩:=LZ (O:=O) n now;have g0:FA came n.wait.tries hist n (Db (Ep O n now) (Dc n.wait now)) (GJ n.wait) Fm:=La h ((a1.mono fun y hy=>by rw[hy];decide).trans (AS.of_eq rfl));have hk:=RA hw now;have gone_not:∀x∈EE n.wait now,x∉(Dc n.wait now).l:=fun x hx hx2=>(Ajm hw hx).2 x hx2 rfl
 have g1:FA came n.wait.tries hist n (EI O n now) (fun x=>x∈(EI O n now).wait.l∨x∈EE n.wait now) Fm:=by
  unfold EI;split
  ·refine Fo g0 fun hist' o'=> ?_;exact VG (O:=O) now (Cv n.wait now) (Db (Ep O n now) (Dc n.wait now)) hist' hk (Zi hw now) (fun x hx=>(Yl hx).1) (Ael hw o' rfl) (fun x hx hg=>gone_not x hg (Yl hx).1)
  ·refine Fo g0 fun hist' o'=> ?_;exact F5 (P7 (Ael (now:=now) hw o' rfl) fun _ _ hz=>hz.elim)
 have hsub:(EI O n now).wait.l.Sublist (Dc n.wait now).l:=by
  unfold EI;split
  ·exact(ND (f:=fun n x=>DJ O n now x) (fun a x=>Sa a now x) _ (Db (Ep O n now) (Dc n.wait now))).1
  ·exact List.Sublist.refl _
 have g2:FA came n.wait.tries hist n (DZ O n now) (GJ (DZ O n now).wait) Fm:=by
  have hwl:(DZ O n now).wait=(EI O n now).wait:=by
   have:∀(L:List AN) (a:Af T),(L.foldl ED a).wait=a.wait:=fun L=>by
    induction L with
    | nil=>intro a;rfl
    | cons x L ih=>intro a;exact ih (ED a x)
   exact this _ _
  rw[hwl];unfold DZ
  have g3:=Fo g1 fun hist' o'=>Pp ED (fun a x=>⟨_,rfl,rfl,rfl⟩) (EE n.wait now) (EI O n now) hist' (fun x=>x∈(EI O n now).wait.l∨x∈EE n.wait now) Fm (by
   unfold EE;exact OK (hw.rise.sublist aW)) (fun x hx=> .inr hx) o'
  refine M7 g3 (fun z=> ?_) fun _ _ hz=>hz;constructor
  ·intro hz;exact⟨.inl hz,fun hg=>gone_not z hg (hsub.subset hz)⟩
  ·rintro⟨hz | hz,hn⟩
   ·exact hz
   ·exact absurd hz hn
 unfold Ct;split
 ·have ew:(H7 (DZ O n now)).wait=(DZ O n now).wait:=(Hd _ _ _).wait;rw[ew];exact Fo g2 fun hist' o'=>Lu o' (Ew _ _ _).1
 ·exact g2
theorem Ac7{came:Int→Prop}{hist:List AP}{n:Af T}(hw:Dn n.wait)(h:DU came n.wait.tries hist (GJ n.wait) Fm):FA came n.wait.tries hist n (Fr n) (GJ (Fr n).wait) Fm:=by
 have g:=Pp (T:=T) (fun n x=>Eb n x.index 5) (fun a x=>⟨{FB with kind:=6,index:=x.index,why:=5,at_:=a.num},rfl,rfl,rfl⟩) n.wait.l n hist (GJ n.wait) Fm (OK hw.rise) (fun x hx=>hx) h;have g2:=Fo g fun hist' o'=>Lu (n':=Fr n) o' rfl;refine M7 g2 (fun z=> ?_) fun _ _ hz=>hz;constructor
 ·intro hz;have h0:z∈([]:List AN):=hz
  cases h0
 ·rintro⟨p,q⟩;exact absurd p q
end
section
open Go.RowKit
theorem Aje{R:Rm}{N:Nat}{n:Af Aq}(h:Az N R n):Az N R {n with log:=[]}:=
 ⟨h.tab,h.room,h.act,h.hold,h.wait,h.head,h.load,h.last,by have:=h.log;show 0+n.tab.c.length≤N;omega,h.post,h.cache⟩
theorem B7.notes{w1 W:World}{g gt gh gw:Nat}{R:Rm}{n0 n:Af Aq}{M:Nat}(h:B7 w1 W g gt gh gw R n0 n M):
  Calls aP 19 #[.pointer (some ⟨g,0,none⟩)] W fun e w'=>(∃v,e=.returned v∧BJ w1.heap.size w' v n.log)∧B7 w1 w' g gt gh gw R n0 {n with log:=[]} M∧ET W w':=
 (Re h.own).mono fun _ _ q=>⟨q.1,⟨q.2.1,Aje h.inn,⟨h.par.num,h.par.life,h.par.lease,h.par.beat,h.par.cache⟩,⟨h.pk.tries,h.pk.time,h.pk.room⟩⟩,q.2.2⟩
theorem G9:41∉Zn:=by decide
theorem ZI:3∉Zn:=by decide
def Nd(f:Nat→Int):List Value:=(List.range 80).map fun j=> .int .i64 (f j)
theorem Sd(f:Nat→Int):(Nd f).length=80:=by simp[Nd]
theorem MM(f:Nat→Int){k:Nat}(hk:k<80):(Nd f)[k]?=some (.int .i64 (f k)):=by
 unfold Nd;rw[List.getElem?_map,List.getElem?_range hk];rfl
theorem Sb{f f':Nat→Int}{k:Nat}(h:∀j,j≠k→f' j=f j):(Nd f).set k (.int .i64 (f' k))=Nd f':=by
 apply List.ext_getElem?;intro j;rcases Nat.lt_or_ge j 80 with hj | hj
 ·by_cases hjk:j=k
  ·subst hjk;rw[List.getElem?_set_self (by rw[Sd];exact hj),MM f' hj]
  ·rw[List.getElem?_set_ne (fun e=>hjk e.symm),MM f hj,MM f' hj,h j hjk]
 ·rw[aT (by rw[bD,Sd];exact hj),aT (by rw[Sd];exact hj)]
theorem NL{f f':Nat→Int}(h:∀j,f' j=f j):Nd f'=Nd f:=by
 have:f'=f:=funext h;rw[this]
def Ja(cam:Nat→Int)(j:Int):Prop:=0≤j∧cam j.toNat≠0
def Lx(cam:Nat→Int)(i:Nat)(j:Nat):Int:=if j=i then 1 else cam j
theorem Agj(cam:Nat→Int)(i:Nat):(fun k=>Ja cam k∨k=(i:Int))=Ja (Lx cam i):=by
 funext k;unfold Ja Lx;apply propext;constructor
 ·rintro(⟨h1,h2⟩ | rfl)
  ·refine⟨h1,?_⟩;split
   ·decide
   ·exact h2
  ·refine⟨by omega,?_⟩;rw[if_pos (by simp)];decide
 ·rintro⟨h1,h2⟩;by_cases h:k.toNat=i
  ·right;omega
  ·rw[if_neg h] at h2;exact .inl ⟨h1,h2⟩
structure DP(B:Nat)(W:World)(pc po ps:Nat)(cam:Nat→Int)(hist:List AP):Prop where
 c:Dj 3 B W (.slice (some ⟨pc,0,none⟩) 80 80) (Nd cam)
 o:Dj 3 B W (.slice (some ⟨po,0,none⟩) 80 80) (Nd fun j=>Dz hist j)
 s:Dj 3 B W (.slice (some ⟨ps,0,none⟩) 80 80) (Nd fun j=>DS hist j)
 co:pc≠po
 cs:pc≠ps
 os:po≠ps
theorem Dj.keptD{B:Nat}{W W':World}{v:Value}{L:List Value}(h:Dj 3 B W v L)(hk:ET W W'):Dj 3 B W' v L:=
 hk.own h fun _ e ⟨_,ht,hb⟩=>ZI ((hb.one (It.own h e))▸ht)
section
variable {B:Nat} {W W':World} {pc po ps:Nat} {cam:Nat→Int} {hist:List AP}
theorem DP.below(h:DP B W pc po ps cam hist)(hb:Below W.heap.size W W'):DP B W' pc po ps cam hist:=⟨h.c.below hb,h.o.below hb,h.s.below hb,h.co,h.cs,h.os⟩
theorem DP.keptD(h:DP B W pc po ps cam hist)(hk:ET W W'):DP B W' pc po ps cam hist:=⟨h.c.keptD hk,h.o.keptD hk,h.s.keptD hk,h.co,h.cs,h.os⟩
theorem DP.again(h:DP B W pc po ps cam hist){hist':List AP}(ho:∀j:Nat,Dz hist' j=Dz hist j)(hs:∀j:Nat,DS hist' j=DS hist j):DP B W pc po ps cam hist':=
 ⟨h.c,by have:=h.o;rwa [NL (f:=fun j:Nat=>(Dz hist j:Int)) (f':=fun j:Nat=>(Dz hist' j:Int)) (fun j=>by rw[ho j])],by have:=h.s;rwa [NL (f:=fun j:Nat=>(DS hist j:Int)) (f':=fun j:Nat=>(DS hist' j:Int)) (fun j=>by rw[hs j])],h.co,h.cs,h.os⟩
theorem DP.cellC(h:DP B W pc po ps cam hist){k:Nat}(hk:k<80):W.cell? ⟨pc,k,none⟩=some (.int .i64 (cam k))∧W.frozen? ⟨pc,k,none⟩=false:=by
 obtain⟨c,h1,h2,h3⟩:=h.c.cell k hk;rw[MM _ hk] at h2;rw[h1, ←h2];exact⟨rfl,h3⟩
theorem DP.cellO(h:DP B W pc po ps cam hist){k:Nat}(hk:k<80):W.cell? ⟨po,k,none⟩=some (.int .i64 (Dz hist k))∧W.frozen? ⟨po,k,none⟩=false:=by
 obtain⟨c,h1,h2,h3⟩:=h.o.cell k hk;rw[MM _ hk] at h2;rw[h1, ←h2];exact⟨rfl,h3⟩
theorem DP.cellS(h:DP B W pc po ps cam hist){k:Nat}(hk:k<80):W.cell? ⟨ps,k,none⟩=some (.int .i64 (DS hist k))∧W.frozen? ⟨ps,k,none⟩=false:=by
 obtain⟨c,h1,h2,h3⟩:=h.s.cell k hk;rw[MM _ hk] at h2;rw[h1, ←h2];exact⟨rfl,h3⟩
theorem DP.setC(h:DP B W pc po ps cam hist)(i:Nat):DP B (W.setCell ⟨pc,i,none⟩ (.int .i64 1)) pc po ps (Lx cam i) hist:=by
 have hg:=h.c.setBelow i (.int .i64 1);refine⟨?_,h.o.grown hg fun g e=>by simp only[aJ,aC] at e;subst e;exact fun e=>h.co (aA e),h.s.grown hg fun g e=>by simp only[aJ,aC] at e;subst e;exact fun e=>h.cs (aA e),h.co,h.cs,h.os⟩;have:=h.c.set i (.int .i64 1);have e:=Sb (f:=cam) (f':=Lx cam i) (k:=i) (fun j hj=>by unfold Lx;rw[if_neg hj]);rw[show Lx cam i i=1 by unfold Lx;rw[if_pos rfl]] at e;rwa [e] at this
theorem DP.setO(h:DP B W pc po ps cam hist){y:AP}{t:Nat}(hy:y.kind=5∨y.kind=6)(ht:y.index=(t:Int)){z:Int}(hz:z=Dz hist t+1):DP B (W.setCell ⟨po,t,none⟩ (.int .i64 z)) pc po ps cam (hist++[y]):=by
 have hg:=h.o.setBelow t (.int .i64 z);refine⟨h.c.grown hg fun g e=>by simp only[aJ,aC] at e;subst e;exact fun e=>h.co (aA e).symm,?_,?_,h.co,h.cs,h.os⟩
 ·have:=h.o.set t (.int .i64 z)
  have e:=Sb (f:=fun j:Nat=>(Dz hist j:Int)) (f':=fun j:Nat=>(Dz (hist++[y]) j:Int)) (k:=t) (fun j hj=>by
   rw[Fy,if_neg (by rw[GP];rintro⟨_,q⟩;omega)];rfl)
  rw[show((Dz (hist++[y]) t:Nat):Int)=z by rw[Fy,if_pos ((GP _ _).2 ⟨hy,ht⟩),hz];rfl] at e;rwa [e] at this
 ·have:=h.s.grown hg fun g e=>by simp only[aJ,aC] at e;subst e;exact fun e=>h.os (aA e)
  rwa [NL (f:=fun j:Nat=>(DS hist j:Int)) (f':=fun j:Nat=>(DS (hist++[y]) j:Int)) (fun j=>by
   rw[F8,if_neg (by rw[GY];rintro⟨q,_⟩;rcases hy with e | e <;> omega)];rfl)]
theorem DP.setS(h:DP B W pc po ps cam hist){y:AP}{t:Nat}(hy:y.kind=9)(ht:y.index=(t:Int)){z:Int}(hz:z=DS hist t+1):DP B (W.setCell ⟨ps,t,none⟩ (.int .i64 z)) pc po ps cam (hist++[y]):=by
 have hg:=h.s.setBelow t (.int .i64 z);refine⟨h.c.grown hg fun g e=>by simp only[aJ,aC] at e;subst e;exact fun e=>h.cs (aA e).symm,?_,?_,h.co,h.cs,h.os⟩
 ·have:=h.o.grown hg fun g e=>by simp only[aJ,aC] at e;subst e;exact fun e=>h.os (aA e).symm
  rwa [NL (f:=fun j:Nat=>(Dz hist j:Int)) (f':=fun j:Nat=>(Dz (hist++[y]) j:Int)) (fun j=>by
   rw[Fy,if_neg (by rw[GP];rintro⟨q,_⟩;rcases q with e | e <;> omega)];rfl)]
 ·have:=h.s.set t (.int .i64 z)
  have e:=Sb (f:=fun j:Nat=>(DS hist j:Int)) (f':=fun j:Nat=>(DS (hist++[y]) j:Int)) (k:=t) (fun j hj=>by
   rw[F8,if_neg (by rw[GY];rintro⟨_,q⟩;omega)];rfl)
  rw[show((DS (hist++[y]) t:Nat):Int)=z by rw[F8,if_pos ((GY _ _).2 ⟨hy,ht⟩),hz];rfl] at e;rwa [e] at this
end
theorem LF{hist:List AP}{y:AP}(h5:y.kind≠5)(h6:y.kind≠6)(h9:y.kind≠9):(∀j:Nat,Dz (hist++[y]) j=Dz hist j)∧∀j:Nat,DS (hist++[y]) j=DS hist j:=
 ⟨fun j=>by rw[Fy,if_neg (by rw[GP];rintro⟨q,_⟩;rcases q with e | e;exact h5 e;exact h6 e)];rfl,fun j=>by rw[F8,if_neg (by rw[GY];rintro⟨q,_⟩;exact h9 q)];rfl⟩
theorem Um{came:Int→Prop}{tries:Int}:∀(L hist:List AP) (k:Nat) (y:AP),NS came tries hist L→L[k]?=some y→TL came tries (hist++L.take k++[y]) y
 | [],_,_,_,_,h=>by cases h
 | x::L,hist,0,y,h1,h2=>by
  obtain rfl:=aA h2
  rw[List.take_zero,aM]
  exact h1.1
 | x::L,hist,k+1,y,h1,h2=>by
  have:=Um L (hist++[x]) k y h1.2 h2
  rw[List.take_succ_cons, ←List.append_cons] at *
  exact this
def CJ.ix(x:CJ)(i:Int):CJ:={x with index:=i}
theorem Aod(x:CJ)(i:Int):(AO x).setIfInBounds 1 (.int .i64 i)=AO (x.ix i):=by
 unfold AO Le CJ.ix;rw[List.setIfInBounds_toArray];rfl
def Pu(cam:Nat→Int)(x:CJ)(i:Nat):Nat→Int:=if x.kind=1 then Lx cam i else cam
theorem Anw{R:Rm}{n:Af Aq}{cam:Nat→Int}{hist:List AP}{i:Nat}(hw:Dn n.wait)(h:DU (Ja cam) n.wait.tries hist (GJ n.wait) Fm)(hi:cam i=0)(x:CJ):
  FA (Ja (Pu cam x i)) n.wait.tries hist n (Fq R n (x.ix i)) (GJ (Fq R n (x.ix i)).wait) Fm:=by
 unfold Fq Pu;by_cases h1:x.kind=1
 ·rw[if_pos h1,if_pos (show(x.ix i).kind=1 from h1), ←Agj];exact YV hw h (fun q=>q.2 (by show cam ((i:Int)).toNat=0;rw[Int.toNat_natCast];exact hi)) _ _
 ·rw[if_neg h1,if_neg (show¬(x.ix i).kind=1 from h1)];split
  ·exact Adf hw h _ _ _
  ·split
   ·exact Adc hw h _
   ·split
    ·exact Ac7 hw h
    ·exact F5 h
theorem YU{R:Rm}{n:Af Aq}(index:Int)(hd:List Int)(now:Int)(hlog:n.log=[])(h5:∀y∈(Cl (Al R) n index hd now).log,y.index=index→y.kind≠5∧y.kind≠6):(Cl (Al R) n index hd now).wait.l≠[]:=by
 have drop:∀(m:Af Aq) (why:Int),m.log=[]→(∀y∈(Eb m index why).log,y.index=index→y.kind≠5∧y.kind≠6)→False:=fun m why hm hq=>by
  have:=(hq {FB with kind:=6,at_:=m.num,index:=index,why:=why} (by show _∈m.log++[_];rw[hm];exact aQ.2 rfl) rfl).2;exact this rfl
 have emit:∀(m:Af Aq) (a:Int),m.log=[]→(∀y∈(FC m index a).log,y.index=index→y.kind≠5∧y.kind≠6)→False:=fun m a hm hq=>by
  have:=(hq {FB with kind:=5,at_:=m.num,index:=index,action:=a} (by show _∈m.log++[_];rw[hm];exact aQ.2 rfl) rfl).1;exact this rfl
 revert h5;unfold Cl;split
 ·split
  ·rename_i t s _;split
   ·split;rename_i w sq e he;have he':Fk n.wait index hd now=(w,sq,e):=he;split
    ·rename_i h0;intro _;rw[(EY (Db (AX n t) w) sq index hd 1 s).wait];show w.l≠[];unfold Fk at he';split at he'
     ·simp only[aO] at he';obtain⟨_,_,rfl⟩:=he';exact absurd h0 (by decide)
     ·simp only[aO] at he';obtain⟨rfl,_,_⟩:=he';unfold JM;simp
    ·intro hq;exact(drop (AX n t) _ hlog hq).elim
   ·intro hq;exact(emit (AX n t) _ hlog hq).elim
  ·rename_i t _ _;intro hq;exact(drop (AX n t) _ hlog hq).elim
 ·intro hq;exact(drop n _ hlog hq).elim
theorem Ap2{cam:Nat→Int}(hc:∀j,cam j=0){tries:Int}{w:Be}(hw:w.l=[]):DU (Ja cam) tries [] (GJ w) Fm where
 dist x y hx:=by unfold GJ at hx;rw[hw] at hx;exact absurd hx aL
 wait x hx:=by unfold GJ at hx;rw[hw] at hx;exact absurd hx aL
 over j _ hj:=absurd (hc _) hj.2
 none_ j _:=⟨rfl,rfl,fun x hx=>by unfold GJ at hx;rw[hw] at hx;exact absurd hx aL⟩
section
variable {w1 W:World} {g gt gh gw:Nat} {R:Rm} {n0 n:Af Aq} {M:Nat} {p c:Nat} {L:List Value}
theorem RQ(hv:Dj 3 w1.heap.size W (.slice (some ⟨p,0,none⟩) 80 c) L)(k:Nat)(z:Value):As (Cq p) W (W.setCell ⟨p,k,none⟩ z):=As.of_grown (hv.setBelow k z) fun _ e=>(aA e).symm
theorem B7.setInt(h:B7 w1 W g gt gh gw R n0 n M)(hv:Dj 3 w1.heap.size W (.slice (some ⟨p,0,none⟩) 80 c) L)(k:Nat)(z:Value):B7 w1 (W.setCell ⟨p,k,none⟩ z) g gt gh gw R n0 n M:=by
 obtain⟨⟨r,h1,h2⟩,h3,h4,h5⟩:=h;have hk:=RQ hv k z;have hp:(bC (some ⟨p,0,none⟩) 80 c).ownBlock=some p:=rfl;refine⟨⟨r,h1.kept hk fun j hj e=> ?_,h2.trans (hk.below (fun j e=> ?_) h2.size)⟩,h3,h4,h5⟩
 ·obtain rfl:j=p:=e;obtain⟨t,ht,hb⟩:=h1.ndTy j hj;exact ZI ((hb.one (It.own hv hp))▸ht)
 ·obtain rfl:j=p:=e;exact(hv.ge j hp).1
theorem GD(hv:Dj 3 w1.heap.size W (.slice (some ⟨p,0,none⟩) 80 c) L)(k:Nat)(z:Value){b:Nat}{cs:Array Value}{t:TypeId}{fr:Nat×Nat}(hb:W.heap[b]?=some (.cells cs t fr))(ht:t≠3):(W.setCell ⟨p,k,none⟩ z).heap[b]?=some (.cells cs t fr):=by
 have hp:(bC (some ⟨p,0,none⟩) 80 c).ownBlock=some p:=rfl;refine(RQ hv k z).heap hb fun e=> ?_;obtain rfl:b=p:=e;exact ht (It.one ⟨_,_,hb⟩ (It.own hv hp))
theorem KQ{B:Nat}{v:Value}{C:List AP}(hn:BJ B W v C)(hv:Dj 3 w1.heap.size W (.slice (some ⟨p,0,none⟩) 80 c) L)(k:Nat)(z:Value):BJ B (W.setCell ⟨p,k,none⟩ z) v C:=by
 have hp:(bC (some ⟨p,0,none⟩) 80 c).ownBlock=some p:=rfl;refine hn.kept (RQ hv k z) fun j e e'=> ?_;obtain rfl:j=p:=e';have:=(It.own hn e).one (It.own hv hp);exact absurd this (by decide)
end
end
end Go.Proofs.YtbhkoipcpcoooaaGreat
