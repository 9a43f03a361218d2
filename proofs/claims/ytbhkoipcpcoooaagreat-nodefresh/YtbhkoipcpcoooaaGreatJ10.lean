import Derived.Test.YtbhkoipcpcoooaaGreatJ9
import Derived.Test.YtbhkoipcpcoooaaGreatJ3
import Derived.Test.YtbhkoipcpcoooaaGreatJ1
import Derived.StillTail
import Derived.Test.YtbhkoipcpcoooaaGreatJ2
import Derived.BigRegion
import Derived.Test.YtbhkoipcpcoooaaGreatJ5
import Derived.Deep.RegionLaw
import Derived.Shelf.RegionOpenPlain
import Derived.BigQuiet
import Derived.Great.Walk
namespace Go.Proofs.YtbhkoipcpcoooaaGreat
set_option maxRecDepth 20000
set_option maxHeartbeats 64000000
open Go
open Go.Proofs.Tryz renaming prog → aA, ntmps148 → aH, func148 → aI, ntmps152 → aK, func152 → aO, ntmps144 → aR, ntmps177 → aT, func144 → aW, func177 → aX, underlying62 → aZ
open Go.RowKit.Below renaming refl → aB
open _root_.Nat renaming le_refl → aC
open Go.Result renaming andThen_ok → aD
open Go.Sem renaming run_bind → aG, run_pure → aM
open Go.Region renaming wanted → aJ
open _root_.List renaming map_toArray → aN, map_nil → aY
open Go.World renaming setCell → aV, frozen? → bD
open Go.Builtin renaming min_ → bE, min2 → bF, max_ → bG, max2 → bH
section
open Go.RowKit
def hoA(s:Fd):Array Value:=#[.int .i64 s.inc,.int .i64 s.floor,.int .i64 s.top,.int .i64 s.lm,.int .i64 s.lo,.int .i64 s.hm,.int .i64 s.ho,.int .i64 s.use,.int .i64 s.said]
def Gc(w:World)(g:Nat)(s:Fd):Prop:=w.heap[g]?=some (.cells (hoA s) 161 (0,0))
structure HoF(w:World)(g:Nat)(s:Fd):Prop where
 c0:w.cell? ⟨g,0,none⟩=some (.int .i64 s.inc)
 c1:w.cell? ⟨g,1,none⟩=some (.int .i64 s.floor)
 c2:w.cell? ⟨g,2,none⟩=some (.int .i64 s.top)
 c3:w.cell? ⟨g,3,none⟩=some (.int .i64 s.lm)
 c4:w.cell? ⟨g,4,none⟩=some (.int .i64 s.lo)
 c5:w.cell? ⟨g,5,none⟩=some (.int .i64 s.hm)
 c6:w.cell? ⟨g,6,none⟩=some (.int .i64 s.ho)
 c7:w.cell? ⟨g,7,none⟩=some (.int .i64 s.use)
 c8:w.cell? ⟨g,8,none⟩=some (.int .i64 s.said)
 fz:∀k,w.frozen? ⟨g,k,none⟩=false
theorem Gc.f{w:World}{g:Nat}{s:Fd}(h:Gc w g s):HoF w g s:=
 ⟨by rw[cell_of_row w g _ _ _ _ h];rfl,by rw[cell_of_row w g _ _ _ _ h];rfl,by rw[cell_of_row w g _ _ _ _ h];rfl,by rw[cell_of_row w g _ _ _ _ h];rfl,by rw[cell_of_row w g _ _ _ _ h];rfl,by rw[cell_of_row w g _ _ _ _ h];rfl,by rw[cell_of_row w g _ _ _ _ h];rfl,by rw[cell_of_row w g _ _ _ _ h];rfl,by rw[cell_of_row w g _ _ _ _ h];rfl,fun k=>by rw[bD,show w.heap[g]?=_ from h];simp⟩
theorem Gc.below{w w':World}{g:Nat}{s:Fd}(h:Gc w g s)(hb:Below w.heap.size w w'):Gc w' g s:=(hb.block g (gS h)).trans h
theorem Gc.lt{w:World}{g:Nat}{s:Fd}(h:Gc w g s):g<w.heap.size:=(gS h)
def EF(w w':World)(g:Nat)(s:Fd):Prop:=Gc w' g s∧As (Cq g) w w'
theorem Gc.stay{w w':World}{g:Nat}{s:Fd}(h:Gc w g s)(hb:Below w.heap.size w w'):EF w w' g s:=⟨h.below hb,As.of_below hb⟩
theorem EF.trans{w w1 w2:World}{g:Nat}{s s':Fd}(h:EF w w1 g s)(h':EF w1 w2 g s'):EF w w2 g s':=⟨h'.1,h.2.trans h'.2 fun _ e=> .inl e⟩
theorem EF.add{w w1 w2:World}{g:Nat}{s:Fd}(h:EF w w1 g s)(hb:Below w1.heap.size w1 w2):EF w w2 g s:=h.trans (h.1.stay hb)
theorem EF.pre{w w1 w2:World}{g:Nat}{s:Fd}(hb:Below w.heap.size w w1)(h:EF w1 w2 g s):EF w w2 g s:=⟨h.1,h.2.pre hb⟩
def Arf:Ag:=⟨159,2⟩
theorem Acy:Arf.Ok:=⟨⟨_,Tryz.underlying159,rfl⟩,by kernel_rfl⟩
def itV(m o:Int):Array Value:=#[.int .i64 m,.int .i64 o]
theorem Ph(w:World)(g:Nat)(s:Fd)(h:Gc w g s)(e:Int):
  Calls aA 144 #[.pointer (some ⟨g,0,none⟩),.int .i64 e] w fun x w'=>x=.returned (.agg #[.int .i64 (Dx s e).1,.int .i64 (Dx s e).2])∧Below w.heap.size w w':=by
 have F:=h.f;have c1:=F.c1;have c2:=F.c2;have c3:=F.c3;have c4:=F.c4;have c5:=F.c5;have c6:=F.c6;have hg:=h.lt;unfold Dx;by_cases h1:e=s.floor
 ·rw[if_pos h1];clear F h;go_enter aW,aR;go_wp2_with fail;exact Fa Acy (p:=4) rfl rfl w.heap.size rfl (itV s.lm s.lo) rfl (Ab _ _ _ rfl) ⟨rfl,(aB _ _).alloc (aC _) _⟩
 ·rw[if_neg h1];by_cases h2:e=s.top
  ·rw[if_pos h2];clear F h;go_enter aW,aR;go_wp2_with fail;exact Fa Acy (p:=4) rfl rfl w.heap.size rfl (itV s.hm s.ho) rfl (Ab _ _ _ rfl) ⟨rfl,(aB _ _).alloc (aC _) _⟩
  ·rw[if_neg h2];clear F h;go_enter aW,aR;go_wp2_with fail;exact Fa Acy (p:=4) rfl rfl w.heap.size rfl (itV 0 0) rfl (Ab _ _ _ rfl) ⟨rfl,(aB _ _).alloc (aC _) _⟩
theorem Tv(w:World)(g:Nat)(f t:Int)(c1:w.cell? ⟨g,1,none⟩=some (.int .i64 f))(c2:w.cell? ⟨g,2,none⟩=some (.int .i64 t))(e:Int):
  Calls aA 177 #[.pointer (some ⟨g,0,none⟩),.int .i64 e] w fun x w'=>x=.returned (.bool (decide (e=f∨e=t)))∧w'=w:=by
 by_cases h1:e=f
 ·rw[decide_eq_true (Or.inl h1)];have d1:(e==f)=true:=by simpa using h1
  clear h1;go_enter aX,aT;go_wp2_with fail;go_ret;exact⟨rfl,rfl⟩
 ·have d1:(e==f)=false:=by simpa using h1
  by_cases h2:e=t
  ·rw[decide_eq_true (Or.inr h2)];have d2:(e==t)=true:=by simpa using h2
   clear h1 h2;go_enter aX,aT;go_wp2_with fail;go_ret;exact⟨rfl,rfl⟩
  ·rw[decide_eq_false (fun x=>x.elim h1 h2)];have d2:(e==t)=false:=by simpa using h2
   clear h1 h2;go_enter aX,aT;go_wp2_with fail;go_ret;exact⟨rfl,rfl⟩
theorem Sw{ops:Array Oper}{o:Oper}{a:Act}{w:World}{K:Act→World→Prop}{Q:Exit→Act→World→Prop}{R:Prop}{E:El}(H:E.Ok)
  (hgd:o.guard=none) (s x:Operand) (hop:o.op=Op.call {callee:=Callee.builtin Builtin.append,args:=#[s,x],argTypes:=#[E.slice,E.slice]})
  (g n cap:Nat) (hs:a.eval s=.slice (some ⟨g,0,none⟩) n cap) (cur:Array Value) (hg:w.heap[g]?=some (.cells cur E.elem (0,0)))
  (ad:Addr) (m c:Nat) (news:List Value) (hx:a.eval x=.slice (some ad) m c) (hn:news.length=m*E.size) (hc:∀j u,news[j]?=some u→w.cell? (ad.add j)=some u) (h1c:∀u∈news,u.oneCell'=true)
  (hroom:n+m≤cap) (hfit:n*E.size+news.length≤cur.size)
  (hK:K (a.put o.dst (.slice (some ⟨g,0,none⟩) (n+m) cap)) (w.setRow g (cur.toList.take (n*E.size)++news++cur.toList.drop (n*E.size+news.length)).toArray)):
  if aJ o (yielded ops a.tmps)=true then Oper.wp aA o a w K Q else R:=by
 have hw:aJ o (yielded ops a.tmps)=true:=by simp[aJ,hgd]
 rw[if_pos hw];obtain⟨i0,hi,hz0,hz1,hz2⟩:=H.info;have hrun:=run_append_room (P:=aA) w E.slice o.type E.elem i0 H.hs hi g n cap cur hg ad m c news (by rw[hz1];exact hn) hc h1c hroom (by rw[hz1];exact hfit);rw[hz1] at hrun;unfold Oper.wp execOp;simp only[hop,resolve,invoke,builtin,aG,aM,aD,aN,List.map_cons,aY,hs,hx,hrun];exact hK
theorem EF.setC{w w':World}{g:Nat}{s:Fd}(h:EF w w' g s)(k:Nat)(v:Value)(s':Fd)(hs:(hoA s).setIfInBounds k v=hoA s'):EF w (w'.setCell ⟨g,k,none⟩ v) g s':=by
 refine⟨?_,h.2.trans (Y:=Cq g) ⟨rfl,rfl,rfl,by simp[aV],fun k' _ e=>heap_setCell_other w' ⟨g,k,none⟩ k' _ e⟩ fun _ e=> .inl e⟩;unfold Gc;rw[heap_setCell_same w' g k _ _ _ h.1,hs]
theorem WY(w:World)(g:Nat)(s:Fd)(h:Gc w g s)(f t:Int):
  Calls aA 198 #[.pointer (some ⟨g,0,none⟩),.int .i64 f,.int .i64 t] w fun x w'=>x=.returned (.tuple #[])∧EF w w' g (Nt s f t):=by
 obtain⟨a1,ha1⟩:∃a,a=(Dx s f).1:=⟨_,rfl⟩;obtain⟨a2,ha2⟩:∃a,a=(Dx s f).2:=⟨_,rfl⟩;obtain⟨a3,ha3⟩:∃a,a=(Dx s t).1:=⟨_,rfl⟩;obtain⟨a4,ha4⟩:∃a,a=(Dx s t).2:=⟨_,rfl⟩
 have C1:Hid (∀W,Below w.heap.size w W→Calls aA 144 #[.pointer (some ⟨g,0,none⟩),.int .i64 f] W fun x w'=>x=.returned (.agg #[.int .i64 a1,.int .i64 a2])∧Below W.heap.size W w'):=by
  intro W hb;rw[ha1,ha2];exact Ph W g s (h.below hb) f
 have C2:Hid (∀W,Below w.heap.size w W→Calls aA 144 #[.pointer (some ⟨g,0,none⟩),.int .i64 t] W fun x w'=>x=.returned (.agg #[.int .i64 a3,.int .i64 a4])∧Below W.heap.size W w'):=by
  intro W hb;rw[ha3,ha4];exact Ph W g s (h.below hb) t
 have HF:Hid (∀W,Below w.heap.size w W→Gc W g s):=fun W hb=>h.below hb;have B0:Hid (Below w.heap.size w w.drew):=(aB _ _).drew;unfold Nt;rw[←ha1, ←ha2, ←ha3, ←ha4];clear ha1 ha2 ha3 ha4 h;obtain⟨u,hu⟩:=eX ((if s.use=f∨s.use=t then s.use else 0));obtain⟨v,hv⟩:=eX ((if s.use=f∨s.use=t then s.said else 0));rw[←hu, ←hv];have HU:Hid (u=(if s.use=f∨s.use=t then s.use else 0)∧v=(if s.use=f∨s.use=t then s.said else 0)):=⟨hu,hv⟩;clear hu hv;go_enter Tryz.func198,Tryz.ntmps198;go_wp2_with (go_at_call 144;refine Ak ?_);unfold AA;refine(C1.out w (aB _ _)).mono ?_;rintro e w1 ⟨rfl,hb1⟩;go_wp2_with (go_at_call 144;refine Ak ?_);unfold AA;refine(C2.out w1 hb1).mono ?_;rintro e w2 ⟨rfl,hb2⟩;have B2:Hid (Below w.heap.size w w2):=BL hb1 hb1.size hb2;have V2:Hid (Gc w2 g s):=HF.out _ B2.out;have c1:=V2.out.f.c1;have c2:=V2.out.f.c2;have c3:=V2.out.f.c3;have c4:=V2.out.f.c4;have c5:=V2.out.f.c5;have c6:=V2.out.f.c6;have c7:=V2.out.f.c7;have c8:=V2.out.f.c8;have fz:=V2.out.f.fz;clear hb1 hb2 C1 C2;go_wp2_with (go_at_call 177;refine Ak ?_);unfold AA
 have T6:=((((((V2.out.stay (aB _ _)).setC 3 (.int .i64 a1) ⟨s.inc,s.floor,s.top,a1,s.lo,s.hm,s.ho,s.use,s.said⟩ rfl).setC 4 (.int .i64 a2) ⟨s.inc,s.floor,s.top,a1,a2,s.hm,s.ho,s.use,s.said⟩ rfl).setC 5 (.int .i64 a3) ⟨s.inc,s.floor,s.top,a1,a2,a3,s.ho,s.use,s.said⟩ rfl).setC 6 (.int .i64 a4) ⟨s.inc,s.floor,s.top,a1,a2,a3,a4,s.use,s.said⟩ rfl).setC 1 (.int .i64 f) ⟨s.inc,f,s.top,a1,a2,a3,a4,s.use,s.said⟩ rfl).setC 2 (.int .i64 t) ⟨s.inc,f,t,a1,a2,a3,a4,s.use,s.said⟩ rfl;obtain⟨W,hW⟩:∃W,(((((((w2.setCell ⟨g,3,none⟩ (.int .i64 a1)).setCell ⟨g,4,none⟩ (.int .i64 a2)).setCell ⟨g,5,none⟩ (.int .i64 a3)).setCell ⟨g,6,none⟩ (.int .i64 a4)).setCell ⟨g,1,none⟩ (.int .i64 f)).setCell ⟨g,2,none⟩ (.int .i64 t)))=W:=⟨_,rfl⟩;rw[hW] at T6 ⊢;have HT:Hid (EF w W g ⟨s.inc,f,t,a1,a2,a3,a4,s.use,s.said⟩):=EF.pre B2.out T6;have F6:=T6.1.f;have HC:=Tv W g f t F6.c1 F6.c2 s.use;have k7:=F6.c7;have k8:=F6.c8;have fz':=F6.fz;clear hW T6 F6 c1 c2 c3 c4 c5 c6 c7 c8 fz V2 B2 HF;by_cases hc:s.use=f∨s.use=t
 ·rw[decide_eq_true hc] at HC
  have HU2:Hid (u=s.use∧v=s.said):=by
   have:=HU.out;rw[if_pos hc,if_pos hc] at this;exact this
  clear hc;refine HC.mono ?_;rintro e w3 ⟨rfl,h3⟩;have h3:=h3.symm;subst h3;go_wp2_with fail;refine bodyPost_end (results_none rfl _ _ _) rfl ?_;exact⟨rfl,by rw[HU2.out.1,HU2.out.2];exact HT.out⟩
 ·rw[decide_eq_false hc] at HC
  have HU2:Hid (u=0∧v=0):=by
   have:=HU.out;rw[if_neg hc,if_neg hc] at this;exact this
  clear hc;refine HC.mono ?_;rintro e w3 ⟨rfl,h3⟩;have h3:=h3.symm;subst h3;go_wp2_with fail;refine bodyPost_end (results_none rfl _ _ _) rfl ?_;exact⟨rfl,by rw[HU2.out.1,HU2.out.2];exact(HT.out.setC 7 (.int .i64 0) ⟨s.inc,f,t,a1,a2,a3,a4,0,s.said⟩ rfl).setC 8 (.int .i64 0) ⟨s.inc,f,t,a1,a2,a3,a4,0,0⟩ rfl⟩
theorem Zk{ops:Array Oper}{rest:List Oper}{o:Oper}{a:Act}{w:World}{Q:Exit→Act→World→Prop}(hgd:o.guard=none)(x y:Operand)(ho:o.op=.call {callee:=.builtin .min,args:=#[x,y],argTypes:=#[3,3]})
  (p q r:Int) (hx:a.eval x=.int .i64 p) (hy:a.eval y=.int .i64 q) (hr:r=min p q) (h:wpList aA ops Q rest (a.put o.dst (.int .i64 r)) w):wpList aA ops Q (o::rest) a w:=by
 obtain⟨dst,op,ty,pos,after,guard⟩:=o;subst ho
 have hr:(execOp a.eval ⟨dst,.call {callee:=.builtin .min,args:=#[x,y],argTypes:=#[3,3]},ty,pos,after,guard⟩).run aA w=.ok (.value (.int .i64 r)) w:=by
  subst hr;by_cases h1:p≤q
  ·rw[show min p q=p by omega];unfold execOp;simp[resolve,invoke,builtin,hx,hy,bE,bF]
   all_goals omega
  ·rw[show min p q=q by omega];unfold execOp;simp[resolve,invoke,builtin,hx,hy,bE,bF]
   all_goals omega
 refine wpList_plain hgd fun K hK=> ?_;unfold Oper.wp;rw[hr];exact hK _ _ h
theorem QC{ops:Array Oper}{rest:List Oper}{o:Oper}{a:Act}{w:World}{Q:Exit→Act→World→Prop}(hgd:o.guard=none)(x y:Operand)(ho:o.op=.call {callee:=.builtin .max,args:=#[x,y],argTypes:=#[3,3]})
  (p q r:Int) (hx:a.eval x=.int .i64 p) (hy:a.eval y=.int .i64 q) (hr:r=max p q) (h:wpList aA ops Q rest (a.put o.dst (.int .i64 r)) w):wpList aA ops Q (o::rest) a w:=by
 obtain⟨dst,op,ty,pos,after,guard⟩:=o;subst ho
 have hr:(execOp a.eval ⟨dst,.call {callee:=.builtin .max,args:=#[x,y],argTypes:=#[3,3]},ty,pos,after,guard⟩).run aA w=.ok (.value (.int .i64 r)) w:=by
  subst hr;by_cases h1:q≤p
  ·rw[show max p q=p by omega];unfold execOp;simp[resolve,invoke,builtin,hx,hy,bG,bH]
   all_goals omega
  ·rw[show max p q=q by omega];unfold execOp;simp[resolve,invoke,builtin,hx,hy,bG,bH]
   all_goals omega
 refine wpList_plain hgd fun K hK=> ?_;unfold Oper.wp;rw[hr];exact hK _ _ h
theorem Aes(w:World)(inc:Int):
  Calls aA 41 #[.int .i64 inc] w fun x w'=>x=.returned (.pointer (some ⟨w.heap.size,0,none⟩))∧Gc w' w.heap.size ⟨inc,0,0,0,0,0,0,0,0⟩∧Below w.heap.size w w':=by
 go_enter Tryz.func41,Tryz.ntmps41;go_wp2_with fail;go_ret;exact⟨rfl,Ab _ _ _ rfl,(aB _ _).alloc (aC _) _⟩
theorem An7(w:World)(g:Nat)(s:Fd)(h:Gc w g s):
  Calls aA 57 #[.pointer (some ⟨g,0,none⟩)] w fun x w'=>x=.returned (.int .i64 s.inc)∧w'=w:=by
 have c:=h.f.c0;clear h;go_enter Tryz.func57,Tryz.ntmps57;go_wp2_with fail;go_ret;exact⟨rfl,rfl⟩
theorem Ag1(w:World)(g:Nat)(s:Fd)(h:Gc w g s):
  Calls aA 60 #[.pointer (some ⟨g,0,none⟩)] w fun x w'=>x=.returned (.int .i64 s.floor)∧w'=w:=by
 have c:=h.f.c1;clear h;go_enter Tryz.func60,Tryz.ntmps60;go_wp2_with fail;go_ret;exact⟨rfl,rfl⟩
theorem Alq(w:World)(g:Nat)(s:Fd)(h:Gc w g s):
  Calls aA 61 #[.pointer (some ⟨g,0,none⟩)] w fun x w'=>x=.returned (.int .i64 s.top)∧w'=w:=by
 have c:=h.f.c2;clear h;go_enter Tryz.func61,Tryz.ntmps61;go_wp2_with fail;go_ret;exact⟨rfl,rfl⟩
theorem Alo(w:World)(g:Nat)(s:Fd)(h:Gc w g s):
  Calls aA 58 #[.pointer (some ⟨g,0,none⟩)] w fun x w'=>x=.returned (.int .i64 s.use)∧w'=w:=by
 have c:=h.f.c7;clear h;go_enter Tryz.func58,Tryz.ntmps58;go_wp2_with fail;go_ret;exact⟨rfl,rfl⟩
theorem Rq(w:World)(g:Nat)(s:Fd)(h:Gc w g s)(e:Int):
  Calls aA 113 #[.pointer (some ⟨g,0,none⟩),.int .i64 e] w fun x w'=>x=.returned (.tuple #[.int .i64 (Dx s e).1,.int .i64 (Dx s e).2])∧Below w.heap.size w w':=by
 have HH:=Ph w g s h e;obtain⟨a,ha⟩:=eX ((Dx s e).1);obtain⟨b,hb⟩:=eX ((Dx s e).2);rw[←ha, ←hb] at HH ⊢;clear h ha hb;go_enter Tryz.func113,Tryz.ntmps113;go_wp2_with (go_at_call 144;refine HH.mono ?_;rintro e w1 ⟨rfl,hb1⟩);have B1:Hid (Below w.heap.size w (w1.alloc (.cells #[.int .i64 a,.int .i64 b] 159))):=hb1.alloc hb1.size _;go_region;go_wp2_with fail;go_ret2;exact⟨rfl,B1.out.drew⟩
theorem Tm(w:World)(g:Nat)(s:Fd)(h:Gc w g s)(e:Int):
  Calls aA 153 #[.pointer (some ⟨g,0,none⟩),.int .i64 e] w fun x w'=>x=.returned (.bool (decide (0<(Dx s e).1)&&decide ((Dx s e).1=(Dx s e).2)))∧Below w.heap.size w w':=by
 have HH:=Rq w g s h e;obtain⟨a,ha⟩:=eX ((Dx s e).1);obtain⟨b,hb⟩:=eX ((Dx s e).2);rw[←ha, ←hb] at HH ⊢;clear h ha hb;by_cases h1:0<a
 ·rw[decide_eq_true h1,Bool.true_and];go_enter Tryz.func153,Tryz.ntmps153;go_wp2_with (go_at_call 113;refine HH.mono ?_;rintro e w1 ⟨rfl,hb1⟩);go_ret;exact⟨FH (by by_cases h:a=b <;> simp[h]),hb1⟩
 ·rw[decide_eq_false h1,Bool.false_and];go_enter Tryz.func153,Tryz.ntmps153;go_wp2_with (go_at_call 113;refine HH.mono ?_;rintro e w1 ⟨rfl,hb1⟩);go_ret;exact⟨rfl,hb1⟩
theorem Aef(w:World)(g:Nat)(s:Fd)(h:Gc w g s)(e m o:Int):
  Calls aA 178 #[.pointer (some ⟨g,0,none⟩),.int .i64 e,.agg #[.int .i64 m,.int .i64 o]] w fun x w'=>x=.returned (.tuple #[])∧EF w w' g (J1 s e m o):=by
 obtain⟨W,hW⟩:=eX (w.alloc (.cells #[.int .i64 m,.int .i64 o] 159));have B0:Hid (Below w.heap.size w W):=by show Below _ _ _;rw[hW];exact(aB _ _).alloc (aC _) _
 have V0:Hid (Gc W g s):=h.below B0.out;have F:=V0.out.f;have c1:=F.c1;have c3:=F.c3;have c4:=F.c4;have c5:=F.c5;have c6:=F.c6;have fz:=F.fz;have T0:=V0.out.stay (aB _ _);rw[hW] at c1 c3 c4 c5 c6 fz;unfold J1;by_cases h1:e=s.floor
 ·have d1:(e==s.floor)=true:=by simpa using h1
  rw[if_pos h1];have T2:Hid (EF w ((W.setCell ⟨g,3,none⟩ (.int .i64 m)).setCell ⟨g,4,none⟩ (.int .i64 o)) g {s with lm:=m,lo:=o}):=EF.pre B0.out ((T0.setC 3 (.int .i64 m) {s with lm:=m} rfl).setC 4 (.int .i64 o) {s with lm:=m,lo:=o} rfl);rw[hW] at T2;clear h1 F T0 h V0 B0 hW;go_enter Tryz.func178,Tryz.ntmps178;go_wp2_with fail;refine bodyPost_ret (results_none rfl _ _ _) rfl ?_;exact⟨rfl,T2.out⟩
 ·have d1:(e==s.floor)=false:=by simpa using h1
  rw[if_neg h1];have T2:Hid (EF w ((W.setCell ⟨g,5,none⟩ (.int .i64 m)).setCell ⟨g,6,none⟩ (.int .i64 o)) g {s with hm:=m,ho:=o}):=EF.pre B0.out ((T0.setC 5 (.int .i64 m) {s with hm:=m} rfl).setC 6 (.int .i64 o) {s with hm:=m,ho:=o} rfl);rw[hW] at T2;clear h1 F T0 h V0 B0 hW;go_enter Tryz.func178,Tryz.ntmps178;go_wp2_with fail;refine bodyPost_end (results_none rfl _ _ _) rfl ?_;exact⟨rfl,T2.out⟩
theorem Q6(w:World)(g:Nat)(s:Fd)(h:Gc w g s)(f:Int):
  Calls aA 175 #[.pointer (some ⟨g,0,none⟩),.int .i64 f] w fun x w'=>x=.returned (.tuple #[])∧EF w w' g (Ov s f):=by
 have c1:=h.f.c1;have c2:=h.f.c2;unfold Ov;by_cases h1:s.floor<f
 ·rw[if_pos h1];obtain⟨M,hM⟩:=eX (max f s.top);have HMX:Hid _:=hM;have HM:=WY w g s h f (max f s.top);rw[←hM] at HM ⊢;have d1:f>s.floor:=h1;clear hM;clear h1 h;go_enter Tryz.func175,Tryz.ntmps175
  go_wp2_with (first
   | (refine QC rfl (.tmp 12) (.tmp 16) rfl f s.top M rfl rfl HMX.out ?_)
   | (go_at_call 198;refine HM.mono ?_;rintro e w1 ⟨rfl,hb1⟩))
  refine bodyPost_end (results_none rfl _ _ _) rfl ?_;exact⟨rfl,hb1⟩
 ·rw[if_neg h1];have d1:¬f>s.floor:=h1;have HS:Hid (EF w w g s):=h.stay (aB _ _);clear h1 h;go_enter Tryz.func175,Tryz.ntmps175;go_wp2_with fail;refine bodyPost_end (results_none rfl _ _ _) rfl ?_;exact⟨rfl,HS.out⟩
theorem Yw(w:World)(g:Nat)(s:Fd)(h:Gc w g s)(e:Int):
  Calls aA 176 #[.pointer (some ⟨g,0,none⟩),.int .i64 e] w fun x w'=>x=.returned (.tuple #[])∧EF w w' g (Ow s e):=by
 have c1:=h.f.c1;have c2:=h.f.c2;unfold Ow;by_cases h1:s.top<e
 ·rw[if_pos h1];have HM:=WY w g s h s.floor e;have d1:e>s.top:=h1;clear h1 h;go_enter Tryz.func176,Tryz.ntmps176;go_wp2_with (go_at_call 198;refine HM.mono ?_;rintro e w1 ⟨rfl,hb1⟩);refine bodyPost_end (results_none rfl _ _ _) rfl ?_;exact⟨rfl,hb1⟩
 ·rw[if_neg h1];have d1:¬e>s.top:=h1;have HS:Hid (EF w w g s):=h.stay (aB _ _);clear h1 h;go_enter Tryz.func176,Tryz.ntmps176;go_wp2_with fail;refine bodyPost_end (results_none rfl _ _ _) rfl ?_;exact⟨rfl,HS.out⟩
def FY(w:World)(g:Nat)(h:Bb):Prop:=∃s,Gc w g s∧Ni s h
def IQ(w w':World)(g:Nat)(h:Bb):Prop:=FY w' g h∧As (Cq g) w w'
theorem FY.below{w w':World}{g:Nat}{h:Bb}(hV:FY w g h)(hb:Below w.heap.size w w'):FY w' g h:=by
 obtain⟨s,h1,h2⟩:=hV;exact⟨s,h1.below hb,h2⟩
theorem FY.stay{w w':World}{g:Nat}{h:Bb}(hV:FY w g h)(hb:Below w.heap.size w w'):IQ w w' g h:=⟨hV.below hb,As.of_below hb⟩
theorem FY.lt{w:World}{g:Nat}{h:Bb}(hV:FY w g h):g<w.heap.size:=by
 obtain⟨s,h1,h2⟩:=hV;exact h1.lt
theorem FY.kept{X:Nat→Prop}{w w':World}{g:Nat}{h:Bb}(hV:FY w g h)(hk:As X w w')(hX:¬X g):FY w' g h:=by
 obtain⟨s,h1,h2⟩:=hV;exact⟨s,hk.heap h1 hX,h2⟩
theorem Aj7(w:World)(g:Nat)(h:Bb)(hV:FY w g h)(fl ep at_ of:Int)(hof:of≤9223372036854775807):
  Calls aA 148 #[.pointer (some ⟨g,0,none⟩),.int .i64 fl,.int .i64 ep,.int .i64 at_,.int .i64 of] w fun x w'=>x=.returned (.int .i64 (DK h fl ep at_ of).2)∧IQ w w' g (DK h fl ep at_ of).1:=by
 have ST:Hid (IQ w w g h):=hV.stay (aB _ _);obtain⟨s,hs,hr⟩:=hV;unfold DK;by_cases h0:fl<0∨ep<1∨at_<0∨of≤at_
 ·rw[if_pos h0];clear hs hr;by_cases h1:fl<0
  ·clear h0;go_enter aI,aH;go_wp2_with fail;go_ret;exact⟨rfl,ST.out⟩
  by_cases h2:ep<1
  ·clear h0;go_enter aI,aH;go_wp2_with fail;go_ret;exact⟨rfl,ST.out⟩
  by_cases h3:at_<0
  ·clear h0;go_enter aI,aH;go_wp2_with fail;go_ret;exact⟨rfl,ST.out⟩
  have h4:of≤at_:=by omega
  clear h0;go_enter aI,aH;go_wp2_with fail;go_ret;exact⟨rfl,ST.out⟩
 ·rw[if_neg h0];have r1:=Vp hr fl;have C1:=Q6 w g s hs fl;obtain⟨s1,hs1⟩:=eX (Ov s fl);rw[←hs1] at r1 C1;have r2:=Ag8 r1 ep;have C2:Hid (∀W,Gc W g s1→Calls aA 176 #[.pointer (some ⟨g,0,none⟩),.int .i64 ep] W fun x w'=>x=.returned (.tuple #[])∧EF W w' g (Ow s1 ep)):=fun W hW=>Yw W g s1 hW ep;obtain⟨s2,hs2⟩:=eX (Ow s1 ep);rw[←hs2] at r2 C2;obtain⟨h2,hh2⟩:=eX (EM (Dp h fl) ep);rw[←hh2] at r2 ⊢;have e2:=r2.held ep;have C3:Hid (∀W,Gc W g s2→Calls aA 144 #[.pointer (some ⟨g,0,none⟩),.int .i64 ep] W fun x w'=>x=.returned (.agg #[.int .i64 (Dx s2 ep).1,.int .i64 (Dx s2 ep).2])∧Below W.heap.size W w'):=fun W hW=>Ph W g s2 hW ep
  have C4:Hid (∀W,Gc W g s2→Calls aA 177 #[.pointer (some ⟨g,0,none⟩),.int .i64 ep] W fun x w'=>x=.returned (.bool (decide (ep=h2.floor∨ep=h2.top)))∧w'=W):=by
   intro W hW;rw[←r2.floor, ←r2.top];exact Tv W g _ _ hW.f.c1 hW.f.c2 ep
  have C5:Hid (∀W,Gc W g s2→∀m o,Calls aA 178 #[.pointer (some ⟨g,0,none⟩),.int .i64 ep,.agg #[.int .i64 m,.int .i64 o]] W fun x w'=>x=.returned (.tuple #[])∧EF W w' g (J1 s2 ep m o)):=fun W hW m o=>Aef W g s2 hW ep m o;have R2:Hid (Ni s2 h2):=r2;rw[e2] at C3;dsimp only at C3;obtain⟨n,hn⟩:∃n:Nat,n=(h2.cnt ep).1:=⟨_,rfl⟩;obtain⟨o,ho⟩:∃o:Int,o=(h2.cnt ep).2:=⟨_,rfl⟩;rw[←hn, ←ho] at C3 ⊢;obtain⟨b,hb⟩:=eX (decide (ep=h2.floor∨ep=h2.top));rw[←hb] at C4;have d1:¬fl<0:=by omega
  have d2:¬ep<1:=by omega
  have d3:¬at_<0:=by omega
  have d4:¬of≤at_:=by omega
  have HN:Hid (n=(h2.cnt ep).1∧(b=decide (ep=h2.floor∨ep=h2.top))):=⟨hn,hb⟩;obtain⟨res,hres⟩:=eX ((if (ep≠h2.floor∧ep≠h2.top)∨(0<n∧o≠of)∨(n:Int)<at_ then (h2,(0:Int)) else if at_<(n:Int) then (h2,2) else (Jq h2 ep of,1)));rw[←hres];have HR:Hid (res=(if (ep≠h2.floor∧ep≠h2.top)∨(0<n∧o≠of)∨(n:Int)<at_ then (h2,(0:Int)) else if at_<(n:Int) then (h2,2) else (Jq h2 ep of,1))):=hres;clear h0 hr r1 r2 e2 hs1 hs2 hh2 hn ho hb hres hs ST;go_enter aI,aH;go_wp2_with (go_at_call 175;refine C1.mono ?_;rintro e w1 ⟨rfl,t1⟩;refine Ak ?_);unfold AA;have T1:Hid (EF w w1 g s1):=t1;have c2:=C2.out w1 t1.1;clear t1 C1 C2;go_wp2_with (go_at_call 176;refine c2.mono ?_;rintro e w2 ⟨rfl,t2⟩;refine Ak ?_);unfold AA;have T2:Hid (EF w w2 g s2):=T1.out.trans t2;have c3:=C3.out w2 t2.1;clear t2 c2 T1 C3;go_wp2_with (go_at_call 144;refine c3.mono ?_;rintro e w3 ⟨rfl,b3⟩;refine Ak ?_);unfold AA;obtain⟨W,hW⟩:=eX (w3.alloc (.cells #[.int .i64 (n:Int),.int .i64 o] 159))
  have T3:Hid (EF w W g s2):=by
   show EF _ _ _ _;rw[hW];exact(T2.out.add b3).add ((aB _ _).alloc (aC _) _)
  have c4:=C4.out W T3.out.1
  have NB:Hid (W.heap[w3.heap.size]?=some (.cells #[.int .i64 (n:Int),.int .i64 o] 159 (0,0))):=by
   show _=_;rw[hW];exact Ab _ _ _ rfl
  rw[hW] at c4;clear c3 T2 b3 C4;go_wp2_with (go_at_call 177;refine Ak ?_);unfold AA;rw[←hW] at c4 ⊢;have n0:W.cell? ⟨w3.heap.size,0,none⟩=some (.int .i64 (n:Int)):=by rw[cell_of_row W _ _ _ _ _ NB.out];rfl
  have n1:W.cell? ⟨w3.heap.size,1,none⟩=some (.int .i64 o):=by rw[cell_of_row W _ _ _ _ _ NB.out];rfl
  have c5:=C5.out W T3.out.1 (at_+1) of;clear hW NB C5;refine c4.mono ?_;rintro e w4 ⟨rfl,h4⟩;have h4:=h4.symm;subst h4
  cases b
  ·have RS:Hid (res=(h2,0)):=by
    have:=HR.out;rw[if_pos (.inl (by have:=HN.out.2;simpa using this))] at this;exact this
   clear HR HN c5 c4;go_wp2_with fail;go_ret;exact⟨by rw[RS.out];rfl,by rw[RS.out];exact⟨⟨s2,T3.out.1,R2.out⟩,T3.out.2⟩⟩
  ·have HB:Hid (¬(ep≠h2.floor∧ep≠h2.top)):=by
    have:=HN.out.2;show¬_;have h5:=of_decide_eq_true this.symm;rintro⟨x,y⟩;exact h5.elim x y
   by_cases q1:0<n
   ·have q1':(n:Int)>0:=by omega
    by_cases q2:o=of
    ·have q2':(o !=of)=false:=by simpa using q2
     by_cases q3:(n:Int)<at_
     ·have RS:Hid (res=(h2,0)):=by
       have:=HR.out;rw[if_pos (.inr (.inr q3))] at this;exact this
      clear HR HN c5 c4 q2;go_wp2_with fail;go_ret;exact⟨by rw[RS.out];rfl,by rw[RS.out];exact⟨⟨s2,T3.out.1,R2.out⟩,T3.out.2⟩⟩
     ·by_cases q4:at_<(n:Int)
      ·have RS:Hid (res=(h2,2)):=by
        have:=HR.out;rw[if_neg (fun x=>x.elim HB.out (fun x=>x.elim (fun x=>x.2 q2) q3)),if_pos q4] at this;exact this
       have q4':(n:Int)>at_:=q4;clear HR HN c5 c4 q2;go_wp2_with fail;go_ret;exact⟨by rw[RS.out];rfl,by rw[RS.out];exact⟨⟨s2,T3.out.1,R2.out⟩,T3.out.2⟩⟩
      ·have RS:Hid (res=(Jq h2 ep of,1)):=by
        have:=HR.out;rw[if_neg (fun x=>x.elim HB.out (fun x=>x.elim (fun x=>x.2 q2) q3)),if_neg q4] at this;exact this
       have q4':¬(n:Int)>at_:=q4;have NE:Hid (at_=(n:Int)):=by show _=_;omega
       have ov:at_+1≤9223372036854775807:=by omega
       have ov2: -9223372036854775808≤at_+1:=by omega
       clear HR c4 q2;go_wp2_with (go_at_call 178;refine c5.mono ?_;rintro e w5 ⟨rfl,t5⟩;refine Ak ?_);unfold AA
       have T5:Hid (IQ w w5 g (Jq h2 ep of)):=by
        have t6:=T3.out.trans t5;have r6:=Zt (s:=s2) (h:=h2) R2.out (e:=ep) (o:=of) (by have:=HB.out;exact Classical.byContradiction fun hx=>this ⟨fun y=>hx (.inl y),fun y=>hx (.inr y)⟩);rw[←HN.out.1, ←NE.out] at r6;exact⟨⟨_,t6.1,r6⟩,t6.2⟩
       clear t5;go_wp2_with fail;go_ret;exact⟨by rw[RS.out];rfl,by rw[RS.out];exact T5.out⟩
    ·have RS:Hid (res=(h2,0)):=by
      have:=HR.out;rw[if_pos (.inr (.inl ⟨q1,q2⟩))] at this;exact this
     have q2':(o !=of)=true:=by simpa using q2
     clear HR HN c5 c4 q2;go_wp2_with fail;go_ret;exact⟨by rw[RS.out];rfl,by rw[RS.out];exact⟨⟨s2,T3.out.1,R2.out⟩,T3.out.2⟩⟩
   ·have q1':¬(n:Int)>0:=by omega
    by_cases q3:(n:Int)<at_
    ·have RS:Hid (res=(h2,0)):=by
      have:=HR.out;rw[if_pos (.inr (.inr q3))] at this;exact this
     clear HR HN c5 c4;go_wp2_with fail;go_ret;exact⟨by rw[RS.out];rfl,by rw[RS.out];exact⟨⟨s2,T3.out.1,R2.out⟩,T3.out.2⟩⟩
    ·have q4:¬at_<(n:Int):=by omega
     have RS:Hid (res=(Jq h2 ep of,1)):=by
      have:=HR.out;rw[if_neg (fun x=>x.elim HB.out (fun x=>x.elim (fun x=>q1 x.1) q3)),if_neg q4] at this;exact this
     have q4':¬(n:Int)>at_:=q4;have NE:Hid (at_=(n:Int)):=by show _=_;omega
     have ov:at_+1≤9223372036854775807:=by omega
     have ov2: -9223372036854775808≤at_+1:=by omega
     clear HR c4;go_wp2_with (go_at_call 178;refine c5.mono ?_;rintro e w5 ⟨rfl,t5⟩;refine Ak ?_);unfold AA
     have T5:Hid (IQ w w5 g (Jq h2 ep of)):=by
      have t6:=T3.out.trans t5;have r6:=Zt (s:=s2) (h:=h2) R2.out (e:=ep) (o:=of) (by have:=HB.out;exact Classical.byContradiction fun hx=>this ⟨fun y=>hx (.inl y),fun y=>hx (.inr y)⟩);rw[←HN.out.1, ←NE.out] at r6;exact⟨⟨_,t6.1,r6⟩,t6.2⟩
     clear t5;go_wp2_with fail;go_ret;exact⟨by rw[RS.out];rfl,by rw[RS.out];exact T5.out⟩
def Jb(h:Bb):Prop:=0≤h.said∧h.said≤9223372036854775807
theorem Amr(inc:Int):Jb (OW inc):=⟨Int.le_refl _,by show(0:Int)≤_;decide⟩
theorem Tq{h:Bb}(hb:Jb h)(f t:Int):Jb (Ei {h with floor:=f,top:=t}):=by
 unfold Jb Ei;dsimp only;have:=hb.1;have:=hb.2;split
 ·exact hb
 ·exact⟨Int.le_refl _,by decide⟩
theorem Xa{h:Bb}(hb:Jb h)(f:Int):Jb (Dp h f):=by
 unfold Dp;split
 ·exact Tq hb _ _
 ·exact hb
theorem Ahx{h:Bb}(hb:Jb h)(e:Int):Jb (EM h e):=by
 unfold EM;split
 ·exact Tq hb h.floor e
 ·exact hb
theorem Aj6{h:Bb}(hb:Jb h)(fl ep at_ of:Int):Jb (DK h fl ep at_ of).1:=by
 have h1:=Ahx (Xa hb fl) ep;unfold DK;split
 ·exact hb
 ·split
  ·exact h1
  ·split
   ·exact h1
   ·exact h1
theorem Aiz{h:Bb}(hb:Jb h)(sent use fl:Int)(hs:sent≤9223372036854775807):Jb (Dq h sent use fl).1:=by
 unfold Dq;split
 ·exact hb
 ·have h1:=Xa hb fl;have h2:=h1.1;have h3:=h1.2;dsimp only;unfold J9;split
  ·split
   ·exact⟨by show 0≤max _ _;omega,by show max _ _≤_;omega⟩
   ·split
    ·exact⟨by show 0≤sent;omega,hs⟩
    ·exact h1
  ·exact h1
theorem Vl{s:Fd}{h:Bb}(hr:Ni s h)(e:Int):(decide (0<(Dx s e).1)&&decide ((Dx s e).1=(Dx s e).2))=Hg h e:=by
 rw[hr.held e];unfold Hg;by_cases h1:0<(h.cnt e).1
 ·simp[h1]
 ·simp[h1]
theorem Ait(w:World)(g:Nat)(h:Bb)(hV:FY w g h)(hk:DO h)(hb:Jb h)(now lease:Int):
  Calls aA 102 #[.pointer (some ⟨g,0,none⟩),.int .i64 now,.int .i64 lease] w fun x w'=>x=.returned (.bool (OZ h now lease))∧w'=w:=by
 obtain⟨s,hs,hr⟩:=hV;have c7:=hs.f.c7;have c8:=hs.f.c8;rw[hr.use] at c7;rw[hr.said] at c8;have u0:=hk.use0;obtain⟨b1,b2⟩:=hb;unfold OZ;obtain⟨u,hu⟩:=eX h.use;obtain⟨d,hd⟩:=eX h.said;rw[←hu] at c7 u0 ⊢;rw[←hd] at c8 b1 b2 ⊢;clear hu hd hr hs hk;by_cases h1:u=0
 ·have e1:(u==0)=true:=by simpa using h1
  rw[decide_eq_false (by omega),Bool.false_and];clear h1;go_enter Tryz.func102,Tryz.ntmps102;go_wp2_with fail;go_ret;exact⟨rfl,rfl⟩
 ·have e1:(u==0)=false:=by simpa using h1
  rw[decide_eq_true (by omega),Bool.true_and];obtain⟨m,hm⟩:=eX (max now 0);obtain⟨q,hq⟩:=eX (min m 1099511627776);rw[←hm, ←hq];have o1: -9223372036854775808≤q-d:=by omega
  have o2:q-d≤9223372036854775807:=by omega
  have HM:Hid _:=hm;have HQ:Hid _:=hq;clear h1 hm hq b1 b2 u0;go_enter Tryz.func102,Tryz.ntmps102
  go_wp2_with (first
   | (refine QC rfl (.tmp 16) _ rfl now 0 m rfl rfl HM.out ?_)
   | (refine Zk rfl (.tmp 17) _ rfl m 1099511627776 q rfl rfl HQ.out ?_))
  go_ret;exact⟨rfl,rfl⟩
theorem Zq{s:Fd}{h:Bb}(hr:Ni s h)(use said:Int):Ni {s with use:=use,said:=said} {h with use:=use,said:=said}:=⟨hr.inc,hr.floor,hr.top,rfl,rfl,hr.held⟩
theorem Aj0(w:World)(g:Nat)(h:Bb)(hV:FY w g h)(hk:DO h)(sent use fl:Int):
  Calls aA 152 #[.pointer (some ⟨g,0,none⟩),.int .i64 sent,.int .i64 use,.int .i64 fl] w fun x w'=>x=.returned (.bool (Dq h sent use fl).2)∧IQ w w' g (Dq h sent use fl).1:=by
 have ST:Hid (IQ w w g h):=hV.stay (aB _ _);obtain⟨s,hs,hr⟩:=hV;unfold Dq;by_cases h0:sent<0∨use<0∨fl<0
 ·rw[if_pos h0];clear hs hr hk;by_cases h1:sent<0
  ·clear h0;go_enter aO,aK;go_wp2_with fail;go_ret;exact⟨rfl,ST.out⟩
  by_cases h2:use<0
  ·clear h0;go_enter aO,aK;go_wp2_with fail;go_ret;exact⟨rfl,ST.out⟩
  have h4:fl<0:=by omega
  clear h0;go_enter aO,aK;go_wp2_with fail;go_ret;exact⟨rfl,ST.out⟩
 ·rw[if_neg h0];have r1:=Vp hr fl;have C1:=Q6 w g s hs fl;obtain⟨s1,hs1⟩:=eX (Ov s fl);rw[←hs1] at r1 C1;have k1:=QR hk fl;obtain⟨h1,hh1⟩:=eX (Dp h fl);rw[←hh1] at r1 k1 ⊢;dsimp only
  have C2:Hid (∀W,Gc W g s1→Calls aA 153 #[.pointer (some ⟨g,0,none⟩),.int .i64 use] W fun x w'=>x=.returned (.bool (Hg h1 use))∧Below W.heap.size W w'):=by
   intro W hW;rw[←Vl r1 use];exact Tm W g s1 hW use
  have F1:Hid (∀W,Gc W g s1→W.cell? ⟨g,7,none⟩=some (.int .i64 h1.use)∧W.cell? ⟨g,8,none⟩=some (.int .i64 h1.said)∧∀k,W.frozen? ⟨g,k,none⟩=false):=by
   intro W hW;have f:=hW.f;have e7:=f.c7;have e8:=f.c8;rw[r1.use] at e7;rw[r1.said] at e8;exact⟨e7,e8,f.fz⟩
  have R1:Hid (Ni s1 h1):=r1;have K1:Hid (DO h1):=k1;have d1:¬sent<0:=by omega
  have d2:¬use<0:=by omega
  have d3:¬fl<0:=by omega
  obtain⟨b,hb⟩:=eX (Hg h1 use);rw[←hb] at C2;have HBB:Hid (b=Hg h1 use):=hb;obtain⟨r,hr1⟩:=eX (J9 h1 sent use);rw[←hr1];obtain⟨y,hy⟩:=eX ((decide (0<use)&&decide (r.use=use)));rw[←hy];obtain⟨u,hu⟩:=eX h1.use;obtain⟨d,hd⟩:=eX h1.said;rw[←hu, ←hd] at F1;have HR:Hid (r=J9 h1 sent use∧y=(decide (0<use)&&decide (r.use=use))∧u=h1.use∧d=h1.said):=⟨hr1,hy,hu,hd⟩;clear h0 hr r1 k1 hs1 hh1 hs ST hb hr1 hy hu hd hk;go_enter aO,aK;go_wp2_with (go_at_call 175;refine C1.mono ?_;rintro e w1 ⟨rfl,t1⟩;refine Ak ?_);unfold AA;have T1:Hid (EF w w1 g s1):=t1;have c2:=C2.out w1 t1.1;clear t1 C1 C2;go_wp2_with (go_at_call 153;refine Ak ?_);unfold AA;refine c2.mono ?_;rintro e w2 ⟨rfl,b2⟩;have T2:Hid (EF w w2 g s1):=T1.out.add b2;obtain⟨k7,k8,fz⟩:=F1.out w2 T2.out.1;clear b2 c2 F1 T1
  cases b
  ·have RS:Hid (r=h1∧y=false):=by
    obtain⟨a1,a2,_⟩:=HR.out;have e1:r=h1:=by rw[a1];unfold J9;rw[←HBB.out];rfl
    refine⟨e1,?_⟩;rw[a2,e1];by_cases hp:0<use
    ·have:¬h1.use=use:=fun hx=>by
      have:=K1.out.uses (by omega);rw[hx, ←HBB.out] at this
      cases this
     simp[this]
    ·simp[hp]
   go_wp2_with fail;go_ret;exact⟨by rw[RS.out.2];rfl,by rw[RS.out.1];exact⟨⟨s1,T2.out.1,R1.out⟩,T2.out.2⟩⟩
  ·by_cases q1:use<u
   ·have RS:Hid (r=h1∧y=false):=by
     obtain⟨a1,a2,a3,_⟩:=HR.out
     have e1:r=h1:=by
      rw[a1];unfold J9;rw[←HBB.out,if_pos rfl,if_neg (by omega),if_neg (by omega)]
     refine⟨e1,?_⟩;rw[a2,e1];have:¬h1.use=use:=by omega
     simp[this]
    go_wp2_with fail;go_ret;exact⟨by rw[RS.out.2];rfl,by rw[RS.out.1];exact⟨⟨s1,T2.out.1,R1.out⟩,T2.out.2⟩⟩
   ·have HP:Hid (1≤use):=(K1.out.two _ (Hw.1 HBB.out.symm).1).2;by_cases q2:use=u
    ·have q2':(use==u)=true:=by simpa using q2
     obtain⟨m,hm⟩:=eX (max sent d);have HM:Hid (m=max sent d):=hm
     have RS:Hid (r={h1 with use:=use,said:=m}∧y=true):=by
      obtain⟨a1,a2,a3,a4⟩:=HR.out
      have e1:r={h1 with use:=use,said:=m}:=by
       rw[a1];unfold J9;rw[←HBB.out,if_pos rfl,if_pos (by omega),hm,a4,q2,a3,Int.max_comm]
      refine⟨e1,?_⟩;rw[a2,e1];have:=HP.out;simp;omega
     have T3:Hid (IQ w ((w2.setCell ⟨g,7,none⟩ (.int .i64 use)).setCell ⟨g,8,none⟩ (.int .i64 m)) g r):=by
      have t:=(T2.out.setC 7 (.int .i64 use) {s1 with use:=use} rfl).setC 8 (.int .i64 m) {s1 with use:=use,said:=m} rfl;show IQ _ _ _ _;rw[RS.out.1];exact⟨⟨_,t.1,Zq R1.out use m⟩,t.2⟩
     clear hm q2;go_wp2_with (refine QC rfl (.tmp 44) (.tmp 48) rfl sent d m rfl rfl HM.out ?_);go_ret;exact⟨by rw[RS.out.2];rfl,T3.out⟩
    ·have q2':(use==u)=false:=by simpa using q2
     have RS:Hid (r={h1 with use:=use,said:=sent}∧y=true):=by
      obtain⟨a1,a2,a3,a4⟩:=HR.out
      have e1:r={h1 with use:=use,said:=sent}:=by
       rw[a1];unfold J9;rw[←HBB.out,if_pos rfl,if_neg (by omega),if_pos (by omega)]
      refine⟨e1,?_⟩;rw[a2,e1];have:=HP.out;simp;omega
     have T3:Hid (IQ w ((w2.setCell ⟨g,7,none⟩ (.int .i64 use)).setCell ⟨g,8,none⟩ (.int .i64 sent)) g r):=by
      have t:=(T2.out.setC 7 (.int .i64 use) {s1 with use:=use} rfl).setC 8 (.int .i64 sent) {s1 with use:=use,said:=sent} rfl;show IQ _ _ _ _;rw[RS.out.1];exact⟨⟨_,t.1,Zq R1.out use sent⟩,t.2⟩
     clear q2;go_wp2_with fail;go_ret;exact⟨by rw[RS.out.2];rfl,T3.out⟩
def AD(x:AN):Array Value:=#[.int .i64 x.seq,.int .i64 x.index,.int .u8 (x.head.getD 0 0),.int .u8 (x.head.getD 1 0),.int .u8 (x.head.getD 2 0),.int .u8 (x.head.getD 3 0),.int .u8 (x.head.getD 4 0),.int .u8 (x.head.getD 5 0),.int .u8 (x.head.getD 6 0),.int .u8 (x.head.getD 7 0),.int .u8 (x.head.getD 8 0),.int .u8 (x.head.getD 9 0),.int .u8 (x.head.getD 10 0),.int .u8 (x.head.getD 11 0),.int .u8 (x.head.getD 12 0),.int .i64 x.sent,.int .i64 x.due]
def C9:AN:=⟨0,0,[],0,0⟩
def Js:El:=⟨112,62,17,48,AD C9⟩
theorem Lh:Js.Ok:=⟨aZ,⟨_,Tryz.underlying112,rfl⟩,by kernel_rfl,rfl,by decide,by decide,by decide⟩
theorem Ly(x:AN):PB Js (AD x):=⟨rfl,by simp[AD,Value.oneCell']⟩
theorem Ajk{L:List Int}(h:L.length=13):hv L=#[.int .u8 (L.getD 0 0),.int .u8 (L.getD 1 0),.int .u8 (L.getD 2 0),.int .u8 (L.getD 3 0),.int .u8 (L.getD 4 0),.int .u8 (L.getD 5 0),.int .u8 (L.getD 6 0),.int .u8 (L.getD 7 0),.int .u8 (L.getD 8 0),.int .u8 (L.getD 9 0),.int .u8 (L.getD 10 0),.int .u8 (L.getD 11 0),.int .u8 (L.getD 12 0)]:=by
 apply Array.ext_getElem?;intro k;rcases(show k=0∨k=1∨k=2∨k=3∨k=4∨k=5∨k=6∨k=7∨k=8∨k=9∨k=10∨k=11∨k=12∨13≤k by omega) with rfl | rfl | rfl | rfl | rfl | rfl | rfl | rfl | rfl | rfl | rfl | rfl | rfl | hk
 all_goals first
  | (rw[K5 L h _ (by decide)];rfl)
  | (rw[Array.getElem?_eq_none (by rw[EW];omega),Array.getElem?_eq_none (by simpa using hk)])
set_option maxRecDepth 100000 in
theorem Ago(a b d:Int){L:List Int}(hL:L.length=13)(W:World):(Instr.build 112 #[(0,.int .i64 a),(1,.int .i64 b),(2,.agg (hv L)),(3,.int .i64 1),(4,.int .i64 d)]).run aA W=.ok (.agg (AD ⟨a,b,L,1,d⟩)) W:=by
 rw[Ajk hL];kernel_rfl
set_option maxRecDepth 100000 in
theorem Aci(W:World):(Instr.build 112 #[]).run aA W=.ok (.agg (AD C9)) W:=by
 unfold C9 AD;kernel_rfl
set_option maxRecDepth 100000 in
theorem Ah4(W:World):(zeroValue 112).run aA W=.ok (.agg (AD C9)) W:=by
 unfold C9 AD;kernel_rfl
theorem Agr(w:World):(Instr.alloc 112 true (.tuple #[])).run aA w=.ok (.pointer (some ⟨w.heap.size,0,none⟩)) (w.alloc (.cells (AD C9) 112)):=by
 have hz:=Ah4 w;simp[Instr.alloc,aG,hz,newVar,newRow,Value.cells]
theorem Ad2{P:Program}{ops:Array Oper}{Q:Exit→Act→World→Prop}{o:Oper}{rest:List Oper}{a:Act}{w:World}(_:o.op=.alloc 112)(h:wpList P ops Q (o::rest) a w):wpList P ops Q (o::rest) a w:=h
theorem IJ{P:Program}{ops:Array Oper}{Q:Exit→Act→World→Prop}{o:Oper}{rest:List Oper}{a:Act}{w:World}(x:Operand)(_:o.op=.load 112 x)(h:wpList P ops Q (o::rest) a w):wpList P ops Q (o::rest) a w:=h
theorem Oc{P:Program}{ops:Array Oper}{Q:Exit→Act→World→Prop}{o:Oper}{rest:List Oper}{a:Act}{w:World}(x y:Operand)(_:o.op=.store 112 x y)(h:wpList P ops Q (o::rest) a w):wpList P ops Q (o::rest) a w:=h
theorem Sk{P:Program}{ops:Array Oper}{Q:Exit→Act→World→Prop}{o:Oper}{rest:List Oper}{a:Act}{w:World}(x:Operand)(_:o.op=.buildSlice 62 1 #[(0,x)])(h:wpList P ops Q (o::rest) a w):wpList P ops Q (o::rest) a w:=h
theorem Aoh{P:Program}{ops:Array Oper}{Q:Exit→Act→World→Prop}{o:Oper}{rest:List Oper}{a:Act}{w:World}(_:o.op=.build 112 #[])(h:wpList P ops Q (o::rest) a w):wpList P ops Q (o::rest) a w:=h
theorem Aoi{P:Program}{ops:Array Oper}{Q:Exit→Act→World→Prop}{o:Oper}{rest:List Oper}{a:Act}{w:World}(_:o.op=.buildSlice 62 0 #[])(h:wpList P ops Q (o::rest) a w):wpList P ops Q (o::rest) a w:=h
theorem Je(w:World)(o:Obj):(w.alloc o).heap.size=w.heap.size+1:=by simp
theorem UH{ops:Array Oper}{rest:List Oper}{o:Oper}{a:Act}{w:World}{Q:Exit→Act→World→Prop}(hg:o.guard=none)(ho:o.op=.alloc 112)
  (h:wpList aA ops Q rest (a.put o.dst (.pointer (some ⟨w.heap.size,0,none⟩))) (w.alloc (.cells (AD C9) 112))):wpList aA ops Q (o::rest) a w:=by
 refine Great.wpList_allocTo hg o.dst rfl _ _ ?_ h;unfold execOp;simp only[ho,aG,Agr,aD,aM]
theorem Ad4{ops:Array Oper}{rest:List Oper}{o:Oper}{a:Act}{w:World}{Q:Exit→Act→World→Prop}(hg:o.guard=none)(ho:o.op=.build 112 #[])
  (h:wpList aA ops Q rest (a.put o.dst (.agg (AD C9))) w):wpList aA ops Q (o::rest) a w:=by
 refine Great.wpList_readTo hg o.dst rfl _ ?_ h;unfold execOp;simp only[ho,aG,aN,aY,Aci,aD,aM]
theorem Kg{ops:Array Oper}{rest:List Oper}{o:Oper}{a:Act}{w:World}{Q:Exit→Act→World→Prop}(hgd:o.guard=none)(x y:Operand)(ho:o.op=.store 112 x y)
  (g:Nat) (s z:AN) (hx:a.eval x=.pointer (some ⟨g,0,none⟩)) (hy:a.eval y=.agg (AD s)) (hg:w.heap[g]?=some (.cells (AD z) 112 (0,0)))
  (w':World) (hw':w.setRow g (AD s)=w')
  (h:wpList aA ops Q rest (a.put o.dst undef) w'):wpList aA ops Q (o::rest) a w:=
 EK (E:=Js) Lh hgd x y ho g (AD s) (Ly s) hx hy _ hg rfl w' hw' h
theorem GS{ops:Array Oper}{rest:List Oper}{o:Oper}{a:Act}{w:World}{Q:Exit→Act→World→Prop}(hw:aJ o (yielded ops a.tmps)=true)(x:Operand)(ho:o.op=.load 112 x)
  (g off:Nat) (hx:a.eval x=.pointer (some ⟨g,off,none⟩)) (s:AN) (hl:(loadVar 112 ⟨g,off,none⟩).run aA w=.ok (.agg (AD s)) w)
  (h:wpList aA ops Q rest (a.put o.dst (.agg (AD s))) w):wpList aA ops Q (o::rest) a w:=by
 refine wpList_step fun K hK=> ?_;rw[if_pos hw];unfold Oper.wp execOp;simp only[ho,hx,Instr.loadAt,Instr.sureAddr,aG,aM,aD,hl];exact hK _ _ h
theorem On{w:World}{g off:Nat}{cur:Array Value}{t:TypeId}{fr:Nat×Nat}{s:AN}(hg:w.heap[g]?=some (.cells cur t fr))(hc:∀j,j<17→cur[off+j]?=(AD s)[j]?):(loadVar 112 ⟨g,off,none⟩).run aA w=.ok (.agg (AD s)) w:=
 Lh.load w g off cur t fr (AD s) rfl hg hc
theorem Lt{w:World}{g:Nat}{t:TypeId}{fr:Nat×Nat}{s:AN}(hg:w.heap[g]?=some (.cells (AD s) t fr)):(loadVar 112 ⟨g,0,none⟩).run aA w=.ok (.agg (AD s)) w:=On hg fun j _=>by rw[Nat.zero_add]
theorem Mg{ops:Array Oper}{rest:List Oper}{o:Oper}{a:Act}{w:World}{Q:Exit→Act→World→Prop}(hg:o.guard=none)(x:Operand)(ho:o.op=.buildSlice 62 1 #[(0,x)])(s:AN)(hx:a.eval x=.agg (AD s))
  (h:wpList aA ops Q rest (a.put o.dst (.slice (some ⟨w.heap.size,0,none⟩) 1 1)) (w.alloc (.cells (AD s) 112))):wpList aA ops Q (o::rest) a w:=
 Ki (E:=Js) Lh hg x ho (AD s) rfl hx h
theorem Aa6{ops:Array Oper}{rest:List Oper}{o:Oper}{a:Act}{w:World}{Q:Exit→Act→World→Prop}(hg:o.guard=none)(ho:o.op=.buildSlice 62 0 #[])
  (h:wpList aA ops Q rest (a.put o.dst (.slice (some ⟨w.heap.size,0,none⟩) 0 0)) (w.alloc (.cells #[] 112))):wpList aA ops Q (o::rest) a w:=by
 obtain⟨ie,hie,hz,hs,_⟩:=Lh.info;refine wpList_plain hg fun _ hK=> ?_;unfold Oper.wp execOp
 have hrun:(Instr.buildSlice 62 0 #[]).run aA w=.ok (.slice (some ⟨w.heap.size,0,none⟩) 0 0) (w.alloc (.cells #[] 112)):=by
  have h0:Array.range 0=#[]:=Array.eq_empty_of_size_eq_zero (by simp);have hie':aA.info? 112=some ie:=hie;simp[Instr.buildSlice,run_underlying aZ,sizeOf,typeInfo,hie',Instr.fill,newRow,h0]
 simp only[ho,aG,aN,aY,hrun,aD];exact hK _ _ h
def AU(B:Nat)(w:World)(v:Value)(C:List AN):Prop:=w.ownsRow B 112 17 v C.length (BC AD C)
theorem AU.sl{B:Nat}{w:World}{v:Value}{C:List AN}(h:AU B w v C):Ee Js AD w v C:=Ti (E:=Js) h fun _ _=>rfl
theorem AU.lt{B:Nat}{w:World}{v:Value}{C:List AN}(h:AU B w v C):∀k,v.ownBlock=some k→B≤k∧k<w.heap.size:=World.ownsRow.lt h
theorem AU.nil(B:Nat)(w:World):AU B w (.slice none 0 0) []:=World.ownsRow_nil _ _ _ _
theorem AU.kept{X:Nat→Prop}{B:Nat}{w w':World}{v:Value}{C:List AN}(h:AU B w v C)(hk:As X w w')(hX:∀k,v.ownBlock=some k→¬X k):AU B w' v C:=hk.own h hX
theorem AU.below{B:Nat}{w w':World}{v:Value}{C:List AN}(h:AU B w v C)(hb:Below w.heap.size w w'):AU B w' v C:=Mp h hb
theorem AU.base{B B':Nat}{w:World}{v:Value}{C:List AN}(h:AU B w v C)(hB:B'≤B):AU B' w v C:=Vh h hB
theorem AU.slice{B:Nat}{w:World}{v:Value}{C:List AN}(h:AU B w v C):∃o cap,v=.slice o C.length cap∧C.length≤cap∧cap≤maxLen:=h.sl.slice
theorem Aqy(w:World):AU w.heap.size (w.alloc (.cells #[] 112)) (.slice (some ⟨w.heap.size,0,none⟩) 0 0) []:=⟨by simp[BC],.inr ⟨_,0,#[],rfl,aC _,Ab _ _ _ rfl,aC _,Nat.zero_le _,by simp,by simp[BC]⟩⟩
theorem JC{e:TypeId}{s:Nat}{B:Nat}{w:World}{v:Value}{m:Nat}{xs:List Value}(h:w.ownsRow B e s v m xs){g:Nat}{cs:Array Value}{t:TypeId}{fr:Nat×Nat}(hg:w.heap[g]?=some (.cells cs t fr))(ht:t≠e):v.ownBlock≠some g:=by
 intro q;obtain⟨_,⟨rfl,_⟩ | ⟨g',cap,cur,rfl,_,h1,_⟩⟩:=h
 ·cases q
 ·simp only[Value.ownBlock,Option.some.injEq] at q;subst q;rw[hg] at h1;simp only[Option.some.injEq,Obj.cells.injEq] at h1;exact ht h1.2.1
theorem Od{ops:Array Oper}{rest:List Oper}{o:Oper}{a:Act}{w:World}{Q:Exit→Act→World→Prop}(hgd:o.guard=none)(s x:Operand)(ho:o.op=.call {callee:=.builtin .append,args:=#[s,x],argTypes:=#[62,62]})
  (B:Nat) (v:Value) (C:List AN) (c:AN) (hs:a.eval s=v) (hown:AU B w v C) (g cap:Nat) (hx:a.eval x=.slice (some ⟨g,0,none⟩) 1 cap) (hg:w.heap[g]?=some (.cells (AD c) 112 (0,0)))
  (hn:C.length≤1000000) (hB:B≤w.heap.size)
  (h:∀v' w',AU B w' v' (C++[c])→w.grownBy w' v.ownBlock→(v'.ownBlock=v.ownBlock∨v'.ownBlock=some w.heap.size)→wpList aA ops Q rest (a.put o.dst v') w'):wpList aA ops Q (o::rest) a w:=
 KC (E:=Js) Lh AD hgd s x ho B v C c (Ly c) hs hown g cap hx hg hn hB h
structure Apy(w:World)(g off:Nat)(x:AN):Prop where
 c0:w.cell? ⟨g,off,none⟩=some (.int .i64 x.seq)
 c1:w.cell? ⟨g,off+1,none⟩=some (.int .i64 x.index)
 c3:w.cell? ⟨g,off+15,none⟩=some (.int .i64 x.sent)
 c4:w.cell? ⟨g,off+16,none⟩=some (.int .i64 x.due)
theorem Ao4{w:World}{g off:Nat}{cur:Array Value}{ty:TypeId}{fr:Nat×Nat}{x:AN}(hg:w.heap[g]?=some (.cells cur ty fr))(hc:∀j,j<17→cur[off+j]?=(AD x)[j]?):Apy w g off x:=
 ⟨by rw[cell_of_row w g off cur ty fr hg];exact hc 0 (by decide),by rw[cell_of_row w g (off+1) cur ty fr hg];exact hc 1 (by decide),by rw[cell_of_row w g (off+15) cur ty fr hg];exact hc 15 (by decide),by rw[cell_of_row w g (off+16) cur ty fr hg];exact hc 16 (by decide)⟩
theorem FO{w:World}{g:Nat}{ty:TypeId}{fr:Nat×Nat}{x:AN}(hg:w.heap[g]?=some (.cells (AD x) ty fr)):Apy w g 0 x:=Ao4 hg fun j _=>by rw[Nat.zero_add]
def MQ(m:Be)(v:Value):Array Value:=#[.int .i64 m.room,.int .i64 m.tries,.int .i64 m.time,.int .i64 (m.last:Int),v]
structure Dt(B:Nat)(w:World)(g:Nat)(m:Be)(v:Value):Prop where
 blk:w.heap[g]?=some (.cells (MQ m v) 157 (0,0))
 own:AU B w v m.l
 hB:B≤g
def EO(g:Nat)(v:Value)(k:Nat):Prop:=k=g∨v.ownBlock=some k
theorem Dt.foot_in{B:Nat}{w:World}{g:Nat}{m:Be}{v:Value}(h:Dt B w g m v):∀k,EO g v k→B≤k∧k<w.heap.size:=by
 rintro k (rfl | e)
 ·exact⟨h.hB,(gS h.blk)⟩
 ·exact h.own.lt k e
theorem Dt.kept{X:Nat→Prop}{B:Nat}{w w':World}{g:Nat}{m:Be}{v:Value}(h:Dt B w g m v)(hk:As X w w')(hX:∀k,EO g v k→¬X k):Dt B w' g m v:=
 ⟨hk.heap h.blk (hX _ (.inl rfl)),h.own.kept hk fun k e=>hX k (.inr e),h.hB⟩
theorem Dt.below{B:Nat}{w w':World}{g:Nat}{m:Be}{v:Value}(h:Dt B w g m v)(hb:Below w.heap.size w w'):Dt B w' g m v:=h.kept (X:=fun _=>False) (As.of_below hb) fun _ _ e=>e
theorem Dt.hw{B:Nat}{w:World}{g:Nat}{m:Be}{v:Value}(h:Dt B w g m v):B≤w.heap.size:=by have:=h.foot_in g (.inl rfl);omega
structure Ale(w:World)(g:Nat)(m:Be)(v:Value):Prop where
 c0:w.cell? ⟨g,0,none⟩=some (.int .i64 m.room)
 c1:w.cell? ⟨g,1,none⟩=some (.int .i64 m.tries)
 c2:w.cell? ⟨g,2,none⟩=some (.int .i64 m.time)
 c3:w.cell? ⟨g,3,none⟩=some (.int .i64 (m.last:Int))
 c4:w.cell? ⟨g,4,none⟩=some v
 fz:∀k,w.frozen? ⟨g,k,none⟩=false
theorem Wj{w:World}{g:Nat}{m:Be}{v:Value}{t:TypeId}(hg:w.heap[g]?=some (.cells (MQ m v) t (0,0))):Ale w g m v:=
 ⟨by rw[cell_of_row w g _ _ _ _ hg];rfl,by rw[cell_of_row w g _ _ _ _ hg];rfl,by rw[cell_of_row w g _ _ _ _ hg];rfl,by rw[cell_of_row w g _ _ _ _ hg];rfl,by rw[cell_of_row w g _ _ _ _ hg];rfl,fun k=>by simp[bD,hg]⟩
theorem Dt.f{B:Nat}{w:World}{g:Nat}{m:Be}{v:Value}(h:Dt B w g m v):Ale w g m v:=Wj h.blk
def Nh(B:Nat)(w w':World)(g:Nat)(m':Be)(v:Value):Prop:=∃u,Dt B w' g m' u∧FQ (EO g v) (EO g u) w w'
theorem Dt.stay{B:Nat}{w w':World}{g:Nat}{m:Be}{v:Value}(h:Dt B w g m v)(hb:Below w.heap.size w w'):Nh B w w' g m v:=⟨v,h.below hb,FQ.of_below hb⟩
theorem Dt.setC{B:Nat}{w:World}{g:Nat}{m:Be}{v:Value}(h:Dt B w g m v)(k:Nat)(x:Value)(m':Be)(hs:(MQ m v).setIfInBounds k x=MQ m' v)(hl:m'.l=m.l):Dt B (w.setCell ⟨g,k,none⟩ x) g m' v∧FQ (EO g v) (EO g v) w (w.setCell ⟨g,k,none⟩ x):=by
 have hK2:As (Cq g) w (w.setCell ⟨g,k,none⟩ x):=⟨rfl,rfl,rfl,by simp[aV],fun k' _ e=>heap_setCell_other w ⟨g,k,none⟩ k' _ e⟩;refine⟨⟨?_,by rw[hl];exact h.own.kept hK2 fun q e e'=>by unfold Cq at e';subst e';exact JC h.own h.blk (by decide) e,h.hB⟩,⟨hK2.mono fun q _ e=> .inl e,fun q e=> .inl e⟩⟩;rw[heap_setCell_same w g k _ _ _ h.blk,hs]
theorem Dt.put{B:Nat}{w w':World}{g:Nat}{m m':Be}{v u:Value}(h:Dt B w g m v)(hk:As (BT v) w w')(hu:AU B w' u m'.l)(ho:u.ownBlock=v.ownBlock∨∀k,u.ownBlock=some k→w.heap.size≤k)(hs:MQ m' u=MQ m u):
  Dt B (w'.setCell ⟨g,4,none⟩ u) g m' u∧FQ (EO g v) (EO g u) w (w'.setCell ⟨g,4,none⟩ u):=by
 have hgx:¬BT v g:=JC h.own h.blk (by decide);have hbk:=hk.heap h.blk hgx
 have hset:(w'.setCell ⟨g,4,none⟩ u).heap[g]?=some (.cells (MQ m' u) 157 (0,0)):=by
  rw[heap_setCell_same w' g 4 _ _ u hbk,hs];rfl
 have hK2:As (Cq g) w' (w'.setCell ⟨g,4,none⟩ u):=⟨rfl,rfl,rfl,by simp[aV],fun k _ e=>heap_setCell_other w' ⟨g,4,none⟩ k _ e⟩;refine⟨⟨hset,hu.kept hK2 fun k e e'=>by unfold Cq at e';subst e';exact JC hu hbk (by decide) e,h.hB⟩,⟨(hk.mono (Y:=EO g v) fun k _ e=> .inr e).trans hK2 fun k e=> .inl (.inl e),fun k e=> ?_⟩⟩;rcases e with e | e
 ·exact .inl (.inl e)
 ·rcases ho with e' | e'
  ·rw[e'] at e;exact .inl (.inr e)
  ·exact .inr (e' k e)
structure Ga(m:Be):Prop where
 ok:Dn m
 r64:m.room≤64
 t8:m.tries≤8
 ti:m.time≤1000
theorem Amp{room tries time:Int}{m:Be}(h:WV room tries time=some m):Ga m:=by
 have hk:=Amo h;unfold WV at h;split at h
 ·rename_i hc;obtain rfl:=Option.some.inj h;exact⟨hk,hc.2.1,hc.2.2.2.1,hc.2.2.2.2.2⟩
 ·cases h
theorem Agg{m:Be}(h:Ga m):Ga (Ij m):=⟨VC h.ok,h.r64,h.t8,h.ti⟩
theorem Ga.len{m:Be}(h:Ga m):m.l.length≤64:=by
 have h1:=h.ok.len;have h2:=h.r64;omega
theorem XW(now:Int):0≤EH now∧EH now≤1099511627776:=by unfold EH;omega
end
end Go.Proofs.YtbhkoipcpcoooaaGreat
