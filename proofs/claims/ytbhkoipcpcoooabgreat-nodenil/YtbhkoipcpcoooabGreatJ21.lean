import Derived.Test.YtbhkoipcpcoooabGreatJ20
import Derived.Test.YtbhkoipcpcoooabGreatJ19
namespace Go.Proofs.YtbhkoipcpcoooabGreat
set_option maxRecDepth 20000
set_option maxHeartbeats 64000000
open Go
open _root_.Array renaming getElem?_eq_some_iff → aA
open _root_.List renaming setIfInBounds_toArray → aB, set_cons_succ → aC, set_cons_zero → aD, drop_succ_cons → aH, drop_zero → aK, map_cons → aL, map_nil → aM, headD_cons → aN, take_succ_cons → aQ, take_zero → aT, not_mem_nil → aW, map_toArray → aX, mem_filter → aY
open Go.World renaming drew → aG
open Go.Proofs.Tryz renaming prog → aI, func88 → aR, underlying25 → aV
open Go.Act renaming put → aJ
open _root_.Nat renaming le_refl → aO
open Go.RowKit.Below renaming refl → aP
section
open Go.RowKit
theorem WK{fn:Func}{R:Ending→World→Prop}{a:Act}{w:World}{p u t:Tmp}(hr:fn.results=#[.cell p 25,.tmp u,.tmp t])(hd:a.defers=[])(g:Nat)(hp:a.tmps.getD p undef=.pointer (some ⟨g,0,none⟩))(V M:List Int)(hV:V.length=13)(hM:M.length=13)
  (hg:w.heap[g]?=some (.cells (cv V M) 25 (0,0))) (v z:Value) (hu:a.tmps.getD u undef=v) (ht:a.tmps.getD t undef=z) (h:R (.returned (.tuple #[.agg (cv V M),v,z])) w):bodyPost aI fn R .ret a w:=by
 refine bodyPost_ret (v:=.tuple #[.agg (cv V M),v,z]) ?_ hd h;have hp':a.tmps[p]?.getD undef=.pointer (some ⟨g,0,none⟩):=by simpa using hp
 have hu':a.tmps[u]?.getD undef=v:=by simpa using hu
 have ht':a.tmps[t]?.getD undef=z:=by simpa using ht
 simp[results,hr,hp',hu',ht',asAddr,run_loadVar_row w g 25 25 (cv V M) (0,0) _ hg aV rfl (Ka V M hV hM)]
structure V6(gh gr go:Nat)(H:List Int)(r:AN)(U N:List Int) where
 world:World
 k1:world.heap[gh]?=some (.cells (hv H) 23 (0,0))
 k2:world.heap[gr]?=some (.cells (AE r) 174 (0,0))
 k3:world.heap[go]?=some (.cells (cv U N) 25 (0,0))
abbrev IM(gh gr go:Nat)(H:List Int)(r:AN)(U N:List Int)(w:World):Prop:=∃z:V6 gh gr go H r U N,w=z.world
theorem IM.of{gh gr go:Nat}{H:List Int}{r:AN}{U N:List Int}{w:World}(h1:w.heap[gh]?=some (.cells (hv H) 23 (0,0)))(h2:w.heap[gr]?=some (.cells (AE r) 174 (0,0)))(h3:w.heap[go]?=some (.cells (cv U N) 25 (0,0))):IM gh gr go H r U N w:=⟨⟨w,h1,h2,h3⟩,rfl⟩
theorem Aam(l:List AN)(hl0:∀r∈l,D0 r)(vl:Value)(H:List Int)(hH:Ax H)(hF:∀x∈l,Hl H x=false)(w:World)(hl:DF w vl l):
  Calls aI 88 #[vl,.agg (hv H)] w fun e w'=>e=.returned (.tuple #[.agg (cv Z Z),.int .i64 0,.bool false])∧Below w.heap.size w w':=by
 have hHl:=hH.1
 have HLK:Hid (∀W,Below w.heap.size w W→Calls aI 113 #[vl,.agg (hv H)] W fun e w'=>e=.returned (.tuple #[.agg (AE Ii),.bool false])∧Below W.heap.size W w'):=fun W hb=>by
  have:=Sb l hl0 vl H hH W (EC.below hl hb);rwa [Tr hF] at this
 have K0:Hid (((w.alloc (.cells (hv H) 23)).alloc (.cells Az 25)).heap[w.heap.size]?=some (.cells (hv H) 23 (0,0))):=Af _ _ _ _ (Ac _ _ _ rfl);have K1:Hid (((w.alloc (.cells (hv H) 23)).alloc (.cells Az 25)).heap[w.heap.size+1]?=some (.cells Az 25 (0,0))):=Ac _ _ _ (by simp);have B0:Hid (Below w.heap.size w ((w.alloc (.cells (hv H) 23)).alloc (.cells Az 25))):=((aP _ _).alloc (aO _) _).alloc (by simp) _;have HZ:Hid _:=PY;clear hl hl0 hF hH;go_enter aR,Tryz.ntmps88
 go_wp2_with (first
  | (refine Dk rfl _ rfl w.heap.size rfl H K0.out hHl ?_))
 refine(HLK.out _ B0.out).mono ?_;rintro e w1 ⟨rfl,hb1⟩
 have B1:Hid (Below w.heap.size w (w1.alloc (.cells (AE Ii) 174))):=by
  have hb:=B0.out.trans (hb1.mono B0.out.size);exact hb.alloc hb.size _
 have R1:Hid ((w1.alloc (.cells (AE Ii) 174)).heap[w.heap.size+1]?=some (.cells Az 25 (0,0))):=Af _ _ _ _ ((hb1.block _ (by simp)).trans K1.out);clear hb1 K0 K1 B0
 go_wp2_with (first
  | (refine FM (E:=Dh) Fg rfl _ _ rfl w1.heap.size (AE Ii) (GC Np) rfl rfl _ (Ac _ _ _ rfl) rfl _ (BD _ _ _ _ _ rfl) ?_)
  | (refine Bq rfl _ _ rfl (w.heap.size+1) Z Z rfl (by rw[←Hh];rfl) _ R1.out rfl AX.1 AX.1 _ rfl ?_))
 refine WK (p:=4) (u:=5) (t:=6) rfl rfl (w.heap.size+1) rfl Z Z AX.1 AX.1 (setRow_heap _ _ _ _ _ _ R1.out) _ _ rfl rfl ⟨rfl,?_⟩;exact Ak B1.out (by omega) _
theorem X7(l:List AN)(hl0:∀r∈l,D0 r)(hn1:l.length≤100000)(vl:Value)(H:List Int)(hH:Ax H)(p:Nat)(r:AN)(hF:Eu l H p r)(w:World)(hl:DF w vl l):
  Calls aI 88 #[vl,.agg (hv H)] w fun e w'=>e=.returned (.tuple #[.agg (cv (Fs (DL (l.take p)) r.cube H).1 (Fs (DL (l.take p)) r.cube H).2),.int .i64 r.action,.bool true])∧Below w.heap.size w w':=by
 have hHl:=hH.1;have hr:=hl0 r hF.mem;have hrs:=Ek hr;have HR:Hid (D0 r):=hr
 have HLK:Hid (∀W,Below w.heap.size w W→Calls aI 113 #[vl,.agg (hv H)] W fun e w'=>e=.returned (.tuple #[.agg (AE r),.bool true])∧Below W.heap.size W w'):=fun W hb=>by
  have:=Sb l hl0 vl H hH W (EC.below hl hb);rwa [hF.look] at this
 have HIX:Hid (∀W,Below w.heap.size w W→Calls aI 115 #[vl,.agg (AE r)] W fun e w'=>e=.returned (.int .i64 (p:Int))∧Below W.heap.size W w'):=fun W hb=>Ty l hl0 vl H p r hF W (EC.below hl hb);have HWY:Hid (∀W,Below w.heap.size w W→Calls aI 114 #[vl,.int .i64 (p:Int)] W fun e w'=>(∃u,e=.returned u∧w'.ownsRow W.heap.size 25 26 u (Gk (DL (l.take p)) r.cube).length (Ed (Gk (DL (l.take p)) r.cube)))∧Below W.heap.size W w'):=fun W hb=>XA l hl0 hn1 vl p r hF.at_ W (EC.below hl hb);have HCA:Hid (∀W,Calls aI 112 #[.agg (cv r.cube.1 r.cube.2)] W fun e w'=>e=.returned (.agg (cv (AH r.cube.1 r.cube.2) r.cube.2))∧Below W.heap.size W w'):=fun W=>FP r.cube.1 r.cube.2 hr.1 hr.2 W
 have HWB:Hid (V8 (Gk (DL (l.take p)) r.cube)):=fun c hc=>by
  have:=(aY.1 hc).1;obtain⟨x,hx,rfl⟩:=List.mem_map.1 this;exact hl0 x (List.mem_of_mem_take hx)
 have hWH:∀x∈Gk (DL (l.take p)) r.cube,has x.1 x.2 H=false:=fun x hx=>hF.ahead x (aY.1 hx).1;have hRc:=Ma r.cube.1 r.cube.2 hr.2;have hcH:has (AH r.cube.1 r.cube.2) r.cube.2 H=true:=MT (PO r.cube.1 r.cube.2) hF.has_;have hE:=X8 (A:=DL (l.take p)) hr.2 hF.has_ hF.ahead;obtain⟨Y,hY⟩:∃Y,Y=Gk (DL (l.take p)) r.cube:=⟨_,rfl⟩;rw[←hY] at HWY HWB hWH hE;have HNA:Hid (∀v W,Sl W v Y→Calls aI 117 #[.agg (cv (AH r.cube.1 r.cube.2) r.cube.2),v,.agg (hv H)] W fun e w'=>e=.returned (.agg (cv (Cf H (AH r.cube.1 r.cube.2,r.cube.2) Y).1 (Cf H (AH r.cube.1 r.cube.2,r.cube.2) Y).2))∧Below W.heap.size W w'):=fun v W hs=>U4 (AH r.cube.1 r.cube.2,r.cube.2) Y H hH hRc hcH hWH v W hs;have hRn:=(KJ Y (AH r.cube.1 r.cube.2,r.cube.2) hcH hWH hRc).2.2.2;have HWI:Hid (∀v W,Sl W v Y→Calls aI 116 #[.agg (cv (Cf H (AH r.cube.1 r.cube.2,r.cube.2) Y).1 (Cf H (AH r.cube.1 r.cube.2,r.cube.2) Y).2),.agg (cv (AH r.cube.1 r.cube.2) r.cube.2),v] W fun e w'=>e=.returned (.agg (cv (De Y r.cube.2 104 (Cf H (AH r.cube.1 r.cube.2,r.cube.2) Y)).1 (De Y r.cube.2 104 (Cf H (AH r.cube.1 r.cube.2,r.cube.2) Y)).2))∧Below W.heap.size W w'):=fun v W hs=>Wg (Cf H (AH r.cube.1 r.cube.2,r.cube.2) Y) (AH r.cube.1 r.cube.2,r.cube.2) Y hRn hRc.1 hRc.2.1 v W hs
 have hRA:=(S4 (A:=DL (l.take p)) hr.2 hF.has_ hF.ahead).2.2.2.1;rw[hE] at HWI;obtain⟨A1,A2,hA⟩:∃A1 A2,Fs (DL (l.take p)) r.cube H=(A1,A2):=⟨_,_,rfl⟩;obtain⟨N1,N2,hN⟩:∃N1 N2,Cf H (AH r.cube.1 r.cube.2,r.cube.2) Y=(N1,N2):=⟨_,_,rfl⟩;rw[hN] at HNA HWI;rw[hA] at HWI hRA ⊢;dsimp only at HNA HWI ⊢;have hA1:=hRA.1.1;have hA2:=hRA.2.1.1;obtain⟨U,hU⟩:∃U,U=AH r.cube.1 r.cube.2:=⟨_,rfl⟩;have hUl:U.length=13:=by rw[hU];exact(Dj _ _).1
 have hMl:r.cube.2.length=13:=hr.2.1;have hVl:r.cube.1.length=13:=hr.1.1;rw[←hU] at HCA HNA HWI;obtain⟨nY,hnY⟩:∃nY,nY=Y.length:=⟨_,rfl⟩;have K0:Hid (((w.alloc (.cells (hv H) 23)).alloc (.cells Az 25)).heap[w.heap.size]?=some (.cells (hv H) 23 (0,0))):=Af _ _ _ _ (Ac _ _ _ rfl);have K1:Hid (((w.alloc (.cells (hv H) 23)).alloc (.cells Az 25)).heap[w.heap.size+1]?=some (.cells Az 25 (0,0))):=Ac _ _ _ (by simp);have B0:Hid (Below w.heap.size w ((w.alloc (.cells (hv H) 23)).alloc (.cells Az 25))):=((aP _ _).alloc (aO _) _).alloc (by simp) _;clear hl hl0 hF hH hr hWH hRc hcH hE hRn hRA hA hN hU hY hnY;go_enter aR,Tryz.ntmps88
 go_wp2_with (first
  | (refine Dk rfl _ rfl w.heap.size rfl H K0.out hHl ?_))
 refine(HLK.out _ B0.out).mono ?_;rintro e w1 ⟨rfl,hb1⟩;have hbw:Below w.heap.size w w1:=B0.out.trans (hb1.mono B0.out.size);have B1:Hid (Below w.heap.size w (w1.alloc (.cells (AE r) 174))):=hbw.alloc hbw.size _;have R0:Hid ((w1.alloc (.cells (AE r) 174)).heap[w.heap.size]?=some (.cells (hv H) 23 (0,0))):=Af _ _ _ _ ((hb1.block _ (by simp;omega)).trans K0.out);have R1:Hid ((w1.alloc (.cells (AE r) 174)).heap[w.heap.size+1]?=some (.cells Az 25 (0,0))):=Af _ _ _ _ ((hb1.block _ (by simp)).trans K1.out);obtain⟨gr,hgr⟩:∃gr,gr=w1.heap.size:=⟨_,rfl⟩;have R2:Hid ((w1.alloc (.cells (AE r) 174)).heap[gr]?=some (.cells (AE r) 174 (0,0))):=Ac _ _ _ hgr
 have hgr2:w.heap.size+2≤gr:=by
  rw[hgr];have:=hb1.size;simp at this;omega
 have E2:Hid (w1.alloc (.cells (AE r) 174)=w1.alloc (.cells (AE r) 174)):=rfl;clear hb1 K0 K1 B0 hbw
 go_wp2_with (first
  | (refine FM (E:=Dh) Fg rfl _ _ rfl w1.heap.size (AE r) (GC HR.out) rfl rfl _ (Ac _ _ _ rfl) rfl _ (BD _ _ _ _ _ rfl) ?_)
  | (refine Fu (E:=Dh) Fg rfl _ rfl w1.heap.size 0 rfl _ _ _ (AE r) hrs (Ac _ _ _ rfl) (AA _ _) ?_))
 refine(HIX.out _ B1.out).mono ?_;rintro e w2 ⟨rfl,hb2⟩;rw[←hgr];have B2:Hid (Below w.heap.size w w2):=B1.out.trans (hb2.mono B1.out.size);have S0:Hid (w2.heap[w.heap.size]?=some (.cells (hv H) 23 (0,0))):=(hb2.block _ (aA.1 R0.out).1).trans R0.out;have S1:Hid (w2.heap[w.heap.size+1]?=some (.cells Az 25 (0,0))):=(hb2.block _ (aA.1 R1.out).1).trans R1.out;have S2:Hid (w2.heap[gr]?=some (.cells (AE r) 174 (0,0))):=(hb2.block _ (aA.1 R2.out).1).trans R2.out;clear hb2 R0 R1 R2 B1 E2 hgr;go_wp2_with fail;refine(HWY.out _ B2.out).mono ?_;rintro e w3 ⟨⟨u,rfl,hu⟩,hb3⟩;have B3:Hid (Below w.heap.size w w3):=B2.out.trans (hb3.mono B2.out.size);have T0:Hid (w3.heap[w.heap.size]?=some (.cells (hv H) 23 (0,0))):=(hb3.block _ (aA.1 S0.out).1).trans S0.out;have T1:Hid (w3.heap[w.heap.size+1]?=some (.cells Az 25 (0,0))):=(hb3.block _ (aA.1 S1.out).1).trans S1.out;have T2:Hid (w3.heap[gr]?=some (.cells (AE r) 174 (0,0))):=(hb3.block _ (aA.1 S2.out).1).trans S2.out;have T3:Hid (Sl w3 u Y):=Afm hu HWB.out;clear hb3 S0 S1 S2 B2 hu
 go_wp2_with (first
  | (refine LR rfl _ rfl gr 1 rfl _ _ _ r.cube.1 r.cube.2 hVl hMl T2.out (Hv HR.out).2.1 ?_))
 refine(HCA.out _).mono ?_;rintro e w4 ⟨rfl,hb4⟩;have hbw:Below w.heap.size w w4:=B3.out.trans (hb4.mono B3.out.size);have B5:Hid (Below w.heap.size w (w4.alloc (.cells (cv U r.cube.2) 25))):=hbw.alloc hbw.size _;have V0:Hid ((w4.alloc (.cells (cv U r.cube.2) 25)).heap[w.heap.size]?=some (.cells (hv H) 23 (0,0))):=Af _ _ _ _ ((hb4.block _ (aA.1 T0.out).1).trans T0.out);have V1:Hid ((w4.alloc (.cells (cv U r.cube.2) 25)).heap[w.heap.size+1]?=some (.cells Az 25 (0,0))):=Af _ _ _ _ ((hb4.block _ (aA.1 T1.out).1).trans T1.out);have V2:Hid ((w4.alloc (.cells (cv U r.cube.2) 25)).heap[gr]?=some (.cells (AE r) 174 (0,0))):=Af _ _ _ _ ((hb4.block _ (aA.1 T2.out).1).trans T2.out);have V3:Hid ((w4.alloc (.cells (cv U r.cube.2) 25)).heap[w4.heap.size]?=some (.cells (cv U r.cube.2) 25 (0,0))):=Ac _ _ _ rfl;have V4:Hid (Sl (w4.alloc (.cells (cv U r.cube.2) 25)) u Y):=(T3.out.below hb4).below ((aP _ _).alloc (aO _) _);have hz4:w.heap.size+1<w4.heap.size:=Nat.lt_of_lt_of_le (aA.1 T1.out).1 hb4.size;clear hb4 T0 T1 T2 T3 B3 hbw
 go_wp2_with (first
  | (refine Bq rfl _ _ rfl w4.heap.size U r.cube.2 rfl rfl _ (Ac _ _ _ rfl) rfl hUl hMl _ (BD _ _ _ _ _ rfl) ?_))
 obtain⟨w5,hw5⟩:∃w5,w5=w4.alloc (.cells (cv U r.cube.2) 25):=⟨_,rfl⟩;obtain⟨g4,hg4⟩:∃g4,g4=w4.heap.size:=⟨_,rfl⟩;obtain⟨g1,hg1⟩:∃g1,g1=w.heap.size+1:=⟨_,rfl⟩;have hne:g1≠w.heap.size∧g1≠gr:=by omega
 have hne4:g1≠g4:=by omega
 have hg1w:w.heap.size≤g1:=by omega
 simp only[aJ];rw[←hw5] at B5 V0 V1 V2 V3 V4 ⊢;rw[←hg4] at V3 ⊢;rw[←hg1] at V1;rw[←hg1];clear hw5 hg4 hg1 hz4 hgr2;refine En (fun a a' w'=> ∃y28 y29 y30 y31 y32 y33 y34 y35 y36,a'=(((((((((((a.put (some 28) y28).put (some 29) y29).put (some 30) y30).put (some 32) y32).put (some 33) y33).put (some 35) y35).put (some 36) y36).put (some 31) y31).put (some 34) y34).put (some 5) (.int .i64 r.action)).put (some 6) (.bool true))∧w'.heap[g1]?=some (.cells (cv A1 A2) 25 (0,0))∧Below w.heap.size w w') ?_ ?_
 ·have ne9:Nonempty (V6 w.heap.size gr g4 H r U r.cube.2):=⟨⟨w5,V0.out,V2.out,V3.out⟩⟩;have e27:∀z:V6 w.heap.size gr g4 H r U r.cube.2,z.world.cell? ⟨gr,27,none⟩=some (.int .i64 r.action):=fun z=>(cell_of_row _ _ _ _ _ _ z.k2).trans (Hv HR.out).2.2;have hS0:IM w.heap.size gr g4 H r U r.cube.2 (aG w5):=IM.of V0.out V2.out V3.out;refine BJ (IM w.heap.size gr g4 H r U r.cube.2) 12 rfl (by kernel_rfl) ?_;refine rE 0 3 9 hS0 ?_;simp only[aK,aQ,aT];refine US rfl _ rfl g4 0 rfl _ _ _ U r.cube.2 hUl hMl (fun w' h=>by obtain⟨z,rfl⟩:=h;exact z.k3) (AA _ _) ?_;simp only[aJ,aB,aC,aD];go_big_quiet_step (fail);refine Ij rfl 23 _ rfl w.heap.size rfl 23 (hv H) (0,0) _ (fun w' h=>by obtain⟨z,rfl⟩:=h;exact z.k1) Tryz.underlying23 rfl (Ic H hHl) ?_;simp only[aJ,aB,aC,aD];refine wpQuiet_nil ?_;refine rE 4 2 7 hS0 ?_;simp only[aH,aK,aQ,aT]
  refine US rfl _ rfl g4 0 rfl _ _ _ U r.cube.2 hUl hMl (fun w' h=>by obtain⟨z,rfl⟩:=h;exact z.k3) (AA _ _) ?_;simp only[aJ,aB,aC,aD];go_big_quiet_step (fail);refine wpQuiet_nil ?_;refine rE 7 2 5 hS0 ?_;simp only[aH,aK,aQ,aT];go_big_quiet_step (fail);go_big_quiet_step (fail);refine wpQuiet_nil ?_;have hd0:Below w5.heap.size w5 (aG w5):=(aP _ _).drew;refine rO 3 ?_;refine Bp rfl rfl 117 #[.tmp 28,.tmp 29,.tmp 30] (by intro b w;have hf:=Tryz.func117;simp[go_sem]) #[.agg (cv U r.cube.2),u,.agg (hv H)] rfl (fun v w'=>v=.agg (cv N1 N2)∧Below (aG w5).heap.size (aG w5) w') ((HNA.out _ _ (V4.out.below hd0)).mono fun e w' h=>⟨_,h.1,rfl,h.2⟩) (some 31) rfl ?_;rintro v x1 ⟨rfl,k1⟩;have h1:Below w5.heap.size w5 x1:=hd0.trans (k1.mono hd0.size);have a0:=(h1.block _ (aA.1 V0.out).1).trans V0.out;have a2:=(h1.block _ (aA.1 V2.out).1).trans V2.out;have a3:=(h1.block _ (aA.1 V3.out).1).trans V3.out;refine⟨IM.of a0 a2 a3,?_⟩
  simp only[aJ,aB,aC,aD];refine rO 6 ?_;refine Bp rfl rfl 116 #[.tmp 31,.tmp 32,.tmp 33] (by intro b w;have hf:=Tryz.func116;simp[go_sem]) #[.agg (cv N1 N2),.agg (cv U r.cube.2),u] rfl (fun v w'=>v=.agg (cv A1 A2)∧Below x1.heap.size x1 w') ((HWI.out _ _ (V4.out.below h1)).mono fun e w' h=>⟨_,h.1,rfl,h.2⟩) (some 34) rfl ?_;rintro v x2 ⟨rfl,k2⟩;have h2:Below w5.heap.size w5 x2:=h1.trans (k2.mono h1.size);have b0:=(h2.block _ (aA.1 V0.out).1).trans V0.out;have b1:=(h2.block _ (aA.1 V1.out).1).trans V1.out;have b2:=(h2.block _ (aA.1 V2.out).1).trans V2.out;have b3:=(h2.block _ (aA.1 V3.out).1).trans V3.out;refine⟨IM.of b0 b2 b3,?_⟩;simp only[aJ,aB,aC,aD];refine rO 9 ?_;refine S8 rfl rfl _ _ rfl g1 A1 A2 rfl rfl _ b1 rfl hA1 hA2 none rfl ?_;have c0:=(setRow_other x2 g1 w.heap.size (cv A1 A2) (Ne.symm hne.1)).trans b0;have c1:(x2.setRow g1 (cv A1 A2)).heap[g1]?=some (.cells (cv A1 A2) 25 (0,0)):=setRow_heap _ _ _ _ _ _ b1;have c2:=(setRow_other x2 g1 gr (cv A1 A2) (Ne.symm hne.2)).trans b2
  have c3:=(setRow_other x2 g1 g4 (cv A1 A2) (Ne.symm hne4)).trans b3;refine⟨IM.of c0 c2 c3,?_⟩;refine rO 10 ?_;refine Kt rfl rfl _ rfl _ rfl (some 5) rfl ?_;refine⟨IM.of c0 c2 c3,?_⟩;refine rO 11 ?_;refine Kt rfl rfl _ rfl _ rfl (some 6) rfl ?_;refine⟨IM.of c0 c2 c3,?_⟩;refine wpAnyH_done (by kernel_rfl) ?_ _;exact⟨rfl,_,_,_,_,_,_,_,_,_,rfl,c1,Ak (B5.out.trans (h2.mono B5.out.size)) hg1w _⟩
 ·rintro a' w' ⟨y28,y29,y30,y31,y32,y33,y34,y35,y36,rfl,hq,hbq⟩;simp only[aJ,aB,aC,aD];go_wp2_with fail;exact WK (p:=4) (u:=5) (t:=6) rfl rfl g1 rfl A1 A2 hA1 hA2 hq _ _ rfl rfl ⟨rfl,hbq⟩
theorem XC{n:Ap Ay}(hk:DA n.hold)(e:Int):Vn n e=Fr n.hold e:=by
 unfold Vn
 cases hf:Fr n.hold e with
 | false=>rw[Bool.and_false]
 | true=>
  have h1:=(Hn.1 hf).1;obtain⟨h2,h3⟩:=hk.two e h1;rw[Bool.and_true,Bool.and_eq_true,decide_eq_true_eq,Bool.or_eq_true,decide_eq_true_eq,decide_eq_true_eq];exact⟨by omega,h2⟩
def Kp(R:Rm)(S:Ay)(e:Int)(h:List Int):((List Int×List Int)×Int)×Bool:=match (Ar R).about S e h with
 | some (c,a)=>((c,a),true)
 | none=>(((Z,Z),0),false)
theorem TP(R:Rm)(S:Ay)(e:Int)(hok:∀s∈S.a,E6 s.cube)(hl:S.a.length≤100000)(vl:Value)(hd:List Int)(hH:Ax hd)(W:World)(hr:DF W vl (qX S e)):
  Calls aI 88 #[vl,.agg (hv hd)] W fun x w'=>x=.returned (.tuple #[.agg (cv (Kp R S e hd).1.1.1 (Kp R S e hd).1.1.2),.int .i64 (Kp R S e hd).1.2,.bool (Kp R S e hd).2])∧Below W.heap.size W w':=by
 have hq:∀r∈qX S e,D0 r:=fun r hr=>by
  obtain⟨s,h1,_,rfl⟩:=Aau hr;exact hok s h1
 have hlen:=Aav S e;unfold Kp;rw[Ob];rcases Sx (qX S e) hd with ⟨k,r,hf⟩ | hn
 ·rw[Ur hf];exact X7 (qX S e) hq (by omega) vl hd hH k r hf W hr
 ·rw[Yb hn];exact Aam (qX S e) hq vl hd hH hn W hr
theorem Nj(R:Rm)(n:Ap Ay)(hk:DA n.hold)(src:Int)(m:Aj):D9 (Ar R) n src m=if Fr n.hold (Ad m 1)=true then (if (Kp R n.tab (Ad m 1) m.head).2=true then (BX {n with load:=if n.load<281474976710655 then n.load+1 else n.load} src (Cg 7 (Ad m 0) (Ad m 1) 0 0 0 0 (Kp R n.tab (Ad m 1) m.head).1.2 0 0 0 0 (Ad m 11) 0 (Kp R n.tab (Ad m 1) m.head).1.1 Z),true) else (n,false)) else (n,false):=by
 unfold D9 Kp;rw[XC hk]
 cases Fr n.hold (Ad m 1) with
 | false=>rfl
 | true=>
  rw[if_pos rfl,if_pos rfl]
  cases (Ar R).about n.tab (Ad m 1) m.head with
  | none=>rfl
  | some p=>rfl
def J7:El:=⟨25,177,26,26,Az⟩
theorem NS:J7.Ok:=⟨Tryz.underlying177,⟨_,aV,rfl⟩,by kernel_rfl,by decide,by decide,by decide,by decide⟩
theorem SW(B:Nat)(w:World)(g gt gh gw:Nat)(R:Rm)(n:Ap Ay)(r:DU)(h:BT B w g gt gh gw R n r){M:Nat}(hi:AQ M R n)(hM:M≤900000)(src:Int)(m:Aj)(hm:Bj m)(hn:∀j,BG (Ad m j)):
  Calls aI 59 #[.pointer (some ⟨g,0,none⟩),.int .i64 src,.agg (Ah m)] w fun e w'=>e=.returned (.bool (D9 (Ar R) n src m).2)∧CZ B w w' g gt gh gw R (D9 (Ar R) n src m).1 r:=by
 obtain⟨w0,hw0⟩:∃w0,w0=w.alloc (.cells (Ah m) 27):=⟨_,rfl⟩;have B0:Below w.heap.size w w0:=by rw[hw0];exact(aP _ _).alloc (aO _) _
 have Z0:w0.heap[w.heap.size]?=some (.cells (Ah m) 27 (0,0)):=by rw[hw0];exact Ac _ _ _ rfl
 have A0:An B w w0 g gt gh gw R n r (fun k=>k=w.heap.size):=An.begin h B0 (by rintro k rfl;exact⟨aO _,by rw[hw0,AI];exact Nat.lt_succ_self _⟩);have HHS:Hid ((hv m.head).size=13):=by show _=_;rw[DE];exact hm.2.2.2.1
 have HHC:Hid (∀j,j<13→(Ah m)[40+j]?=(hv m.head)[j]?):=fun j hj=>Js hm j hj;have HD0:Hid _:=Nj R n hi.hold.ok src m;have HLB0:BG n.load:=hi.load;obtain⟨ep,hep⟩:∃ep,ep=Ad m 1:=⟨_,rfl⟩;have HEP:Hid (ep=Ad m 1):=hep;have HM:Hid (Bj m):=hm;have HMN:Hid (∀j,BG (Ad m j)):=hn;have HIN:Hid (AQ M R n∧M≤900000):=⟨hi,hM⟩;obtain⟨fu,hfu⟩:∃fu,fu=Fr n.hold (Ad m 1):=⟨_,rfl⟩;obtain⟨cc,hcc⟩:∃cc,cc=(Kp R n.tab (Ad m 1) m.head).1.1:=⟨_,rfl⟩;obtain⟨ac,hac⟩:∃ac,ac=(Kp R n.tab (Ad m 1) m.head).1.2:=⟨_,rfl⟩;obtain⟨ok,hok⟩:∃ok,ok=(Kp R n.tab (Ad m 1) m.head).2:=⟨_,rfl⟩;have CR:Hid (∀W O,An B w W g gt gh gw R n r O→Calls aI 89 #[.pointer (some ⟨g,0,none⟩),.int .i64 ep] W fun e w'=>(∃v,e=.returned v∧DF w' v (qX n.tab ep))∧Below W.heap.size W w'):=fun W O hW=>hW.ask fun u hu=>Th B W g gt gh gw R n u hu hi ep
 have CA:Hid (∀W vl,DF W vl (qX n.tab ep)→Calls aI 88 #[vl,.agg (hv m.head)] W fun e w'=>e=.returned (.tuple #[.agg (cv cc.1 cc.2),.int .i64 ac,.bool ok])∧Below W.heap.size W w'):=fun W vl hr=>by
  rw[hcc,hac,hok, ←hep];have hc1:=hi.tab.inv.la;have hc2:=hi.room;exact TP R n.tab ep (fun s hs=>(hi.tab.inv.a s hs).2.2.2.2.2.2.2) (by omega) vl m.head hm.2.2.2 W hr
 rw[←hfu, ←hcc, ←hac, ←hok, ←hep] at HD0
 have HCX:Hid (Ax cc.1∧Ax cc.2∧(ok=true→Afi cc∧BG ac)):=by
  rw[hcc,hac,hok];unfold Kp
  cases hab:(Ar R).about n.tab (Ad m 1) m.head with
  | none=>exact⟨AX,AX,fun e=>absurd e (by decide)⟩
  | some q=>
   obtain⟨q1,q2⟩:=q;obtain⟨x1,_,s,hs,_,x3⟩:=VY hab fun s hs=>(hi.tab.inv.a s hs).2.2.2.2.2.2.2;exact⟨x1.2.1,x1.2.2,fun _=>⟨x1,by rw[←x3];exact hi.act s hs⟩⟩
 have HCC:Hid ((cv cc.1 cc.2).size=26∧(cv cc.1 cc.2).all (·.oneCell')=true):=⟨AO _ _ HCX.out.1.1 HCX.out.2.1.1,FL _ _⟩;obtain⟨lo,hlo⟩:∃lo,lo=n.load:=⟨_,rfl⟩;have HLO:Hid (lo=n.load):=hlo;have HLB:Hid (0≤lo∧lo≤281474976710655):=by rw[hlo];exact HLB0
 obtain⟨nu,hnu⟩:∃nu,nu=n.num:=⟨_,rfl⟩;obtain⟨le,hle⟩:∃le,le=n.lease:=⟨_,rfl⟩;obtain⟨be,hbe⟩:∃be,be=n.beat:=⟨_,rfl⟩;have HNU:Hid (n.num=nu∧n.lease=le∧n.beat=be):=⟨hnu.symm,hle.symm,hbe.symm⟩;have c5:∀u:Al w0,u.world.cell? ⟨g,5,none⟩=some (.pointer (some ⟨gh,0,none⟩)):=fun u=>by obtain⟨x,hx⟩:=(A0.below u.below).ndV;exact hx.f.c5
 have e2:∀u:Al w0,u.world.cell? ⟨w.heap.size,2,none⟩=some (.int .i64 ep):=fun u=>by rw[HEP.out];exact(Ci HM.out ((u.below.block _ (aA.1 Z0).1).trans Z0)).n 1 (by decide)
 have CF:∀u:Al w0,Calls aI 87 #[.pointer (some ⟨gh,0,none⟩),.int .i64 ep] u.world fun e w'=>e=.returned (.bool fu)∧Below u.world.heap.size u.world w':=fun u=>by rw[hfu, ←hep];exact(A0.below u.below).ask fun x hx=>XE _ gh n.hold hx.hold ep
 have ne9:=Al.ne w0;have HA0:Hid (∀W,Below w0.heap.size w0 W→An B w W g gt gh gw R n r (fun k=>k=w.heap.size)∧W.heap[w.heap.size]?=some (.cells (Ah m) 27 (0,0))):=fun W hW=>⟨A0.below hW,(hW.block _ (aA.1 Z0).1).trans Z0⟩;have hw0':=hw0.symm;have HOK0:Hid (ok=ok):=rfl;clear hi hM hm hn hep hfu hcc hac hok HLB0 hlo hnu hle hbe A0 B0 Z0 hw0 h;go_enter Tryz.func59,Tryz.ntmps59;go_wp2_with fail;refine AR (by kernel_rfl) (by kernel_rfl) ?_
 iterate 6 (go_big_quiet_step (fail))
 go_big_quiet_want;go_big_quiet_op;refine⟨_,fun u=>Calls.later_of (CF u),?_⟩;go_big_quiet_on;go_big_quiet_step (fail);refine wpQuiet_nil ?_;rintro w' ⟨uL,rfl⟩;obtain⟨w1,hw1⟩:∃w1,w1=uL.world:=⟨_,rfl⟩;have A1:Hid (An B w (aG w1) g gt gh gw R n r (fun k=>k=w.heap.size)):=by show An _ _ _ _ _ _ _ _ _ _ _;rw[hw1];exact(HA0.out _ uL.below.drew).1
 have A1':Hid (An B w w1 g gt gh gw R n r (fun k=>k=w.heap.size)):=by show An _ _ _ _ _ _ _ _ _ _ _;rw[hw1];exact(HA0.out _ uL.below).1
 have Z1:Hid ((aG w1).heap[w.heap.size]?=some (.cells (Ah m) 27 (0,0))):=by show _=_;rw[hw1];exact(HA0.out _ uL.below.drew).2
 have HS1:Hid (Dv g gt gh gw nu le be (fun W=>W.heap[w.heap.size]?=some (.cells (Ah m) 27 (0,0))) (aG w1)):=A1.out.inN HNU.out.1 HNU.out.2.1 HNU.out.2.2 Z1.out;rw[←hw1];clear hw1 uL CF c5 e2 ne9 HA0 hw0'
 cases fu with
 | false=>
  go_wp2_with fail;go_ret;exact⟨by rw[HD0.out,if_neg (by decide)];rfl,by rw[HD0.out,if_neg (by decide)];exact A1'.out.to⟩
 | true=>
  have HFU:Hid (true=true):=rfl;go_wp2_with fail;have ne9:Nonempty (Fh g gt gh gw nu le be (fun W=>W.heap[w.heap.size]?=some (.cells (Ah m) 27 (0,0)))):=by obtain⟨z,_⟩:=HS1.out;exact⟨z⟩
  have q2:∀z:Fh g gt gh gw nu le be (fun W=>W.heap[w.heap.size]?=some (.cells (Ah m) 27 (0,0))),z.world.cell? ⟨w.heap.size,2,none⟩=some (.int .i64 ep):=fun z=>by rw[HEP.out];exact(Ci HM.out z.x).n 1 (by decide)
  refine Em ?_;refine BJ (Dv g gt gh gw nu le be (fun W=>W.heap[w.heap.size]?=some (.cells (Ah m) 27 (0,0)))) 15 rfl (by kernel_rfl) ?_;refine AV [0,1,4,2,5] 5 10 rfl (by kernel_rfl) (by decide) (by kernel_rfl) (by kernel_rfl) (by intro d v c a w h;exact absurd h.1 (by simp)) HS1.out ?_;simp only[Df,aL,aM,aH,aK,aN]
  iterate 4 (go_big_quiet_step (fail))
  refine G5 Iw rfl _ rfl w.heap.size 40 rfl _ _ _ (hv m.head) HHS.out (fun w' h=>by obtain⟨z,rfl⟩:=h;exact z.x) HHC.out ?_;simp only[aJ,aB,aC,aD];refine wpQuiet_nil ?_;refine wpAnyH_all (rs:=[3,11]) (by kernel_rfl) (by decide) ?_;intro i hi;simp only[List.mem_cons,aW,or_false] at hi;rcases hi with rfl | rfl
  ·refine Bp rfl rfl 89 #[.tmp 19,.tmp 21] (by intro b w;have hf:=Tryz.func89;simp[go_sem]) #[.pointer (some ⟨g,0,none⟩),.int .i64 ep] rfl (fun v w'=>DF w' v (qX n.tab ep)∧Below (aG w1).heap.size (aG w1) w') ((CR.out (aG w1) _ A1.out).mono fun e w' h=>by obtain⟨⟨v,rfl,h1⟩,h2⟩:=h;exact⟨v,rfl,h1,h2⟩) (some 22) rfl ?_;rintro vr w2 ⟨hr2,hb2⟩;have R2:Hid (DF w2 vr (qX n.tab ep)):=hr2;have B2:Hid (Below (aG w1).heap.size (aG w1) w2):=hb2;clear hr2 hb2;have Aw2:Hid (An B w w2 g gt gh gw R n r (fun k=>k=w.heap.size)):=A1.out.below B2.out;have Zw2:Hid (w2.heap[w.heap.size]?=some (.cells (Ah m) 27 (0,0))):=(B2.out.block _ (aA.1 (Z1.out)).1).trans Z1.out;have Iw2:Hid (Dv g gt gh gw nu le be (fun W=>W.heap[w.heap.size]?=some (.cells (Ah m) 27 (0,0))) w2):=Aw2.out.inN HNU.out.1 HNU.out.2.1 HNU.out.2.2 Zw2.out;refine⟨Iw2.out,?_⟩;simp only[aJ,aB,aC,aD];refine wpAnyH_all (rs:=[6,11]) (by kernel_rfl) (by decide) ?_;intro i hi;simp only[List.mem_cons,aW,or_false] at hi;rcases hi with rfl | rfl
   focus
    refine Bp rfl rfl 88 #[.tmp 22,.tmp 24] (by intro b w;have hf:=aR;simp[go_sem]) #[vr,.agg (hv m.head)] rfl (fun v w'=>v=.tuple #[.agg (cv cc.1 cc.2),.int .i64 ac,.bool ok]∧Below (w2).heap.size (w2) w') ((CA.out (w2) vr R2.out).mono fun e w' h=>⟨_,h.1,rfl,h.2⟩) (some 25) rfl ?_;rintro v w4 ⟨rfl,hb4⟩;have B4:Hid (Below (w2).heap.size (w2) w4):=hb4;clear hb4;have Aw4:Hid (An B w w4 g gt gh gw R n r (fun k=>k=w.heap.size)):=Aw2.out.below B4.out;have Zw4:Hid (w4.heap[w.heap.size]?=some (.cells (Ah m) 27 (0,0))):=(B4.out.block _ (aA.1 (Zw2.out)).1).trans Zw2.out;have Iw4:Hid (Dv g gt gh gw nu le be (fun W=>W.heap[w.heap.size]?=some (.cells (Ah m) 27 (0,0))) w4):=Aw4.out.inN HNU.out.1 HNU.out.2.1 HNU.out.2.2 Zw4.out;refine⟨Iw4.out,?_⟩;simp only[aJ,aB,aC,aD];refine AV [7,8,9,10] 4 4 rfl (by kernel_rfl) (by decide) (by kernel_rfl) (by kernel_rfl) (by intro d v c a w h;exact absurd h.1 (by simp)) Iw4.out ?_;simp only[Df,aL,aM,aH,aK,aN]
    iterate 4 (go_big_quiet_step (fail))
    refine wpQuiet_nil ?_;refine Bb 11 (by kernel_rfl) ?_;refine Hi NS rfl rfl rfl (some 7) rfl ?_;obtain⟨p,hp⟩:∃p,p=(w4).heap.size:=⟨_,rfl⟩;rw[←hp];obtain⟨wa,hwa⟩:∃wa,wa=(w4).alloc (.cells J7.zero J7.elem):=⟨_,rfl⟩;rw[←hwa];have Ba:Hid (Below (w4).heap.size (w4) wa):=by show Below _ _ _;rw[hwa];exact(aP _ _).alloc (aO _) _
    have Awa:Hid (An B w wa g gt gh gw R n r (fun k=>k=w.heap.size∨k=p)):=by show An _ _ _ _ _ _ _ _ _ _ _;rw[hwa,hp];exact Aw4.out.newRow _ _
    have Zwa:Hid (wa.heap[w.heap.size]?=some (.cells (Ah m) 27 (0,0))):=(Ba.out.block _ (aA.1 (Zw4.out)).1).trans Zw4.out;have Iwa:Hid (Dv g gt gh gw nu le be (fun W=>W.heap[w.heap.size]?=some (.cells (Ah m) 27 (0,0))) wa):=Awa.out.inN HNU.out.1 HNU.out.2.1 HNU.out.2.2 Zwa.out;have Ywa:Hid (wa.heap[p]?=some (.cells Az 25 (0,0))):=by show _=_;rw[hwa];exact Ac _ _ _ hp
    have Hp:Hid (w.heap.size≠p):=by show _≠_;have:=(aA.1 (Zw4.out)).1;omega
    clear hp hwa;refine⟨Iwa.out,?_⟩;simp only[aJ,aB,aC,aD];refine Bb 12 (by kernel_rfl) ?_;refine Gx Ds rfl rfl _ _ rfl p (cv cc.1 cc.2) HCC.out rfl rfl _ Ywa.out rfl none rfl ?_;obtain⟨w3,hw3⟩:∃w3,w3=(wa).setRow p (cv cc.1 cc.2):=⟨_,rfl⟩;rw[←hw3];have A3:Hid (An B w w3 g gt gh gw R n r (fun k=>k=w.heap.size∨k=p)):=by show An _ _ _ _ _ _ _ _ _ _ _;rw[hw3];exact Awa.out.row (.inr rfl) _
    have Z3:Hid (w3.heap[w.heap.size]?=some (.cells (Ah m) 27 (0,0))):=by show _=_;rw[hw3,setRow_other _ _ _ _ Hp.out];exact Zwa.out
    have Y3:Hid (w3.heap[p]?=some (.cells (cv cc.1 cc.2) 25 (0,0))):=by show _=_;rw[hw3];exact setRow_heap _ _ _ _ _ _ Ywa.out
   rotate_left
   focus
    refine Hi NS rfl rfl rfl (some 7) rfl ?_;obtain⟨p,hp⟩:∃p,p=(w2).heap.size:=⟨_,rfl⟩;rw[←hp];obtain⟨wa,hwa⟩:∃wa,wa=(w2).alloc (.cells J7.zero J7.elem):=⟨_,rfl⟩;rw[←hwa];have Ba:Hid (Below (w2).heap.size (w2) wa):=by show Below _ _ _;rw[hwa];exact(aP _ _).alloc (aO _) _
    have Awa:Hid (An B w wa g gt gh gw R n r (fun k=>k=w.heap.size∨k=p)):=by show An _ _ _ _ _ _ _ _ _ _ _;rw[hwa,hp];exact Aw2.out.newRow _ _
    have Zwa:Hid (wa.heap[w.heap.size]?=some (.cells (Ah m) 27 (0,0))):=(Ba.out.block _ (aA.1 (Zw2.out)).1).trans Zw2.out;have Rwa:Hid (DF wa vr (qX n.tab ep)):=EC.below R2.out Ba.out;have Iwa:Hid (Dv g gt gh gw nu le be (fun W=>W.heap[w.heap.size]?=some (.cells (Ah m) 27 (0,0))) wa):=Awa.out.inN HNU.out.1 HNU.out.2.1 HNU.out.2.2 Zwa.out;have Ywa:Hid (wa.heap[p]?=some (.cells Az 25 (0,0))):=by show _=_;rw[hwa];exact Ac _ _ _ hp
    have Hp:Hid (w.heap.size≠p):=by show _≠_;have:=(aA.1 (Zw2.out)).1;omega
    clear hp hwa;refine⟨Iwa.out,?_⟩;simp only[aJ,aB,aC,aD];refine Bb 6 (by kernel_rfl) ?_;refine Bp rfl rfl 88 #[.tmp 22,.tmp 24] (by intro b w;have hf:=aR;simp[go_sem]) #[vr,.agg (hv m.head)] rfl (fun v w'=>v=.tuple #[.agg (cv cc.1 cc.2),.int .i64 ac,.bool ok]∧Below (wa).heap.size (wa) w') ((CA.out (wa) vr Rwa.out).mono fun e w' h=>⟨_,h.1,rfl,h.2⟩) (some 25) rfl ?_;rintro v w4 ⟨rfl,hb4⟩;have B4:Hid (Below (wa).heap.size (wa) w4):=hb4;clear hb4;have Aw4:Hid (An B w w4 g gt gh gw R n r (fun k=>k=w.heap.size∨k=p)):=Awa.out.below B4.out;have Zw4:Hid (w4.heap[w.heap.size]?=some (.cells (Ah m) 27 (0,0))):=(B4.out.block _ (aA.1 (Zwa.out)).1).trans Zwa.out;have Yw4:Hid (w4.heap[p]?=some (.cells Az 25 (0,0))):=(B4.out.block _ (aA.1 (Ywa.out)).1).trans Ywa.out;have Iw4:Hid (Dv g gt gh gw nu le be (fun W=>W.heap[w.heap.size]?=some (.cells (Ah m) 27 (0,0))) w4):=Aw4.out.inN HNU.out.1 HNU.out.2.1 HNU.out.2.2 Zw4.out;refine⟨Iw4.out,?_⟩;simp only[aJ,aB,aC,aD];refine AV [7,8,9,10] 4 3 rfl (by kernel_rfl) (by decide) (by kernel_rfl) (by kernel_rfl) (by intro d v c a w h;exact absurd h.1 (by simp)) Iw4.out ?_
    simp only[Df,aL,aM,aH,aK,aN]
    iterate 4 (go_big_quiet_step (fail))
    refine wpQuiet_nil ?_;refine Bb 12 (by kernel_rfl) ?_;refine Gx Ds rfl rfl _ _ rfl p (cv cc.1 cc.2) HCC.out rfl rfl _ Yw4.out rfl none rfl ?_;obtain⟨w3,hw3⟩:∃w3,w3=(w4).setRow p (cv cc.1 cc.2):=⟨_,rfl⟩;rw[←hw3];have A3:Hid (An B w w3 g gt gh gw R n r (fun k=>k=w.heap.size∨k=p)):=by show An _ _ _ _ _ _ _ _ _ _ _;rw[hw3];exact Aw4.out.row (.inr rfl) _
    have Z3:Hid (w3.heap[w.heap.size]?=some (.cells (Ah m) 27 (0,0))):=by show _=_;rw[hw3,setRow_other _ _ _ _ Hp.out];exact Zw4.out
    have Y3:Hid (w3.heap[p]?=some (.cells (cv cc.1 cc.2) 25 (0,0))):=by show _=_;rw[hw3];exact setRow_heap _ _ _ _ _ _ Yw4.out
   all_goals
    clear hw3;have I3:Hid (Dv g gt gh gw nu le be (fun W=>W.heap[w.heap.size]?=some (.cells (Ah m) 27 (0,0))) w3):=A3.out.inN HNU.out.1 HNU.out.2.1 HNU.out.2.2 Z3.out;refine⟨I3.out,?_⟩;simp only[aJ];refine AV [13,14] 2 0 rfl (by kernel_rfl) (by decide) (by kernel_rfl) (by kernel_rfl) (by intro d v c a w h;exact absurd h.1 (by simp)) I3.out ?_;simp only[Df,aL,aM,aH,aK,aN];go_big_quiet_step (fail);go_big_quiet_step (fail);refine wpQuiet_nil ?_;refine wpAnyH_done (by kernel_rfl) ?_ _;refine⟨rfl,?_⟩
    cases ok
    focus
     go_wp2_with fail;go_ret;have e9:D9 (Ar R) n src m=(n,false):=by rw[HD0.out];simp
     exact⟨by rw[e9];rfl,by rw[e9];exact A3.out.to⟩
    have c3:w3.cell? ⟨g,3,none⟩=some (.int .i64 lo):=by obtain⟨u,hu⟩:=A3.out.ndV;rw[HLO.out];exact hu.f.c3
    have fz:w3.frozen? ⟨g,3,none⟩=false:=by obtain⟨u,hu⟩:=A3.out.ndV;exact hu.f.fz 3
    have lo1:=HLB.out.1;have lo2:=HLB.out.2;obtain⟨w4,hw4⟩:∃w4,w4=w3.setCell ⟨g,3,none⟩ (.int .i64 (min (lo+1) 281474976710655)):=⟨_,rfl⟩;obtain⟨n4,hn4⟩:∃n4:Ap Ay,n4={n with load:=min (lo+1) 281474976710655}:=⟨_,rfl⟩
    have HST:=A3.out.step (W':=w4) (n'':=n4) fun u hu=>by
     obtain⟨h1,h2⟩:=hu.setCell (j:=3) (v:=.int .i64 (min (lo+1) 281474976710655)) (n':={n with load:=min (lo+1) 281474976710655}) (u:=u) rfl rfl rfl rfl rfl rfl rfl rfl hu.post hu.log;rw[hw4,hn4];exact⟨u,h1,hu.part (i:=0) (by decide) h2 (fun _ _=>rfl) fun _ e=> .inl e⟩
    have A4:Hid (An B w w4 g gt gh gw R n4 r (fun k=>k=w.heap.size∨k=p)):=HST.1;have Z4:Hid (w4.heap[w.heap.size]?=some (.cells (Ah m) 27 (0,0))):=(HST.2 _ (.inl rfl)).trans Z3.out;have Y4:Hid (w4.heap[p]?=some (.cells (cv cc.1 cc.2) 25 (0,0))):=(HST.2 _ (.inr rfl)).trans Y3.out;obtain⟨inc,hinc⟩:∃inc,inc=Ad m 0:=⟨_,rfl⟩;obtain⟨sq,hsq⟩:∃sq,sq=Ad m 11:=⟨_,rfl⟩;have m1:w4.cell? ⟨w.heap.size,1,none⟩=some (.int .i64 inc):=by rw[hinc];exact(Ci HM.out Z4.out).n 0 (by decide)
    have m2:w4.cell? ⟨w.heap.size,2,none⟩=some (.int .i64 ep):=by rw[HEP.out];exact(Ci HM.out Z4.out).n 1 (by decide)
    have m12:w4.cell? ⟨w.heap.size,12,none⟩=some (.int .i64 sq):=by rw[hsq];exact(Ci HM.out Z4.out).n 11 (by decide)
    have HD9:Hid (D9 (Ar R) n src m=(BX n4 src (Cg 7 inc ep 0 0 0 0 ac 0 0 0 0 sq 0 cc Z),true)):=by
     have el:(if n.load<281474976710655 then n.load+1 else n.load)=min (lo+1) 281474976710655:=by rw[HLO.out];have h1:=HLB.out.2;rw[HLO.out] at h1;split <;> omega
     show _=_;rw[HD0.out,hn4,hinc,hsq,el];simp
    have CS:=A4.out.call (n'':=BX n4 src (Cg 7 inc ep 0 0 0 0 ac 0 0 0 0 sq 0 cc Z)) (P:=fun e _=>e=.returned (.tuple #[])) fun u hu=>Ig B w4 g gt gh gw R n4 u hu (by rw[hn4];have h1:=HIN.out.1.post;have h2:=HIN.out.2;show n.post.length≤_;omega) src _ (KK _ _ _ _ _ _ _ _ _ _ _ _ _ _ ⟨HCX.out.1,HCX.out.2.1⟩ AX) (RN (by rw[hinc];exact HMN.out 0) (by rw[HEP.out];exact HMN.out 1) (HCX.out.2.2 (by trivial)).2 (by rw[hsq];exact HMN.out 11) (HCX.out.2.2 (by trivial)).1.1);obtain⟨n9,hn9⟩:∃n9,n9=BX n4 src (Cg 7 inc ep 0 0 0 0 ac 0 0 0 0 sq 0 cc Z):=⟨_,rfl⟩;rw[←hn9] at CS HD9;have hw4':=hw4.symm;clear hw4 hn4 hn9 HST hinc hsq
    go_wp2_with (first
     | ((with_reducible refine Bf 25 _ rfl ?_);refine Bc Ds rfl _ rfl p 0 rfl _ _ _ (cv cc.1 cc.2) HCC.out.1 Y4.out (AA _ _) ?_)
     | ((with_reducible refine BP 27 _ rfl ?_);refine Jq rfl _ _ rfl #[(0,.int .i64 7),(1,.int .i64 inc),(12,.int .i64 sq),(2,.int .i64 ep),(7,.int .i64 ac),(14,.agg (cv cc.1 cc.2))] (by simp only[aX,aL,aM];rfl) _ (SM inc sq ep ac HCX.out.1.1 HCX.out.2.1.1 _) ?_)
     | (go_at_call 53;refine CS.mono ?_;rintro e w9 ⟨rfl,a9,_⟩;have A9:Hid (An B w w9 g gt gh gw R n9 r (fun k=>k=w.heap.size∨k=p)):=a9;clear a9 CS))
    go_ret;exact⟨by rw[HD9.out];rfl,by rw[HD9.out];exact A9.out.to⟩
  ·refine Hi NS rfl rfl rfl (some 7) rfl ?_;obtain⟨p,hp⟩:∃p,p=(aG w1).heap.size:=⟨_,rfl⟩;rw[←hp];obtain⟨wa,hwa⟩:∃wa,wa=(aG w1).alloc (.cells J7.zero J7.elem):=⟨_,rfl⟩;rw[←hwa];have Ba:Hid (Below (aG w1).heap.size (aG w1) wa):=by show Below _ _ _;rw[hwa];exact(aP _ _).alloc (aO _) _
   have Awa:Hid (An B w wa g gt gh gw R n r (fun k=>k=w.heap.size∨k=p)):=by show An _ _ _ _ _ _ _ _ _ _ _;rw[hwa,hp];exact A1.out.newRow _ _
   have Zwa:Hid (wa.heap[w.heap.size]?=some (.cells (Ah m) 27 (0,0))):=(Ba.out.block _ (aA.1 (Z1.out)).1).trans Z1.out;have Iwa:Hid (Dv g gt gh gw nu le be (fun W=>W.heap[w.heap.size]?=some (.cells (Ah m) 27 (0,0))) wa):=Awa.out.inN HNU.out.1 HNU.out.2.1 HNU.out.2.2 Zwa.out;have Ywa:Hid (wa.heap[p]?=some (.cells Az 25 (0,0))):=by show _=_;rw[hwa];exact Ac _ _ _ hp
   have Hp:Hid (w.heap.size≠p):=by show _≠_;have:=(aA.1 (Z1.out)).1;omega
   clear hp hwa;refine⟨Iwa.out,?_⟩;simp only[aJ,aB,aC,aD];refine Bb 3 (by kernel_rfl) ?_;refine Bp rfl rfl 89 #[.tmp 19,.tmp 21] (by intro b w;have hf:=Tryz.func89;simp[go_sem]) #[.pointer (some ⟨g,0,none⟩),.int .i64 ep] rfl (fun v w'=>DF w' v (qX n.tab ep)∧Below (wa).heap.size (wa) w') ((CR.out (wa) _ Awa.out).mono fun e w' h=>by obtain⟨⟨v,rfl,h1⟩,h2⟩:=h;exact⟨v,rfl,h1,h2⟩) (some 22) rfl ?_;rintro vr w2 ⟨hr2,hb2⟩;have R2:Hid (DF w2 vr (qX n.tab ep)):=hr2;have B2:Hid (Below (wa).heap.size (wa) w2):=hb2;clear hr2 hb2;have Aw2:Hid (An B w w2 g gt gh gw R n r (fun k=>k=w.heap.size∨k=p)):=Awa.out.below B2.out;have Zw2:Hid (w2.heap[w.heap.size]?=some (.cells (Ah m) 27 (0,0))):=(B2.out.block _ (aA.1 (Zwa.out)).1).trans Zwa.out;have Yw2:Hid (w2.heap[p]?=some (.cells Az 25 (0,0))):=(B2.out.block _ (aA.1 (Ywa.out)).1).trans Ywa.out;have Iw2:Hid (Dv g gt gh gw nu le be (fun W=>W.heap[w.heap.size]?=some (.cells (Ah m) 27 (0,0))) w2):=Aw2.out.inN HNU.out.1 HNU.out.2.1 HNU.out.2.2 Zw2.out;refine⟨Iw2.out,?_⟩;simp only[aJ,aB,aC,aD];refine Bb 6 (by kernel_rfl) ?_
   refine Bp rfl rfl 88 #[.tmp 22,.tmp 24] (by intro b w;have hf:=aR;simp[go_sem]) #[vr,.agg (hv m.head)] rfl (fun v w'=>v=.tuple #[.agg (cv cc.1 cc.2),.int .i64 ac,.bool ok]∧Below (w2).heap.size (w2) w') ((CA.out (w2) vr R2.out).mono fun e w' h=>⟨_,h.1,rfl,h.2⟩) (some 25) rfl ?_;rintro v w4 ⟨rfl,hb4⟩;have B4:Hid (Below (w2).heap.size (w2) w4):=hb4;clear hb4;have Aw4:Hid (An B w w4 g gt gh gw R n r (fun k=>k=w.heap.size∨k=p)):=Aw2.out.below B4.out;have Zw4:Hid (w4.heap[w.heap.size]?=some (.cells (Ah m) 27 (0,0))):=(B4.out.block _ (aA.1 (Zw2.out)).1).trans Zw2.out;have Yw4:Hid (w4.heap[p]?=some (.cells Az 25 (0,0))):=(B4.out.block _ (aA.1 (Yw2.out)).1).trans Yw2.out;have Iw4:Hid (Dv g gt gh gw nu le be (fun W=>W.heap[w.heap.size]?=some (.cells (Ah m) 27 (0,0))) w4):=Aw4.out.inN HNU.out.1 HNU.out.2.1 HNU.out.2.2 Zw4.out;refine⟨Iw4.out,?_⟩;simp only[aJ,aB,aC,aD];refine AV [7,8,9,10] 4 3 rfl (by kernel_rfl) (by decide) (by kernel_rfl) (by kernel_rfl) (by intro d v c a w h;exact absurd h.1 (by simp)) Iw4.out ?_;simp only[Df,aL,aM,aH,aK,aN]
   iterate 4 (go_big_quiet_step (fail))
   refine wpQuiet_nil ?_;refine Bb 12 (by kernel_rfl) ?_;refine Gx Ds rfl rfl _ _ rfl p (cv cc.1 cc.2) HCC.out rfl rfl _ Yw4.out rfl none rfl ?_;obtain⟨w3,hw3⟩:∃w3,w3=(w4).setRow p (cv cc.1 cc.2):=⟨_,rfl⟩;rw[←hw3];have A3:Hid (An B w w3 g gt gh gw R n r (fun k=>k=w.heap.size∨k=p)):=by show An _ _ _ _ _ _ _ _ _ _ _;rw[hw3];exact Aw4.out.row (.inr rfl) _
   have Z3:Hid (w3.heap[w.heap.size]?=some (.cells (Ah m) 27 (0,0))):=by show _=_;rw[hw3,setRow_other _ _ _ _ Hp.out];exact Zw4.out
   have Y3:Hid (w3.heap[p]?=some (.cells (cv cc.1 cc.2) 25 (0,0))):=by show _=_;rw[hw3];exact setRow_heap _ _ _ _ _ _ Yw4.out
   clear hw3;have I3:Hid (Dv g gt gh gw nu le be (fun W=>W.heap[w.heap.size]?=some (.cells (Ah m) 27 (0,0))) w3):=A3.out.inN HNU.out.1 HNU.out.2.1 HNU.out.2.2 Z3.out;refine⟨I3.out,?_⟩;simp only[aJ];refine AV [13,14] 2 0 rfl (by kernel_rfl) (by decide) (by kernel_rfl) (by kernel_rfl) (by intro d v c a w h;exact absurd h.1 (by simp)) I3.out ?_;simp only[Df,aL,aM,aH,aK,aN];go_big_quiet_step (fail);go_big_quiet_step (fail);refine wpQuiet_nil ?_;refine wpAnyH_done (by kernel_rfl) ?_ _;refine⟨rfl,?_⟩
   cases ok
   focus
    go_wp2_with fail;go_ret;have e9:D9 (Ar R) n src m=(n,false):=by rw[HD0.out];simp
    exact⟨by rw[e9];rfl,by rw[e9];exact A3.out.to⟩
   have c3:w3.cell? ⟨g,3,none⟩=some (.int .i64 lo):=by obtain⟨u,hu⟩:=A3.out.ndV;rw[HLO.out];exact hu.f.c3
   have fz:w3.frozen? ⟨g,3,none⟩=false:=by obtain⟨u,hu⟩:=A3.out.ndV;exact hu.f.fz 3
   have lo1:=HLB.out.1;have lo2:=HLB.out.2;obtain⟨w4,hw4⟩:∃w4,w4=w3.setCell ⟨g,3,none⟩ (.int .i64 (min (lo+1) 281474976710655)):=⟨_,rfl⟩;obtain⟨n4,hn4⟩:∃n4:Ap Ay,n4={n with load:=min (lo+1) 281474976710655}:=⟨_,rfl⟩
   have HST:=A3.out.step (W':=w4) (n'':=n4) fun u hu=>by
    obtain⟨h1,h2⟩:=hu.setCell (j:=3) (v:=.int .i64 (min (lo+1) 281474976710655)) (n':={n with load:=min (lo+1) 281474976710655}) (u:=u) rfl rfl rfl rfl rfl rfl rfl rfl hu.post hu.log;rw[hw4,hn4];exact⟨u,h1,hu.part (i:=0) (by decide) h2 (fun _ _=>rfl) fun _ e=> .inl e⟩
   have A4:Hid (An B w w4 g gt gh gw R n4 r (fun k=>k=w.heap.size∨k=p)):=HST.1;have Z4:Hid (w4.heap[w.heap.size]?=some (.cells (Ah m) 27 (0,0))):=(HST.2 _ (.inl rfl)).trans Z3.out;have Y4:Hid (w4.heap[p]?=some (.cells (cv cc.1 cc.2) 25 (0,0))):=(HST.2 _ (.inr rfl)).trans Y3.out;obtain⟨inc,hinc⟩:∃inc,inc=Ad m 0:=⟨_,rfl⟩;obtain⟨sq,hsq⟩:∃sq,sq=Ad m 11:=⟨_,rfl⟩;have m1:w4.cell? ⟨w.heap.size,1,none⟩=some (.int .i64 inc):=by rw[hinc];exact(Ci HM.out Z4.out).n 0 (by decide)
   have m2:w4.cell? ⟨w.heap.size,2,none⟩=some (.int .i64 ep):=by rw[HEP.out];exact(Ci HM.out Z4.out).n 1 (by decide)
   have m12:w4.cell? ⟨w.heap.size,12,none⟩=some (.int .i64 sq):=by rw[hsq];exact(Ci HM.out Z4.out).n 11 (by decide)
   have HD9:Hid (D9 (Ar R) n src m=(BX n4 src (Cg 7 inc ep 0 0 0 0 ac 0 0 0 0 sq 0 cc Z),true)):=by
    have el:(if n.load<281474976710655 then n.load+1 else n.load)=min (lo+1) 281474976710655:=by rw[HLO.out];have h1:=HLB.out.2;rw[HLO.out] at h1;split <;> omega
    show _=_;rw[HD0.out,hn4,hinc,hsq,el];simp
   have CS:=A4.out.call (n'':=BX n4 src (Cg 7 inc ep 0 0 0 0 ac 0 0 0 0 sq 0 cc Z)) (P:=fun e _=>e=.returned (.tuple #[])) fun u hu=>Ig B w4 g gt gh gw R n4 u hu (by rw[hn4];have h1:=HIN.out.1.post;have h2:=HIN.out.2;show n.post.length≤_;omega) src _ (KK _ _ _ _ _ _ _ _ _ _ _ _ _ _ ⟨HCX.out.1,HCX.out.2.1⟩ AX) (RN (by rw[hinc];exact HMN.out 0) (by rw[HEP.out];exact HMN.out 1) (HCX.out.2.2 (by trivial)).2 (by rw[hsq];exact HMN.out 11) (HCX.out.2.2 (by trivial)).1.1);obtain⟨n9,hn9⟩:∃n9,n9=BX n4 src (Cg 7 inc ep 0 0 0 0 ac 0 0 0 0 sq 0 cc Z):=⟨_,rfl⟩;rw[←hn9] at CS HD9;have hw4':=hw4.symm;clear hw4 hn4 hn9 HST hinc hsq
   go_wp2_with (first
    | ((with_reducible refine Bf 25 _ rfl ?_);refine Bc Ds rfl _ rfl p 0 rfl _ _ _ (cv cc.1 cc.2) HCC.out.1 Y4.out (AA _ _) ?_)
    | ((with_reducible refine BP 27 _ rfl ?_);refine Jq rfl _ _ rfl #[(0,.int .i64 7),(1,.int .i64 inc),(12,.int .i64 sq),(2,.int .i64 ep),(7,.int .i64 ac),(14,.agg (cv cc.1 cc.2))] (by simp only[aX,aL,aM];rfl) _ (SM inc sq ep ac HCX.out.1.1 HCX.out.2.1.1 _) ?_)
    | (go_at_call 53;refine CS.mono ?_;rintro e w9 ⟨rfl,a9,_⟩;have A9:Hid (An B w w9 g gt gh gw R n9 r (fun k=>k=w.heap.size∨k=p)):=a9;clear a9 CS))
   go_ret;exact⟨by rw[HD9.out];rfl,by rw[HD9.out];exact A9.out.to⟩
end
end Go.Proofs.YtbhkoipcpcoooabGreat
