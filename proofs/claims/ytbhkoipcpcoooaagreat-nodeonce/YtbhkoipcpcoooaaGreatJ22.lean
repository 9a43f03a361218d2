import Derived.Test.YtbhkoipcpcoooaaGreatJ21
import Derived.Test.YtbhkoipcpcoooaaGreatJ20
namespace Go.Proofs.YtbhkoipcpcoooaaGreat
set_option maxRecDepth 20000
set_option maxHeartbeats 64000000
open Go
open Go.World renaming drew → aA
open Go.Proofs.Tryz renaming prog → aB, func154 → aR, underlying37 → aV
open _root_.List renaming drop_succ_cons → aC, setIfInBounds_toArray → aG, drop_zero → aH, map_cons → aK, set_cons_succ → aL, set_cons_zero → aM, map_nil → aN, take_succ_cons → aO, headD_cons → aP, take_zero → aT, map_toArray → aX, mem_filter → aY
open _root_.Array renaming getElem?_eq_some_iff → aD
open _root_.Nat renaming le_refl → aI, lt_succ_self → aW
open Go.RowKit.Below renaming refl → aJ
open Go.Act renaming put → aQ
section
open Go.RowKit
theorem Aec{fn:Func}{R:Ending→World→Prop}{a:Act}{w:World}{p u t:Tmp}(hr:fn.results=#[.cell p 37,.tmp u,.tmp t])(hd:a.defers=[])(g:Nat)(hp:a.tmps.getD p undef=.pointer (some ⟨g,0,none⟩))(V M:List Int)(hV:V.length=13)(hM:M.length=13)
  (hg:w.heap[g]?=some (.cells (cv V M) 37 (0,0))) (v z:Value) (hu:a.tmps.getD u undef=v) (ht:a.tmps.getD t undef=z) (h:R (.returned (.tuple #[.agg (cv V M),v,z])) w):bodyPost aB fn R .ret a w:=by
 refine bodyPost_ret (v:=.tuple #[.agg (cv V M),v,z]) ?_ hd h;have hp':a.tmps[p]?.getD undef=.pointer (some ⟨g,0,none⟩):=by simpa using hp
 have hu':a.tmps[u]?.getD undef=v:=by simpa using hu
 have ht':a.tmps[t]?.getD undef=z:=by simpa using ht
 simp[results,hr,hp',hu',ht',asAddr,run_loadVar_row w g 37 37 (cv V M) (0,0) _ hg aV rfl (Nq V M hV hM)]
structure Acx(gh gr go:Nat)(H:List Int)(r:Bp)(U N:List Int) where
 world:World
 k1:world.heap[gh]?=some (.cells (hv H) 35 (0,0))
 k2:world.heap[gr]?=some (.cells (Bd r) 189 (0,0))
 k3:world.heap[go]?=some (.cells (cv U N) 37 (0,0))
abbrev LI(gh gr go:Nat)(H:List Int)(r:Bp)(U N:List Int)(w:World):Prop:=∃z:Acx gh gr go H r U N,w=z.world
theorem LI.of{gh gr go:Nat}{H:List Int}{r:Bp}{U N:List Int}{w:World}(h1:w.heap[gh]?=some (.cells (hv H) 35 (0,0)))(h2:w.heap[gr]?=some (.cells (Bd r) 189 (0,0)))(h3:w.heap[go]?=some (.cells (cv U N) 37 (0,0))):LI gh gr go H r U N w:=⟨⟨w,h1,h2,h3⟩,rfl⟩
theorem Aku(l:List Bp)(hl0:∀r∈l,Fz r)(vl:Value)(H:List Int)(hH:AK H)(hF:∀x∈l,Kb H x=false)(w:World)(hl:Fv w vl l):
  Calls aB 154 #[vl,.agg (hv H)] w fun e w'=>e=.returned (.tuple #[.agg (cv Z Z),.int .i64 0,.bool false])∧Below w.heap.size w w':=by
 have hHl:=hH.1
 have HLK:Hid (∀W,Below w.heap.size w W→Calls aB 183 #[vl,.agg (hv H)] W fun e w'=>e=.returned (.tuple #[.agg (Bd KJ),.bool false])∧Below W.heap.size W w'):=fun W hb=>by
  have:=W7 l hl0 vl H hH W (Ee.below hl hb);rwa [YM hF] at this
 have K0:Hid (((w.alloc (.cells (hv H) 35)).alloc (.cells AE 37)).heap[w.heap.size]?=some (.cells (hv H) 35 (0,0))):=Ah _ _ _ _ (Ab _ _ _ rfl);have K1:Hid (((w.alloc (.cells (hv H) 35)).alloc (.cells AE 37)).heap[w.heap.size+1]?=some (.cells AE 37 (0,0))):=Ab _ _ _ (by simp);have B0:Hid (Below w.heap.size w ((w.alloc (.cells (hv H) 35)).alloc (.cells AE 37))):=((aJ _ _).alloc (aI _) _).alloc (by simp) _;have HZ:Hid _:=UB;clear hl hl0 hF hH;go_enter aR,Tryz.ntmps154;go_wp2_with (refine Ej rfl _ rfl w.heap.size rfl H K0.out hHl ?_);refine(HLK.out _ B0.out).mono ?_;rintro e w1 ⟨rfl,hb1⟩
 have B1:Hid (Below w.heap.size w (w1.alloc (.cells (Bd KJ) 189))):=by
  have hb:=B0.out.trans (hb1.mono B0.out.size);exact hb.alloc hb.size _
 have R1:Hid ((w1.alloc (.cells (Bd KJ) 189)).heap[w.heap.size+1]?=some (.cells AE 37 (0,0))):=Ah _ _ _ _ ((hb1.block _ (by simp)).trans K1.out);clear hb1 K0 K1 B0
 go_wp2_with (first
  | (refine EK (E:=Eh) G1 rfl _ _ rfl w1.heap.size (Bd KJ) (Ji RE) rfl rfl _ (Ab _ _ _ rfl) rfl _ (Bo _ _ _ _ _ rfl) ?_)
  | (refine BQ rfl _ _ rfl (w.heap.size+1) Z Z rfl (by rw[←J7];rfl) _ R1.out rfl BO.1 BO.1 _ rfl ?_))
 refine Aec (p:=4) (u:=5) (t:=6) rfl rfl (w.heap.size+1) rfl Z Z BO.1 BO.1 (setRow_heap _ _ _ _ _ _ R1.out) _ _ rfl rfl ⟨rfl,?_⟩;exact Aj B1.out (by omega) _
theorem Agy(l:List Bp)(hl0:∀r∈l,Fz r)(hn1:l.length≤100000)(vl:Value)(H:List Int)(hH:AK H)(p:Nat)(r:Bp)(hF:Gd l H p r)(w:World)(hl:Fv w vl l):
  Calls aB 154 #[vl,.agg (hv H)] w fun e w'=>e=.returned (.tuple #[.agg (cv (Hl (E5 (l.take p)) r.cube H).1 (Hl (E5 (l.take p)) r.cube H).2),.int .i64 r.action,.bool true])∧Below w.heap.size w w':=by
 have hHl:=hH.1;have hr:=hl0 r hF.mem;have hrs:=FV hr;have HR:Hid _:=hr
 have HLK:Hid (∀W,Below w.heap.size w W→Calls aB 183 #[vl,.agg (hv H)] W fun e w'=>e=.returned (.tuple #[.agg (Bd r),.bool true])∧Below W.heap.size W w'):=fun W hb=>by
  have:=W7 l hl0 vl H hH W (Ee.below hl hb);rwa [hF.look] at this
 have HIX:Hid (∀W,Below w.heap.size w W→Calls aB 185 #[vl,.agg (Bd r)] W fun e w'=>e=.returned (.int .i64 (p:Int))∧Below W.heap.size W w'):=fun W hb=>YW l hl0 vl H p r hF W (Ee.below hl hb);have HWY:Hid (∀W,Below w.heap.size w W→Calls aB 184 #[vl,.int .i64 (p:Int)] W fun e w'=>(∃u,e=.returned u∧w'.ownsRow W.heap.size 37 26 u (IV (E5 (l.take p)) r.cube).length (FD (IV (E5 (l.take p)) r.cube)))∧Below W.heap.size W w'):=fun W hb=>Aft l hl0 hn1 vl p r hF.at_ W (Ee.below hl hb);have HCA:Hid (∀W,Calls aB 182 #[.agg (cv r.cube.1 r.cube.2)] W fun e w'=>e=.returned (.agg (cv (AZ r.cube.1 r.cube.2) r.cube.2))∧Below W.heap.size W w'):=fun W=>Ir r.cube.1 r.cube.2 hr.1 hr.2 W
 have HWB:Hid (Acz (IV (E5 (l.take p)) r.cube)):=fun c hc=>by
  have:=(aY.1 hc).1;obtain⟨x,hx,rfl⟩:=List.mem_map.1 this;exact hl0 x (List.mem_of_mem_take hx)
 have hWH:∀x∈IV (E5 (l.take p)) r.cube,has x.1 x.2 H=false:=fun x hx=>hF.ahead x (aY.1 hx).1;have hRc:=PW r.cube.1 r.cube.2 hr.2;have hcH:has (AZ r.cube.1 r.cube.2) r.cube.2 H=true:=QX (Ur r.cube.1 r.cube.2) hF.has_;have hE:=Agz (A:=E5 (l.take p)) hr.2 hF.has_ hF.ahead;obtain⟨Y,hY⟩:=eX (IV (E5 (l.take p)) r.cube);rw[←hY] at HWY HWB hWH hE;have HNA:Hid (∀v W,Sl W v Y→Calls aB 187 #[.agg (cv (AZ r.cube.1 r.cube.2) r.cube.2),v,.agg (hv H)] W fun e w'=>e=.returned (.agg (cv (Dh H (AZ r.cube.1 r.cube.2,r.cube.2) Y).1 (Dh H (AZ r.cube.1 r.cube.2,r.cube.2) Y).2))∧Below W.heap.size W w'):=fun v W hs=>Aaz (AZ r.cube.1 r.cube.2,r.cube.2) Y H hH hRc hcH hWH v W hs;have hRn:=(Ol Y (AZ r.cube.1 r.cube.2,r.cube.2) hcH hWH hRc).2.2.2;have HWI:Hid (∀v W,Sl W v Y→Calls aB 186 #[.agg (cv (Dh H (AZ r.cube.1 r.cube.2,r.cube.2) Y).1 (Dh H (AZ r.cube.1 r.cube.2,r.cube.2) Y).2),.agg (cv (AZ r.cube.1 r.cube.2) r.cube.2),v] W fun e w'=>e=.returned (.agg (cv (Ef Y r.cube.2 104 (Dh H (AZ r.cube.1 r.cube.2,r.cube.2) Y)).1 (Ef Y r.cube.2 104 (Dh H (AZ r.cube.1 r.cube.2,r.cube.2) Y)).2))∧Below W.heap.size W w'):=fun v W hs=>Ad6 (Dh H (AZ r.cube.1 r.cube.2,r.cube.2) Y) (AZ r.cube.1 r.cube.2,r.cube.2) Y hRn hRc.1 hRc.2.1 v W hs
 have hRA:=(Ym (A:=E5 (l.take p)) hr.2 hF.has_ hF.ahead).2.2.2.1;rw[hE] at HWI;obtain⟨A1,A2,hA⟩:∃A1 A2,Hl (E5 (l.take p)) r.cube H=(A1,A2):=⟨_,_,rfl⟩;obtain⟨N1,N2,hN⟩:∃N1 N2,Dh H (AZ r.cube.1 r.cube.2,r.cube.2) Y=(N1,N2):=⟨_,_,rfl⟩;rw[hN] at HNA HWI;rw[hA] at HWI hRA ⊢;dsimp only at HNA HWI ⊢;have hA1:=hRA.1.1;have hA2:=hRA.2.1.1;obtain⟨U,hU⟩:=eX (AZ r.cube.1 r.cube.2);have hUl:U.length=13:=by rw[hU];exact(D7 _ _).1
 have hMl:r.cube.2.length=13:=hr.2.1;have hVl:r.cube.1.length=13:=hr.1.1;rw[←hU] at HCA HNA HWI;obtain⟨nY,hnY⟩:=eX Y.length;have K0:Hid (((w.alloc (.cells (hv H) 35)).alloc (.cells AE 37)).heap[w.heap.size]?=some (.cells (hv H) 35 (0,0))):=Ah _ _ _ _ (Ab _ _ _ rfl);have K1:Hid (((w.alloc (.cells (hv H) 35)).alloc (.cells AE 37)).heap[w.heap.size+1]?=some (.cells AE 37 (0,0))):=Ab _ _ _ (by simp);have B0:Hid (Below w.heap.size w ((w.alloc (.cells (hv H) 35)).alloc (.cells AE 37))):=((aJ _ _).alloc (aI _) _).alloc (by simp) _;clear hl hl0 hF hH hr hWH hRc hcH hE hRn hRA hA hN hU hY hnY;go_enter aR,Tryz.ntmps154;go_wp2_with (refine Ej rfl _ rfl w.heap.size rfl H K0.out hHl ?_);refine(HLK.out _ B0.out).mono ?_;rintro e w1 ⟨rfl,hb1⟩;have hbw:Below w.heap.size w w1:=B0.out.trans (hb1.mono B0.out.size);have B1:Hid (Below w.heap.size w (w1.alloc (.cells (Bd r) 189))):=hbw.alloc hbw.size _;have R0:Hid ((w1.alloc (.cells (Bd r) 189)).heap[w.heap.size]?=some (.cells (hv H) 35 (0,0))):=Ah _ _ _ _ ((hb1.block _ (by simp;omega)).trans K0.out);have R1:Hid ((w1.alloc (.cells (Bd r) 189)).heap[w.heap.size+1]?=some (.cells AE 37 (0,0))):=Ah _ _ _ _ ((hb1.block _ (by simp)).trans K1.out);obtain⟨gr,hgr⟩:=eX w1.heap.size
 have R2:Hid ((w1.alloc (.cells (Bd r) 189)).heap[gr]?=some (.cells (Bd r) 189 (0,0))):=Ab _ _ _ hgr
 have hgr2:w.heap.size+2≤gr:=by
  rw[hgr];have:=hb1.size;simp at this;omega
 have E2:Hid (w1.alloc (.cells (Bd r) 189)=w1.alloc (.cells (Bd r) 189)):=rfl;clear hb1 K0 K1 B0 hbw
 go_wp2_with (first
  | (refine EK (E:=Eh) G1 rfl _ _ rfl w1.heap.size (Bd r) (Ji HR.out) rfl rfl _ (Ab _ _ _ rfl) rfl _ (Bo _ _ _ _ _ rfl) ?_)
  | (refine Eu (E:=Eh) G1 rfl _ rfl w1.heap.size 0 rfl _ _ _ (Bd r) hrs (Ab _ _ _ rfl) (Ar _ _) ?_))
 refine(HIX.out _ B1.out).mono ?_;rintro e w2 ⟨rfl,hb2⟩;rw[←hgr];have B2:Hid _:=B1.out.trans (hb2.mono B1.out.size);have S0:Hid (w2.heap[w.heap.size]?=some (.cells (hv H) 35 (0,0))):=(hb2.block _ (gS R0.out)).trans R0.out;have S1:Hid (w2.heap[w.heap.size+1]?=some (.cells AE 37 (0,0))):=(hb2.block _ (gS R1.out)).trans R1.out;have S2:Hid (w2.heap[gr]?=some (.cells (Bd r) 189 (0,0))):=(hb2.block _ (gS R2.out)).trans R2.out;clear hb2 R0 R1 R2 B1 E2 hgr;go_wp2_with fail;refine(HWY.out _ B2.out).mono ?_;rintro e w3 ⟨⟨u,rfl,hu⟩,hb3⟩;have B3:Hid _:=B2.out.trans (hb3.mono B2.out.size);have T0:Hid (w3.heap[w.heap.size]?=some (.cells (hv H) 35 (0,0))):=(hb3.block _ (gS S0.out)).trans S0.out;have T1:Hid (w3.heap[w.heap.size+1]?=some (.cells AE 37 (0,0))):=(hb3.block _ (gS S1.out)).trans S1.out;have T2:Hid (w3.heap[gr]?=some (.cells (Bd r) 189 (0,0))):=(hb3.block _ (gS S2.out)).trans S2.out;have T3:Hid (Sl w3 u Y):=Aq1 hu HWB.out;clear hb3 S0 S1 S2 B2 hu;go_wp2_with (refine PK rfl _ rfl gr 1 rfl _ _ _ r.cube.1 r.cube.2 hVl hMl T2.out (Ko HR.out).2.1 ?_);refine(HCA.out _).mono ?_;rintro e w4 ⟨rfl,hb4⟩
 have hbw:Below w.heap.size w w4:=B3.out.trans (hb4.mono B3.out.size);have B5:Hid (Below w.heap.size w (w4.alloc (.cells (cv U r.cube.2) 37))):=hbw.alloc hbw.size _;have V0:Hid ((w4.alloc (.cells (cv U r.cube.2) 37)).heap[w.heap.size]?=some (.cells (hv H) 35 (0,0))):=Ah _ _ _ _ ((hb4.block _ (gS T0.out)).trans T0.out);have V1:Hid ((w4.alloc (.cells (cv U r.cube.2) 37)).heap[w.heap.size+1]?=some (.cells AE 37 (0,0))):=Ah _ _ _ _ ((hb4.block _ (gS T1.out)).trans T1.out);have V2:Hid ((w4.alloc (.cells (cv U r.cube.2) 37)).heap[gr]?=some (.cells (Bd r) 189 (0,0))):=Ah _ _ _ _ ((hb4.block _ (gS T2.out)).trans T2.out);have V3:Hid ((w4.alloc (.cells (cv U r.cube.2) 37)).heap[w4.heap.size]?=some (.cells (cv U r.cube.2) 37 (0,0))):=Ab _ _ _ rfl;have V4:Hid (Sl (w4.alloc (.cells (cv U r.cube.2) 37)) u Y):=(T3.out.below hb4).below ((aJ _ _).alloc (aI _) _);have hz4:w.heap.size+1<w4.heap.size:=Nat.lt_of_lt_of_le (gS T1.out) hb4.size;clear hb4 T0 T1 T2 T3 B3 hbw;go_wp2_with (refine BQ rfl _ _ rfl w4.heap.size U r.cube.2 rfl rfl _ (Ab _ _ _ rfl) rfl hUl hMl _ (Bo _ _ _ _ _ rfl) ?_);obtain⟨w5,hw5⟩:=eX (w4.alloc (.cells (cv U r.cube.2) 37));obtain⟨g4,hg4⟩:=eX w4.heap.size
 obtain⟨g1,hg1⟩:=eX (w.heap.size+1);have hne:g1≠w.heap.size∧g1≠gr:=by omega
 have hne4:g1≠g4:=by omega
 have hg1w:w.heap.size≤g1:=by omega
 simp only[aQ];rw[←hw5] at B5 V0 V1 V2 V3 V4 ⊢;rw[←hg4] at V3 ⊢;rw[←hg1] at V1;rw[←hg1];clear hw5 hg4 hg1 hz4 hgr2;refine EZ (fun a a' w'=> ∃y28 y29 y30 y31 y32 y33 y34 y35 y36,a'=(((((((((((a.put (some 28) y28).put (some 29) y29).put (some 30) y30).put (some 32) y32).put (some 33) y33).put (some 35) y35).put (some 36) y36).put (some 31) y31).put (some 34) y34).put (some 5) (.int .i64 r.action)).put (some 6) (.bool true))∧w'.heap[g1]?=some (.cells (cv A1 A2) 37 (0,0))∧Below w.heap.size w w') ?_ ?_
 ·have ne9:Nonempty (Acx w.heap.size gr g4 H r U r.cube.2):=⟨⟨w5,V0.out,V2.out,V3.out⟩⟩;have e27:∀z:Acx w.heap.size gr g4 H r U r.cube.2,z.world.cell? ⟨gr,27,none⟩=some (.int .i64 r.action):=fun z=>(cell_of_row _ _ _ _ _ _ z.k2).trans (Ko HR.out).2.2;have hS0:LI w.heap.size gr g4 H r U r.cube.2 (aA w5):=LI.of V0.out V2.out V3.out;refine B8 (LI w.heap.size gr g4 H r U r.cube.2) 12 rfl (by kernel_rfl) ?_;refine rE 0 3 9 hS0 ?_;simp only[aH,aO,aT];refine Aar rfl _ rfl g4 0 rfl _ _ _ U r.cube.2 hUl hMl (fun w' h=>by obtain⟨z,rfl⟩:=h;exact z.k3) (Ar _ _) ?_;simp only[pU];go_big_quiet_step (fail);refine KL rfl 35 _ rfl w.heap.size rfl 35 (hv H) (0,0) _ (fun w' h=>by obtain⟨z,rfl⟩:=h;exact z.k1) Tryz.underlying35 rfl (KE H hHl) ?_;simp only[pU];refine wpQuiet_nil ?_;refine rE 4 2 7 hS0 ?_;simp only[aC,aH,aO,aT]
  refine Aar rfl _ rfl g4 0 rfl _ _ _ U r.cube.2 hUl hMl (fun w' h=>by obtain⟨z,rfl⟩:=h;exact z.k3) (Ar _ _) ?_;simp only[pU];go_big_quiet_step (fail);refine wpQuiet_nil ?_;refine rE 7 2 5 hS0 ?_;simp only[aC,aH,aO,aT];go_big_quiet_step (fail);go_big_quiet_step (fail);refine wpQuiet_nil ?_;have hd0:Below w5.heap.size w5 (aA w5):=(aJ _ _).drew;refine rO 3 ?_;refine Bm rfl rfl 187 #[.tmp 28,.tmp 29,.tmp 30] (by intro b w;have hf:=Tryz.func187;simp[go_sem]) #[.agg (cv U r.cube.2),u,.agg (hv H)] rfl (fun v w'=>v=.agg (cv N1 N2)∧Below (aA w5).heap.size (aA w5) w') ((HNA.out _ _ (V4.out.below hd0)).mono fun e w' h=>⟨_,h.1,rfl,h.2⟩) (some 31) rfl ?_;rintro v x1 ⟨rfl,k1⟩;have h1:Below w5.heap.size w5 x1:=hd0.trans (k1.mono hd0.size);have a0:=(h1.block _ (gS V0.out)).trans V0.out;have a2:=(h1.block _ (gS V2.out)).trans V2.out;have a3:=(h1.block _ (gS V3.out)).trans V3.out;refine⟨LI.of a0 a2 a3,?_⟩
  simp only[pU];refine rO 6 ?_;refine Bm rfl rfl 186 #[.tmp 31,.tmp 32,.tmp 33] (by intro b w;have hf:=Tryz.func186;simp[go_sem]) #[.agg (cv N1 N2),.agg (cv U r.cube.2),u] rfl (fun v w'=>v=.agg (cv A1 A2)∧Below x1.heap.size x1 w') ((HWI.out _ _ (V4.out.below h1)).mono fun e w' h=>⟨_,h.1,rfl,h.2⟩) (some 34) rfl ?_;rintro v x2 ⟨rfl,k2⟩;have h2:Below w5.heap.size w5 x2:=h1.trans (k2.mono h1.size);have b0:=(h2.block _ (gS V0.out)).trans V0.out;have b1:=(h2.block _ (gS V1.out)).trans V1.out;have b2:=(h2.block _ (gS V2.out)).trans V2.out;have b3:=(h2.block _ (gS V3.out)).trans V3.out;refine⟨LI.of b0 b2 b3,?_⟩;simp only[pU];refine rO 9 ?_;refine Yr rfl rfl _ _ rfl g1 A1 A2 rfl rfl _ b1 rfl hA1 hA2 none rfl ?_;have c0:=(setRow_other x2 g1 w.heap.size (cv A1 A2) (Ne.symm hne.1)).trans b0;have c1:(x2.setRow g1 (cv A1 A2)).heap[g1]?=some (.cells (cv A1 A2) 37 (0,0)):=setRow_heap _ _ _ _ _ _ b1;have c2:=(setRow_other x2 g1 gr (cv A1 A2) (Ne.symm hne.2)).trans b2
  have c3:=(setRow_other x2 g1 g4 (cv A1 A2) (Ne.symm hne4)).trans b3;refine⟨LI.of c0 c2 c3,?_⟩;refine rO 10 ?_;refine FR rfl rfl _ rfl _ rfl (some 5) rfl ?_;refine⟨LI.of c0 c2 c3,?_⟩;refine rO 11 ?_;refine FR rfl rfl _ rfl _ rfl (some 6) rfl ?_;refine⟨LI.of c0 c2 c3,?_⟩;refine rD ?_;exact⟨rfl,_,_,_,_,_,_,_,_,_,rfl,c1,Aj (B5.out.trans (h2.mono B5.out.size)) hg1w _⟩
 ·rintro a' w' ⟨y28,y29,y30,y31,y32,y33,y34,y35,y36,rfl,hq,hbq⟩;simp only[pU];go_wp2_with fail;exact Aec (p:=4) (u:=5) (t:=6) rfl rfl g1 rfl A1 A2 hA1 hA2 hq _ _ rfl rfl ⟨rfl,hbq⟩
theorem Afw{n:Af Aq}(hk:DO n.hold)(e:Int):Abn n e=Hg n.hold e:=by
 unfold Abn
 cases hf:Hg n.hold e with
 | false=>rw[Bool.and_false]
 | true=>
  have h1:=(Hw.1 hf).1;obtain⟨h2,h3⟩:=hk.two e h1;rw[Bool.and_true,Bool.and_eq_true,decide_eq_true_eq,Bool.or_eq_true,decide_eq_true_eq,decide_eq_true_eq];exact⟨by omega,h2⟩
def NM(R:Rm)(S:Aq)(e:Int)(h:List Int):((List Int×List Int)×Int)×Bool:=match (Al R).about S e h with
 | some (c,a)=>((c,a),true)
 | none=>(((Z,Z),0),false)
theorem Zj(R:Rm)(S:Aq)(e:Int)(hok:∀s∈S.a,GK s.cube)(hl:S.a.length≤100000)(vl:Value)(hd:List Int)(hH:AK hd)(W:World)(hr:Fv W vl (qX S e)):
  Calls aB 154 #[vl,.agg (hv hd)] W fun x w'=>x=.returned (.tuple #[.agg (cv (NM R S e hd).1.1.1 (NM R S e hd).1.1.2),.int .i64 (NM R S e hd).1.2,.bool (NM R S e hd).2])∧Below W.heap.size W w':=by
 have hq:∀r∈qX S e,Fz r:=fun r hr=>by
  obtain⟨s,h1,_,rfl⟩:=Al2 hr;exact hok s h1
 have hlen:=Al3 S e;unfold NM;rw[Sv];rcases XI (qX S e) hd with ⟨k,r,hf⟩ | hn
 ·rw[Z7 hf];exact Agy (qX S e) hq (by omega) vl hd hH k r hf W hr
 ·rw[Ah0 hn];exact Aku (qX S e) hq vl hd hH hn W hr
theorem Ru(R:Rm)(n:Af Aq)(hk:DO n.hold)(src:Int)(m:An):DT (Al R) n src m=if Hg n.hold (Ad m 1)=true then (if (NM R n.tab (Ad m 1) m.head).2=true then (Cx {n with load:=if n.load<281474976710655 then n.load+1 else n.load} src (Cz 7 (Ad m 0) (Ad m 1) 0 0 0 0 (NM R n.tab (Ad m 1) m.head).1.2 0 0 0 0 (Ad m 11) 0 (NM R n.tab (Ad m 1) m.head).1.1 Z),true) else (n,false)) else (n,false):=by
 unfold DT NM;rw[Afw hk]
 cases Hg n.hold (Ad m 1) with
 | false=>rfl
 | true=>
  rw[if_pos rfl,if_pos rfl]
  cases (Al R).about n.tab (Ad m 1) m.head with
  | none=>rfl
  | some p=>rfl
def Nl:El:=⟨37,224,26,26,AE⟩
theorem Sf:Nl.Ok:=⟨Tryz.underlying224,⟨_,aV,rfl⟩,by kernel_rfl,by decide,by decide,by decide,by decide⟩
theorem Yj(B:Nat)(w:World)(g gt gh gw:Nat)(R:Rm)(n:Af Aq)(r:D0)(h:Cb B w g gt gh gw R n r){M:Nat}(hi:Az M R n)(hM:M≤900000)(src:Int)(m:An)(hm:BB m)(hn:∀j,Ch (Ad m j)):
  Calls aB 117 #[.pointer (some ⟨g,0,none⟩),.int .i64 src,.agg (Ae m)] w fun e w'=>e=.returned (.bool (DT (Al R) n src m).2)∧Dl B w w' g gt gh gw R (DT (Al R) n src m).1 r:=by
 obtain⟨w0,hw0⟩:=eX (w.alloc (.cells (Ae m) 39));have B0:Below w.heap.size w w0:=by rw[hw0];exact(aJ _ _).alloc (aI _) _
 have Z0:w0.heap[w.heap.size]?=some (.cells (Ae m) 39 (0,0)):=by rw[hw0];exact Ab _ _ _ rfl
 have A0:Av B w w0 g gt gh gw R n r (fun k=>k=w.heap.size):=Av.begin h B0 (by rintro k rfl;exact⟨aI _,by rw[hw0,Bf];exact aW _⟩);have HHS:Hid ((hv m.head).size=13):=by show _=_;rw[EW];exact hm.2.2.2.1
 have HHC:Hid (∀j,j<13→(Ae m)[40+j]?=(hv m.head)[j]?):=fun j hj=>Lr hm j hj;have HD0:Hid _:=Ru R n hi.hold.ok src m;have HLB0:Ch n.load:=hi.load;obtain⟨ep,hep⟩:=eX (Ad m 1);have HEP:Hid _:=hep;have HM:Hid _:=hm;have HMN:Hid _:=hn;have HIN:Hid (Az M R n∧M≤900000):=⟨hi,hM⟩;obtain⟨fu,hfu⟩:=eX (Hg n.hold (Ad m 1));obtain⟨cc,hcc⟩:=eX ((NM R n.tab (Ad m 1) m.head).1.1);obtain⟨ac,hac⟩:=eX ((NM R n.tab (Ad m 1) m.head).1.2);obtain⟨ok,hok⟩:=eX ((NM R n.tab (Ad m 1) m.head).2);have CR:Hid (∀W O,Av B w W g gt gh gw R n r O→Calls aB 155 #[.pointer (some ⟨g,0,none⟩),.int .i64 ep] W fun e w'=>(∃v,e=.returned v∧Fv w' v (qX n.tab ep))∧Below W.heap.size W w'):=fun W O hW=>hW.ask fun u hu=>YB B W g gt gh gw R n u hu hi ep
 have CA:Hid (∀W vl,Fv W vl (qX n.tab ep)→Calls aB 154 #[vl,.agg (hv m.head)] W fun e w'=>e=.returned (.tuple #[.agg (cv cc.1 cc.2),.int .i64 ac,.bool ok])∧Below W.heap.size W w'):=fun W vl hr=>by
  rw[hcc,hac,hok, ←hep];have hc1:=hi.tab.inv.la;have hc2:=hi.room;exact Zj R n.tab ep (fun s hs=>(hi.tab.inv.a s hs).2.2.2.2.2.2.2) (by omega) vl m.head hm.2.2.2 W hr
 rw[←hfu, ←hcc, ←hac, ←hok, ←hep] at HD0
 have HCX:Hid (AK cc.1∧AK cc.2∧(ok=true→Apx cc∧Ch ac)):=by
  rw[hcc,hac,hok];unfold NM
  cases hab:(Al R).about n.tab (Ad m 1) m.head with
  | none=>exact⟨BO,BO,fun e=>absurd e (by decide)⟩
  | some q=>
   obtain⟨q1,q2⟩:=q;obtain⟨x1,_,s,hs,_,x3⟩:=Acw hab fun s hs=>(hi.tab.inv.a s hs).2.2.2.2.2.2.2;exact⟨x1.2.1,x1.2.2,fun _=>⟨x1,by rw[←x3];exact hi.act s hs⟩⟩
 have HCC:Hid ((cv cc.1 cc.2).size=26∧(cv cc.1 cc.2).all (·.oneCell')=true):=⟨Bq _ _ HCX.out.1.1 HCX.out.2.1.1,Ii _ _⟩;obtain⟨lo,hlo⟩:=eX n.load;have HLO:Hid _:=hlo;have HLB:Hid (0≤lo∧lo≤281474976710655):=by rw[hlo];exact HLB0
 obtain⟨nu,hnu⟩:=eX n.num;obtain⟨le,hle⟩:=eX n.lease;obtain⟨be,hbe⟩:=eX n.beat;have HNU:Hid (n.num=nu∧n.lease=le∧n.beat=be):=⟨hnu.symm,hle.symm,hbe.symm⟩;have c5:∀u:Am w0,u.world.cell? ⟨g,5,none⟩=some (.pointer (some ⟨gh,0,none⟩)):=fun u=>by obtain⟨x,hx⟩:=(A0.below u.below).ndV;exact hx.f.c5
 have e2:∀u:Am w0,u.world.cell? ⟨w.heap.size,2,none⟩=some (.int .i64 ep):=fun u=>by rw[HEP.out];exact(Dm HM.out ((u.below.block _ (gS Z0)).trans Z0)).n 1 (by decide)
 have CF:∀u:Am w0,Calls aB 153 #[.pointer (some ⟨gh,0,none⟩),.int .i64 ep] u.world fun e w'=>e=.returned (.bool fu)∧Below u.world.heap.size u.world w':=fun u=>by rw[hfu, ←hep];exact(A0.below u.below).ask fun x hx=>Afy _ gh n.hold hx.hold ep
 have ne9:=Am.ne w0;have HA0:Hid (∀W,Below w0.heap.size w0 W→Av B w W g gt gh gw R n r (fun k=>k=w.heap.size)∧W.heap[w.heap.size]?=some (.cells (Ae m) 39 (0,0))):=fun W hW=>⟨A0.below hW,(hW.block _ (gS Z0)).trans Z0⟩;have hw0':=hw0.symm;have HOK0:Hid (ok=ok):=rfl;clear hi hM hm hn hep hfu hcc hac hok HLB0 hlo hnu hle hbe A0 B0 Z0 hw0 h;go_enter Tryz.func117,Tryz.ntmps117;go_wp2_with fail;refine rL ?_
 iterate 6 (go_big_quiet_step (fail))
 go_big_quiet_want;go_big_quiet_op;refine⟨_,fun u=>Calls.later_of (CF u),?_⟩;go_big_quiet_on;go_big_quiet_step (fail);refine wpQuiet_nil ?_;rintro w' ⟨uL,rfl⟩;obtain⟨w1,hw1⟩:=eX uL.world;have A1:Hid (Av B w (aA w1) g gt gh gw R n r (fun k=>k=w.heap.size)):=by show Av _ _ _ _ _ _ _ _ _ _ _;rw[hw1];exact(HA0.out _ uL.below.drew).1
 have A1':Hid (Av B w w1 g gt gh gw R n r (fun k=>k=w.heap.size)):=by show Av _ _ _ _ _ _ _ _ _ _ _;rw[hw1];exact(HA0.out _ uL.below).1
 have Z1:Hid ((aA w1).heap[w.heap.size]?=some (.cells (Ae m) 39 (0,0))):=by show _=_;rw[hw1];exact(HA0.out _ uL.below.drew).2
 have HS1:Hid (DN g gt gh gw nu le be (fun W=>W.heap[w.heap.size]?=some (.cells (Ae m) 39 (0,0))) (aA w1)):=A1.out.inN HNU.out.1 HNU.out.2.1 HNU.out.2.2 Z1.out;rw[←hw1];clear hw1 uL CF c5 e2 ne9 HA0 hw0'
 cases fu with
 | false=>
  go_wp2_with fail;go_ret;exact⟨by rw[HD0.out,if_neg (by decide)];rfl,by rw[HD0.out,if_neg (by decide)];exact A1'.out.to⟩
 | true=>
  have HFU:Hid (true=true):=rfl;go_wp2_with fail;have ne9:Nonempty (Fu g gt gh gw nu le be (fun W=>W.heap[w.heap.size]?=some (.cells (Ae m) 39 (0,0)))):=by obtain⟨z,_⟩:=HS1.out;exact⟨z⟩
  have q2:∀z:Fu g gt gh gw nu le be (fun W=>W.heap[w.heap.size]?=some (.cells (Ae m) 39 (0,0))),z.world.cell? ⟨w.heap.size,2,none⟩=some (.int .i64 ep):=fun z=>by rw[HEP.out];exact(Dm HM.out z.x).n 1 (by decide)
  refine Ey ?_;refine B8 (DN g gt gh gw nu le be (fun W=>W.heap[w.heap.size]?=some (.cells (Ae m) 39 (0,0)))) 15 rfl (by kernel_rfl) ?_;refine rR [0,1,4,2,5] 5 10 HS1.out ?_;simp only[pk]
  iterate 4 (go_big_quiet_step (fail))
  refine JJ JT rfl _ rfl w.heap.size 40 rfl _ _ _ (hv m.head) HHS.out (fun w' h=>by obtain⟨z,rfl⟩:=h;exact z.x) HHC.out ?_;simp only[pU];refine wpQuiet_nil ?_;refine rA 3 11 ?_ ?_
  ·refine Bm rfl rfl 155 #[.tmp 19,.tmp 21] (by intro b w;have hf:=Tryz.func155;simp[go_sem]) #[.pointer (some ⟨g,0,none⟩),.int .i64 ep] rfl (fun v w'=>Fv w' v (qX n.tab ep)∧Below (aA w1).heap.size (aA w1) w') ((CR.out (aA w1) _ A1.out).mono fun e w' h=>by obtain⟨⟨v,rfl,h1⟩,h2⟩:=h;exact⟨v,rfl,h1,h2⟩) (some 22) rfl ?_;rintro vr w2 ⟨hr2,hb2⟩;have R2:Hid _:=hr2;have B2:Hid _:=hb2;clear hr2 hb2;have Aw2:Hid _:=A1.out.below B2.out;have Zw2:Hid (w2.heap[w.heap.size]?=some (.cells (Ae m) 39 (0,0))):=(B2.out.block _ (gS (Z1.out))).trans Z1.out;have Iw2:Hid (DN g gt gh gw nu le be (fun W=>W.heap[w.heap.size]?=some (.cells (Ae m) 39 (0,0))) w2):=Aw2.out.inN HNU.out.1 HNU.out.2.1 HNU.out.2.2 Zw2.out;refine⟨Iw2.out,?_⟩;simp only[pU];refine rA 6 11 ?_ ?_
   focus
    refine Bm rfl rfl 154 #[.tmp 22,.tmp 24] (by intro b w;have hf:=aR;simp[go_sem]) #[vr,.agg (hv m.head)] rfl (fun v w'=>v=.tuple #[.agg (cv cc.1 cc.2),.int .i64 ac,.bool ok]∧Below (w2).heap.size (w2) w') ((CA.out (w2) vr R2.out).mono fun e w' h=>⟨_,h.1,rfl,h.2⟩) (some 25) rfl ?_;rintro v w4 ⟨rfl,hb4⟩;have B4:Hid _:=hb4;clear hb4;have Aw4:Hid _:=Aw2.out.below B4.out;have Zw4:Hid (w4.heap[w.heap.size]?=some (.cells (Ae m) 39 (0,0))):=(B4.out.block _ (gS (Zw2.out))).trans Zw2.out;have Iw4:Hid (DN g gt gh gw nu le be (fun W=>W.heap[w.heap.size]?=some (.cells (Ae m) 39 (0,0))) w4):=Aw4.out.inN HNU.out.1 HNU.out.2.1 HNU.out.2.2 Zw4.out;refine⟨Iw4.out,?_⟩;simp only[pU];refine rR [7,8,9,10] 4 4 Iw4.out ?_;simp only[pk]
    iterate 4 (go_big_quiet_step (fail))
    refine wpQuiet_nil ?_;refine rO 11 ?_;refine J8 Sf rfl rfl rfl (some 7) rfl ?_;obtain⟨p,hp⟩:=eX ((w4).heap.size);rw[←hp];obtain⟨wa,hwa⟩:=eX ((w4).alloc (.cells Nl.zero Nl.elem));rw[←hwa];have Ba:Hid (Below (w4).heap.size (w4) wa):=by show Below _ _ _;rw[hwa];exact(aJ _ _).alloc (aI _) _
    have Awa:Hid (Av B w wa g gt gh gw R n r (fun k=>k=w.heap.size∨k=p)):=by show Av _ _ _ _ _ _ _ _ _ _ _;rw[hwa,hp];exact Aw4.out.newRow _ _
    have Zwa:Hid (wa.heap[w.heap.size]?=some (.cells (Ae m) 39 (0,0))):=(Ba.out.block _ (gS (Zw4.out))).trans Zw4.out;have Iwa:Hid (DN g gt gh gw nu le be (fun W=>W.heap[w.heap.size]?=some (.cells (Ae m) 39 (0,0))) wa):=Awa.out.inN HNU.out.1 HNU.out.2.1 HNU.out.2.2 Zwa.out;have Ywa:Hid (wa.heap[p]?=some (.cells AE 37 (0,0))):=by show _=_;rw[hwa];exact Ab _ _ _ hp
    have Hp:Hid (w.heap.size≠p):=by show _≠_;have:=(gS (Zw4.out));omega
    clear hp hwa;refine⟨Iwa.out,?_⟩;simp only[pU];refine rO 12 ?_;refine Iu Es rfl rfl _ _ rfl p (cv cc.1 cc.2) HCC.out rfl rfl _ Ywa.out rfl none rfl ?_;obtain⟨w3,hw3⟩:=eX ((wa).setRow p (cv cc.1 cc.2));rw[←hw3];have A3:Hid (Av B w w3 g gt gh gw R n r (fun k=>k=w.heap.size∨k=p)):=by show Av _ _ _ _ _ _ _ _ _ _ _;rw[hw3];exact Awa.out.row (.inr rfl) _
    have Z3:Hid (w3.heap[w.heap.size]?=some (.cells (Ae m) 39 (0,0))):=by show _=_;rw[hw3,setRow_other _ _ _ _ Hp.out];exact Zwa.out
    have Y3:Hid (w3.heap[p]?=some (.cells (cv cc.1 cc.2) 37 (0,0))):=by show _=_;rw[hw3];exact setRow_heap _ _ _ _ _ _ Ywa.out
   rotate_left
   focus
    refine J8 Sf rfl rfl rfl (some 7) rfl ?_;obtain⟨p,hp⟩:=eX ((w2).heap.size);rw[←hp];obtain⟨wa,hwa⟩:=eX ((w2).alloc (.cells Nl.zero Nl.elem));rw[←hwa];have Ba:Hid (Below (w2).heap.size (w2) wa):=by show Below _ _ _;rw[hwa];exact(aJ _ _).alloc (aI _) _
    have Awa:Hid (Av B w wa g gt gh gw R n r (fun k=>k=w.heap.size∨k=p)):=by show Av _ _ _ _ _ _ _ _ _ _ _;rw[hwa,hp];exact Aw2.out.newRow _ _
    have Zwa:Hid (wa.heap[w.heap.size]?=some (.cells (Ae m) 39 (0,0))):=(Ba.out.block _ (gS (Zw2.out))).trans Zw2.out;have Rwa:Hid (Fv wa vr (qX n.tab ep)):=Ee.below R2.out Ba.out;have Iwa:Hid (DN g gt gh gw nu le be (fun W=>W.heap[w.heap.size]?=some (.cells (Ae m) 39 (0,0))) wa):=Awa.out.inN HNU.out.1 HNU.out.2.1 HNU.out.2.2 Zwa.out;have Ywa:Hid (wa.heap[p]?=some (.cells AE 37 (0,0))):=by show _=_;rw[hwa];exact Ab _ _ _ hp
    have Hp:Hid (w.heap.size≠p):=by show _≠_;have:=(gS (Zw2.out));omega
    clear hp hwa;refine⟨Iwa.out,?_⟩;simp only[pU];refine rO 6 ?_;refine Bm rfl rfl 154 #[.tmp 22,.tmp 24] (by intro b w;have hf:=aR;simp[go_sem]) #[vr,.agg (hv m.head)] rfl (fun v w'=>v=.tuple #[.agg (cv cc.1 cc.2),.int .i64 ac,.bool ok]∧Below (wa).heap.size (wa) w') ((CA.out (wa) vr Rwa.out).mono fun e w' h=>⟨_,h.1,rfl,h.2⟩) (some 25) rfl ?_;rintro v w4 ⟨rfl,hb4⟩;have B4:Hid _:=hb4;clear hb4;have Aw4:Hid _:=Awa.out.below B4.out;have Zw4:Hid (w4.heap[w.heap.size]?=some (.cells (Ae m) 39 (0,0))):=(B4.out.block _ (gS (Zwa.out))).trans Zwa.out;have Yw4:Hid (w4.heap[p]?=some (.cells AE 37 (0,0))):=(B4.out.block _ (gS (Ywa.out))).trans Ywa.out;have Iw4:Hid (DN g gt gh gw nu le be (fun W=>W.heap[w.heap.size]?=some (.cells (Ae m) 39 (0,0))) w4):=Aw4.out.inN HNU.out.1 HNU.out.2.1 HNU.out.2.2 Zw4.out;refine⟨Iw4.out,?_⟩;simp only[pU];refine rR [7,8,9,10] 4 3 Iw4.out ?_
    simp only[pk]
    iterate 4 (go_big_quiet_step (fail))
    refine wpQuiet_nil ?_;refine rO 12 ?_;refine Iu Es rfl rfl _ _ rfl p (cv cc.1 cc.2) HCC.out rfl rfl _ Yw4.out rfl none rfl ?_;obtain⟨w3,hw3⟩:=eX ((w4).setRow p (cv cc.1 cc.2));rw[←hw3];have A3:Hid (Av B w w3 g gt gh gw R n r (fun k=>k=w.heap.size∨k=p)):=by show Av _ _ _ _ _ _ _ _ _ _ _;rw[hw3];exact Aw4.out.row (.inr rfl) _
    have Z3:Hid (w3.heap[w.heap.size]?=some (.cells (Ae m) 39 (0,0))):=by show _=_;rw[hw3,setRow_other _ _ _ _ Hp.out];exact Zw4.out
    have Y3:Hid (w3.heap[p]?=some (.cells (cv cc.1 cc.2) 37 (0,0))):=by show _=_;rw[hw3];exact setRow_heap _ _ _ _ _ _ Yw4.out
   all_goals
    clear hw3;have I3:Hid (DN g gt gh gw nu le be (fun W=>W.heap[w.heap.size]?=some (.cells (Ae m) 39 (0,0))) w3):=A3.out.inN HNU.out.1 HNU.out.2.1 HNU.out.2.2 Z3.out;refine⟨I3.out,?_⟩;simp only[aQ];refine rR [13,14] 2 0 I3.out ?_;simp only[pk];go_big_quiet_step (fail);go_big_quiet_step (fail);refine wpQuiet_nil ?_;refine rD ?_;refine⟨rfl,?_⟩
    cases ok
    focus
     go_wp2_with fail;go_ret;have e9:DT (Al R) n src m=(n,false):=by rw[HD0.out];simp
     exact⟨by rw[e9];rfl,by rw[e9];exact A3.out.to⟩
    have c3:w3.cell? ⟨g,3,none⟩=some (.int .i64 lo):=by obtain⟨u,hu⟩:=A3.out.ndV;rw[HLO.out];exact hu.f.c3
    have fz:w3.frozen? ⟨g,3,none⟩=false:=by obtain⟨u,hu⟩:=A3.out.ndV;exact hu.f.fz 3
    have lo1:=HLB.out.1;have lo2:=HLB.out.2;obtain⟨w4,hw4⟩:=eX (w3.setCell ⟨g,3,none⟩ (.int .i64 (min (lo+1) 281474976710655)));obtain⟨n4,hn4⟩:∃n4:Af Aq,n4={n with load:=min (lo+1) 281474976710655}:=⟨_,rfl⟩
    have HST:=A3.out.step (W':=w4) (n'':=n4) fun u hu=>by
     obtain⟨h1,h2⟩:=hu.setCell (j:=3) (v:=.int .i64 (min (lo+1) 281474976710655)) (n':={n with load:=min (lo+1) 281474976710655}) (u:=u) rfl rfl rfl rfl rfl rfl rfl rfl hu.post hu.log;rw[hw4,hn4];exact⟨u,h1,hu.part (i:=0) (by decide) h2 (fun _ _=>rfl) fun _ e=> .inl e⟩
    have A4:Hid _:=HST.1;have Z4:Hid (w4.heap[w.heap.size]?=some (.cells (Ae m) 39 (0,0))):=(HST.2 _ (.inl rfl)).trans Z3.out;have Y4:Hid (w4.heap[p]?=some (.cells (cv cc.1 cc.2) 37 (0,0))):=(HST.2 _ (.inr rfl)).trans Y3.out;obtain⟨inc,hinc⟩:=eX (Ad m 0);obtain⟨sq,hsq⟩:=eX (Ad m 11);have m1:w4.cell? ⟨w.heap.size,1,none⟩=some (.int .i64 inc):=by rw[hinc];exact(Dm HM.out Z4.out).n 0 (by decide)
    have m2:w4.cell? ⟨w.heap.size,2,none⟩=some (.int .i64 ep):=by rw[HEP.out];exact(Dm HM.out Z4.out).n 1 (by decide)
    have m12:w4.cell? ⟨w.heap.size,12,none⟩=some (.int .i64 sq):=by rw[hsq];exact(Dm HM.out Z4.out).n 11 (by decide)
    have HD9:Hid (DT (Al R) n src m=(Cx n4 src (Cz 7 inc ep 0 0 0 0 ac 0 0 0 0 sq 0 cc Z),true)):=by
     have el:(if n.load<281474976710655 then n.load+1 else n.load)=min (lo+1) 281474976710655:=by rw[HLO.out];have h1:=HLB.out.2;rw[HLO.out] at h1;split <;> omega
     show _=_;rw[HD0.out,hn4,hinc,hsq,el];simp
    have CS:=A4.out.call (n'':=Cx n4 src (Cz 7 inc ep 0 0 0 0 ac 0 0 0 0 sq 0 cc Z)) (P:=fun e _=>e=.returned (.tuple #[])) fun u hu=>KI B w4 g gt gh gw R n4 u hu (by rw[hn4];have h1:=HIN.out.1.post;have h2:=HIN.out.2;show n.post.length≤_;omega) src _ (Om _ _ _ _ _ _ _ _ _ _ _ _ _ _ ⟨HCX.out.1,HCX.out.2.1⟩ BO) (WF (by rw[hinc];exact HMN.out 0) (by rw[HEP.out];exact HMN.out 1) (HCX.out.2.2 (by trivial)).2 (by rw[hsq];exact HMN.out 11) (HCX.out.2.2 (by trivial)).1.1);obtain⟨n9,hn9⟩:=eX (Cx n4 src (Cz 7 inc ep 0 0 0 0 ac 0 0 0 0 sq 0 cc Z));rw[←hn9] at CS HD9;have hw4':=hw4.symm;clear hw4 hn4 hn9 HST hinc hsq
    go_wp2_with (first
     | ((with_reducible refine Aw 37 _ rfl ?_);refine AH Es rfl _ rfl p 0 rfl _ _ _ (cv cc.1 cc.2) HCC.out.1 Y4.out (Ar _ _) ?_)
     | ((with_reducible refine Cy 39 _ rfl ?_);refine Ll rfl _ _ rfl #[(0,.int .i64 7),(1,.int .i64 inc),(12,.int .i64 sq),(2,.int .i64 ep),(7,.int .i64 ac),(14,.agg (cv cc.1 cc.2))] (by simp only[aX,aK,aN];rfl) _ (XZ inc sq ep ac HCX.out.1.1 HCX.out.2.1.1 _) ?_)
     | (go_at_call 114;refine CS.mono ?_;rintro e w9 ⟨rfl,a9,_⟩;have A9:Hid _:=a9;clear a9 CS))
    go_ret;exact⟨by rw[HD9.out];rfl,by rw[HD9.out];exact A9.out.to⟩
  ·refine J8 Sf rfl rfl rfl (some 7) rfl ?_;obtain⟨p,hp⟩:=eX ((aA w1).heap.size);rw[←hp];obtain⟨wa,hwa⟩:=eX ((aA w1).alloc (.cells Nl.zero Nl.elem));rw[←hwa];have Ba:Hid (Below (aA w1).heap.size (aA w1) wa):=by show Below _ _ _;rw[hwa];exact(aJ _ _).alloc (aI _) _
   have Awa:Hid (Av B w wa g gt gh gw R n r (fun k=>k=w.heap.size∨k=p)):=by show Av _ _ _ _ _ _ _ _ _ _ _;rw[hwa,hp];exact A1.out.newRow _ _
   have Zwa:Hid (wa.heap[w.heap.size]?=some (.cells (Ae m) 39 (0,0))):=(Ba.out.block _ (gS (Z1.out))).trans Z1.out;have Iwa:Hid (DN g gt gh gw nu le be (fun W=>W.heap[w.heap.size]?=some (.cells (Ae m) 39 (0,0))) wa):=Awa.out.inN HNU.out.1 HNU.out.2.1 HNU.out.2.2 Zwa.out;have Ywa:Hid (wa.heap[p]?=some (.cells AE 37 (0,0))):=by show _=_;rw[hwa];exact Ab _ _ _ hp
   have Hp:Hid (w.heap.size≠p):=by show _≠_;have:=(gS (Z1.out));omega
   clear hp hwa;refine⟨Iwa.out,?_⟩;simp only[pU];refine rO 3 ?_;refine Bm rfl rfl 155 #[.tmp 19,.tmp 21] (by intro b w;have hf:=Tryz.func155;simp[go_sem]) #[.pointer (some ⟨g,0,none⟩),.int .i64 ep] rfl (fun v w'=>Fv w' v (qX n.tab ep)∧Below (wa).heap.size (wa) w') ((CR.out (wa) _ Awa.out).mono fun e w' h=>by obtain⟨⟨v,rfl,h1⟩,h2⟩:=h;exact⟨v,rfl,h1,h2⟩) (some 22) rfl ?_;rintro vr w2 ⟨hr2,hb2⟩;have R2:Hid _:=hr2;have B2:Hid _:=hb2;clear hr2 hb2;have Aw2:Hid _:=Awa.out.below B2.out;have Zw2:Hid (w2.heap[w.heap.size]?=some (.cells (Ae m) 39 (0,0))):=(B2.out.block _ (gS (Zwa.out))).trans Zwa.out;have Yw2:Hid (w2.heap[p]?=some (.cells AE 37 (0,0))):=(B2.out.block _ (gS (Ywa.out))).trans Ywa.out;have Iw2:Hid (DN g gt gh gw nu le be (fun W=>W.heap[w.heap.size]?=some (.cells (Ae m) 39 (0,0))) w2):=Aw2.out.inN HNU.out.1 HNU.out.2.1 HNU.out.2.2 Zw2.out;refine⟨Iw2.out,?_⟩;simp only[pU];refine rO 6 ?_
   refine Bm rfl rfl 154 #[.tmp 22,.tmp 24] (by intro b w;have hf:=aR;simp[go_sem]) #[vr,.agg (hv m.head)] rfl (fun v w'=>v=.tuple #[.agg (cv cc.1 cc.2),.int .i64 ac,.bool ok]∧Below (w2).heap.size (w2) w') ((CA.out (w2) vr R2.out).mono fun e w' h=>⟨_,h.1,rfl,h.2⟩) (some 25) rfl ?_;rintro v w4 ⟨rfl,hb4⟩;have B4:Hid _:=hb4;clear hb4;have Aw4:Hid _:=Aw2.out.below B4.out;have Zw4:Hid (w4.heap[w.heap.size]?=some (.cells (Ae m) 39 (0,0))):=(B4.out.block _ (gS (Zw2.out))).trans Zw2.out;have Yw4:Hid (w4.heap[p]?=some (.cells AE 37 (0,0))):=(B4.out.block _ (gS (Yw2.out))).trans Yw2.out;have Iw4:Hid (DN g gt gh gw nu le be (fun W=>W.heap[w.heap.size]?=some (.cells (Ae m) 39 (0,0))) w4):=Aw4.out.inN HNU.out.1 HNU.out.2.1 HNU.out.2.2 Zw4.out;refine⟨Iw4.out,?_⟩;simp only[pU];refine rR [7,8,9,10] 4 3 Iw4.out ?_;simp only[pk]
   iterate 4 (go_big_quiet_step (fail))
   refine wpQuiet_nil ?_;refine rO 12 ?_;refine Iu Es rfl rfl _ _ rfl p (cv cc.1 cc.2) HCC.out rfl rfl _ Yw4.out rfl none rfl ?_;obtain⟨w3,hw3⟩:=eX ((w4).setRow p (cv cc.1 cc.2));rw[←hw3];have A3:Hid (Av B w w3 g gt gh gw R n r (fun k=>k=w.heap.size∨k=p)):=by show Av _ _ _ _ _ _ _ _ _ _ _;rw[hw3];exact Aw4.out.row (.inr rfl) _
   have Z3:Hid (w3.heap[w.heap.size]?=some (.cells (Ae m) 39 (0,0))):=by show _=_;rw[hw3,setRow_other _ _ _ _ Hp.out];exact Zw4.out
   have Y3:Hid (w3.heap[p]?=some (.cells (cv cc.1 cc.2) 37 (0,0))):=by show _=_;rw[hw3];exact setRow_heap _ _ _ _ _ _ Yw4.out
   clear hw3;have I3:Hid (DN g gt gh gw nu le be (fun W=>W.heap[w.heap.size]?=some (.cells (Ae m) 39 (0,0))) w3):=A3.out.inN HNU.out.1 HNU.out.2.1 HNU.out.2.2 Z3.out;refine⟨I3.out,?_⟩;simp only[aQ];refine rR [13,14] 2 0 I3.out ?_;simp only[pk];go_big_quiet_step (fail);go_big_quiet_step (fail);refine wpQuiet_nil ?_;refine rD ?_;refine⟨rfl,?_⟩
   cases ok
   focus
    go_wp2_with fail;go_ret;have e9:DT (Al R) n src m=(n,false):=by rw[HD0.out];simp
    exact⟨by rw[e9];rfl,by rw[e9];exact A3.out.to⟩
   have c3:w3.cell? ⟨g,3,none⟩=some (.int .i64 lo):=by obtain⟨u,hu⟩:=A3.out.ndV;rw[HLO.out];exact hu.f.c3
   have fz:w3.frozen? ⟨g,3,none⟩=false:=by obtain⟨u,hu⟩:=A3.out.ndV;exact hu.f.fz 3
   have lo1:=HLB.out.1;have lo2:=HLB.out.2;obtain⟨w4,hw4⟩:=eX (w3.setCell ⟨g,3,none⟩ (.int .i64 (min (lo+1) 281474976710655)));obtain⟨n4,hn4⟩:∃n4:Af Aq,n4={n with load:=min (lo+1) 281474976710655}:=⟨_,rfl⟩
   have HST:=A3.out.step (W':=w4) (n'':=n4) fun u hu=>by
    obtain⟨h1,h2⟩:=hu.setCell (j:=3) (v:=.int .i64 (min (lo+1) 281474976710655)) (n':={n with load:=min (lo+1) 281474976710655}) (u:=u) rfl rfl rfl rfl rfl rfl rfl rfl hu.post hu.log;rw[hw4,hn4];exact⟨u,h1,hu.part (i:=0) (by decide) h2 (fun _ _=>rfl) fun _ e=> .inl e⟩
   have A4:Hid _:=HST.1;have Z4:Hid (w4.heap[w.heap.size]?=some (.cells (Ae m) 39 (0,0))):=(HST.2 _ (.inl rfl)).trans Z3.out;have Y4:Hid (w4.heap[p]?=some (.cells (cv cc.1 cc.2) 37 (0,0))):=(HST.2 _ (.inr rfl)).trans Y3.out;obtain⟨inc,hinc⟩:=eX (Ad m 0);obtain⟨sq,hsq⟩:=eX (Ad m 11);have m1:w4.cell? ⟨w.heap.size,1,none⟩=some (.int .i64 inc):=by rw[hinc];exact(Dm HM.out Z4.out).n 0 (by decide)
   have m2:w4.cell? ⟨w.heap.size,2,none⟩=some (.int .i64 ep):=by rw[HEP.out];exact(Dm HM.out Z4.out).n 1 (by decide)
   have m12:w4.cell? ⟨w.heap.size,12,none⟩=some (.int .i64 sq):=by rw[hsq];exact(Dm HM.out Z4.out).n 11 (by decide)
   have HD9:Hid (DT (Al R) n src m=(Cx n4 src (Cz 7 inc ep 0 0 0 0 ac 0 0 0 0 sq 0 cc Z),true)):=by
    have el:(if n.load<281474976710655 then n.load+1 else n.load)=min (lo+1) 281474976710655:=by rw[HLO.out];have h1:=HLB.out.2;rw[HLO.out] at h1;split <;> omega
    show _=_;rw[HD0.out,hn4,hinc,hsq,el];simp
   have CS:=A4.out.call (n'':=Cx n4 src (Cz 7 inc ep 0 0 0 0 ac 0 0 0 0 sq 0 cc Z)) (P:=fun e _=>e=.returned (.tuple #[])) fun u hu=>KI B w4 g gt gh gw R n4 u hu (by rw[hn4];have h1:=HIN.out.1.post;have h2:=HIN.out.2;show n.post.length≤_;omega) src _ (Om _ _ _ _ _ _ _ _ _ _ _ _ _ _ ⟨HCX.out.1,HCX.out.2.1⟩ BO) (WF (by rw[hinc];exact HMN.out 0) (by rw[HEP.out];exact HMN.out 1) (HCX.out.2.2 (by trivial)).2 (by rw[hsq];exact HMN.out 11) (HCX.out.2.2 (by trivial)).1.1);obtain⟨n9,hn9⟩:=eX (Cx n4 src (Cz 7 inc ep 0 0 0 0 ac 0 0 0 0 sq 0 cc Z));rw[←hn9] at CS HD9;have hw4':=hw4.symm;clear hw4 hn4 hn9 HST hinc hsq
   go_wp2_with (first
    | ((with_reducible refine Aw 37 _ rfl ?_);refine AH Es rfl _ rfl p 0 rfl _ _ _ (cv cc.1 cc.2) HCC.out.1 Y4.out (Ar _ _) ?_)
    | ((with_reducible refine Cy 39 _ rfl ?_);refine Ll rfl _ _ rfl #[(0,.int .i64 7),(1,.int .i64 inc),(12,.int .i64 sq),(2,.int .i64 ep),(7,.int .i64 ac),(14,.agg (cv cc.1 cc.2))] (by simp only[aX,aK,aN];rfl) _ (XZ inc sq ep ac HCX.out.1.1 HCX.out.2.1.1 _) ?_)
    | (go_at_call 114;refine CS.mono ?_;rintro e w9 ⟨rfl,a9,_⟩;have A9:Hid _:=a9;clear a9 CS))
   go_ret;exact⟨by rw[HD9.out];rfl,by rw[HD9.out];exact A9.out.to⟩
theorem VX{w:Be}{s:Int}(h:(BH w s).2=none):(BH w s).1=w:=by
 unfold BH at h ⊢;split at h
 ·cases h
 ·rfl
theorem Afr{R:Rm}{N:Nat}{n:Af Aq}(h:Az N R n){m:An}(hm:BB m)(now:Int):Az (N+3) R (JW (Al R) n m now):=by
 rw[Td];have h1:=Ajf h now (Ad m 1) (c:=m.cube) ⟨hm.2.1,hm.2.2.1⟩ (Ad m 6);refine EJ (N:=N+2) ?_ _;split
 ·exact EJ h1 _
 ·exact h1.le (Nat.le_succ _)
theorem Xt{R:Rm}{N:Nat}{n:Af Aq}(h:Az N R n){m:An}(hm:BB m)(now:Int):Az (N+3) R (EB (Al R) n m now):=by
 unfold EB;split
 ·exact Afr h hm now
 ·exact h.le (by omega)
def L4(R:Rm)(n:Af Aq)(m:An)(now:Int):Af Aq×Bool:=
 match BH (EB (Al R) n m now).wait (Ad m 11) with
 | (w,some x)=>(FC (Db (EB (Al R) n m now) w) x.index (Ad m 6),true)
 | (_,none)=>(EB (Al R) n m now,Qd n m)
theorem Xr(R:Rm)(n:Af Aq)(m:An)(now:Int):L4 R n m now=if (BH (EB (Al R) n m now).wait (Ad m 11)).2.isSome=true then (FC (Db (EB (Al R) n m now) (BH (EB (Al R) n m now).wait (Ad m 11)).1) ((BH (EB (Al R) n m now).wait (Ad m 11)).2.getD C9).index (Ad m 6),true) else (Db (EB (Al R) n m now) (BH (EB (Al R) n m now).wait (Ad m 11)).1,Qd n m):=by
 unfold L4
 cases he:(BH (EB (Al R) n m now).wait (Ad m 11)).2 with
 | none=>
  have h1:=VX he;rw[h1,if_neg (by decide)];obtain⟨p,hp⟩:=eX (BH (EB (Al R) n m now).wait (Ad m 11));rw[←hp] at he ⊢;obtain⟨a,b⟩:=p;dsimp only at he;subst he;rfl
 | some x=>
  obtain⟨p,hp⟩:=eX (BH (EB (Al R) n m now).wait (Ad m 11));rw[←hp] at he ⊢;obtain⟨a,b⟩:=p;dsimp only at he;subst he;rfl
theorem VU(B:Nat)(w:World)(g gt gh gw:Nat)(R:Rm)(n:Af Aq)(r:D0)(h:Cb B w g gt gh gw R n r){M:Nat}(hi:Az M R n)(hM:M≤900000)(m:An)(hm:BB m)(now:Int):
  Calls aB 118 #[.pointer (some ⟨g,0,none⟩),.agg (Ae m),.int .i64 now] w fun e w'=>e=.returned (.bool (L4 R n m now).2)∧Dl B w w' g gt gh gw R (L4 R n m now).1 r:=by
 obtain⟨w0,hw0⟩:∃w0,w0=w.alloc (.cells (Ae m) 39):=⟨_,rfl⟩;have B0:Below w.heap.size w w0:=by rw[hw0];exact(aJ _ _).alloc (aI _) _
 have Z0:w0.heap[w.heap.size]?=some (.cells (Ae m) 39 (0,0)):=by rw[hw0];exact Ab _ _ _ rfl
 have A0:Av B w w0 g gt gh gw R n r (fun k=>k=w.heap.size):=Av.begin h B0 (by rintro k rfl;exact⟨aI _,by rw[hw0,Bf];exact aW _⟩);have hip:=Xt hi hm now;have hdd:=Xr R n m now;obtain⟨ep,hep⟩:∃ep,ep=Ad m 1:=⟨_,rfl⟩;obtain⟨ac,hac⟩:∃ac,ac=Ad m 6:=⟨_,rfl⟩;obtain⟨sq,hsq⟩:∃sq,sq=Ad m 11:=⟨_,rfl⟩;have HEP:Hid (ep=Ad m 1):=hep;have HAC:Hid (ac=Ad m 6):=hac;have HSQ:Hid (sq=Ad m 11):=hsq;have HM:Hid (BB m):=hm;obtain⟨n1,hn1⟩:∃n1,n1=EB (Al R) n m now:=⟨_,rfl⟩;obtain⟨lb,hlb⟩:∃lb,lb=Qd n m:=⟨_,rfl⟩;rw[←hn1] at hip;rw[←hn1, ←hlb, ←hac, ←hsq] at hdd;obtain⟨wb,hwb⟩:∃wb,wb=(BH n1.wait sq).2.isSome:=⟨_,rfl⟩;obtain⟨y,hy⟩:∃y,y=(BH n1.wait sq).2.getD C9:=⟨_,rfl⟩;obtain⟨n2,hn2⟩:∃n2,n2=Db n1 (BH n1.wait sq).1:=⟨_,rfl⟩;obtain⟨yi,hyi⟩:∃yi,yi=y.index:=⟨_,rfl⟩;rw[←hwb, ←hy, ←hn2, ←hyi] at hdd;have HDD:Hid _:=hdd;have HYI:Hid (yi=y.index):=hyi;have HYS:Hid ((AD y).size=17∧(AD y).all (·.oneCell')=true):=Ly y;have HLG:Hid (n2.log.length≤1000000):=by show _≤_;rw[hn2];show n1.log.length≤_;have:=hip.log;omega
 have CA:Hid (∀W O,Av B w W g gt gh gw R n1 r O→Calls aB 112 #[.pointer (some ⟨gw,0,none⟩),.int .i64 sq] W fun e w'=>e=.returned (.tuple #[.agg (AD y),.bool wb])∧Av B w w' g gt gh gw R n2 r O∧Ec O W w'):=fun W O hW=>by
  rw[hn2,hy,hwb];exact hW.call fun u hu=>(Rt B W gw n1.wait u.vw hu.wait hip.wait sq).mono fun e w' q=>⟨q.1,hu.setWaitTo q.2⟩
 obtain⟨nu,hnu⟩:∃nu,nu=n1.num:=⟨_,rfl⟩;obtain⟨le,hle⟩:∃le,le=n1.lease:=⟨_,rfl⟩;obtain⟨be,hbe⟩:∃be,be=n1.beat:=⟨_,rfl⟩;have HNU:Hid ((n1.num=nu∧n1.lease=le∧n1.beat=be)∧n2.num=nu∧n2.lease=le∧n2.beat=be):=by rw[hn2];exact⟨⟨hnu.symm,hle.symm,hbe.symm⟩,hnu.symm,hle.symm,hbe.symm⟩
 obtain⟨us,hus⟩:∃us,us=n.hold.use:=⟨_,rfl⟩;have c5:∀u:Am w0,u.world.cell? ⟨g,5,none⟩=some (.pointer (some ⟨gh,0,none⟩)):=fun u=>by obtain⟨x,hx⟩:=(A0.below u.below).ndV;exact hx.f.c5
 have hZ:∀u:Am w0,u.world.heap[w.heap.size]?=some (.cells (Ae m) 39 (0,0)):=fun u=>(u.below.block _ (aD.1 Z0).1).trans Z0;have e2:∀u:Am w0,u.world.cell? ⟨w.heap.size,2,none⟩=some (.int .i64 ep):=fun u=>by rw[HEP.out];exact(Dm HM.out (hZ u)).n 1 (by decide)
 have CU:∀u:Am w0,Calls aB 58 #[.pointer (some ⟨gh,0,none⟩)] u.world fun e w'=>e=.returned (.int .i64 us)∧w'=u.world:=fun u=>by rw[hus];exact(A0.below u.below).ask fun x hx=>Jc _ gh n.hold hx.hold
 have HMS:Hid ((Ae m).size=53):=BG hm;have ne9:=Am.ne w0;have hw0':=hw0.symm;by_cases hu:ep=us
 focus
  have hub:(ep==us)=true:=by simpa using hu
  have hn1':n1=if n.cache≠0 then JW (Al R) n m now else n:=by
   rw[hn1];unfold EB Qd;rw[←hep,hu,hus,decide_eq_true rfl,Bool.true_and];by_cases hc:n.cache≠0
   ·rw[decide_eq_true hc,if_pos rfl,if_pos hc]
   ·rw[decide_eq_false hc,if_neg (by decide),if_neg hc]
  have hlb':lb=decide (n.cache≠0):=by
   rw[hlb];unfold Qd;rw[←hep,hu,hus,decide_eq_true rfl,Bool.true_and]
  have CN:Hid (∀W,Below w0.heap.size w0 W→Calls aB 156 #[.pointer (some ⟨g,0,none⟩),.agg (Ae m),.int .i64 now] W fun e w'=>e=.returned (.bool lb)∧Av B w w' g gt gh gw R n1 r (fun k=>k=w.heap.size)∧w'.heap[w.heap.size]?=some (.cells (Ae m) 39 (0,0))):=fun W hW=>by
   rw[hn1',hlb'];exact((A0.below hW).call (P:=fun e _=>e=.returned (.bool (decide (n.cache≠0)))) fun u hu=>YP B W g gt gh gw R n u hu hi hM m hm now).mono fun e w' q=>⟨q.1,q.2.1,(q.2.2 _ rfl).trans ((hW.block _ (aD.1 Z0).1).trans Z0)⟩
  clear hi hM hm hip hdd hep hac hsq hn1 hlb hn1' hlb' hwb hy hn2 hyi hnu hle hbe hus A0 B0 Z0 hw0 h hu;go_enter Tryz.func118,Tryz.ntmps118;go_wp2_with fail;refine Cu 12 (by kernel_rfl) (by kernel_rfl) ?_;simp only[aO,aT,aC,aH]
  iterate 6 (go_big_quiet_step (fail))
  go_big_quiet_want;go_big_quiet_op;refine⟨_,fun u=>Calls.later_sameT (CU u),?_⟩;go_big_quiet_on
  iterate 3 (go_big_quiet_step (fail))
  refine JJ BD rfl _ rfl w.heap.size 0 rfl _ _ _ (Ae m) HMS.out (fun w' h=>by obtain⟨z,rfl⟩:=h;exact hZ z) (Ar _ _) ?_;simp only[aQ,aG,aL,aM];go_big_quiet_step (fail);refine wpQuiet_nil ?_;rintro w' ⟨uL,rfl⟩;have CN1:=CN.out _ uL.below;obtain⟨wu,hwu⟩:∃wu,wu=uL.world:=⟨_,rfl⟩;rw[←hwu] at CN1 ⊢;clear hwu uL CU c5 e2 hZ ne9 CN hw0';go_wp2_with (go_at_call 156;refine CN1.mono ?_;rintro e w2 ⟨rfl,a2,z2⟩;have A2:Hid (Av B w (aA w2) g gt gh gw R n1 r (fun k=>k=w.heap.size)):=a2.below (aJ _ _).drew;have Z2:Hid ((aA w2).heap[w.heap.size]?=some (.cells (Ae m) 39 (0,0))):=z2;clear a2 z2 CN1;refine Ak ?_);unfold AA
  cases lb
 rotate_right
 focus
  have hub:(ep==us)=false:=by simpa using hu
  have hlb':lb=false:=by
   rw[hlb];unfold Qd;rw[←hep, ←hus,decide_eq_false hu,Bool.false_and]
  have hn1':n1=n:=by
   rw[hn1];unfold EB;rw[←hlb,hlb',if_neg (by decide)]
  have HA0:Hid (∀W,Below w0.heap.size w0 W→Av B w W g gt gh gw R n1 r (fun k=>k=w.heap.size)∧W.heap[w.heap.size]?=some (.cells (Ae m) 39 (0,0))):=fun W hW=>⟨by rw[hn1'];exact A0.below hW,(hW.block _ (aD.1 Z0).1).trans Z0⟩;clear hi hM hm hip hdd hep hac hsq hn1 hlb hn1' hwb hy hn2 hyi hnu hle hbe hus A0 B0 Z0 hw0 h hu;obtain rfl:lb=false:=hlb';go_enter Tryz.func118,Tryz.ntmps118;go_wp2_with fail;refine BE (by kernel_rfl) (by kernel_rfl) ?_
  iterate 6 (go_big_quiet_step (fail))
  go_big_quiet_want;go_big_quiet_op;refine⟨_,fun u=>Calls.later_sameT (CU u),?_⟩;go_big_quiet_on
  iterate 8 (go_big_quiet_step (fail))
  refine wpQuiet_nil ?_;rintro w' ⟨uL,rfl⟩;obtain⟨w2,hw2⟩:∃w2,w2=uL.world:=⟨_,rfl⟩;have A2:Hid (Av B w (aA w2) g gt gh gw R n1 r (fun k=>k=w.heap.size)):=by show Av _ _ _ _ _ _ _ _ _ _ _;rw[hw2];exact(HA0.out _ uL.below.drew).1
  have Z2:Hid ((aA w2).heap[w.heap.size]?=some (.cells (Ae m) 39 (0,0))):=by show _=_;rw[hw2];exact(HA0.out _ uL.below.drew).2
  rw[←hw2];clear hw2 uL CU c5 e2 hZ ne9 HA0 hw0'
 all_goals
  have HS2:Hid (DN g gt gh gw nu le be (fun W=>W.heap[w.heap.size]?=some (.cells (Ae m) 39 (0,0))) (aA w2)):=A2.out.inN HNU.out.1.1 HNU.out.1.2.1 HNU.out.1.2.2 Z2.out;go_wp2_with fail;have e6:∀z:Fu g gt gh gw nu le be (fun W=>W.heap[w.heap.size]?=some (.cells (Ae m) 39 (0,0))),z.world.cell? ⟨g,6,none⟩=some (.pointer (some ⟨gw,0,none⟩)):=fun z=>z.c6;have ne9:Nonempty (Fu g gt gh gw nu le be (fun W=>W.heap[w.heap.size]?=some (.cells (Ae m) 39 (0,0)))):=by obtain⟨z,_⟩:=HS2.out;exact⟨z⟩
  have q12:∀z:Fu g gt gh gw nu le be (fun W=>W.heap[w.heap.size]?=some (.cells (Ae m) 39 (0,0))),z.world.cell? ⟨w.heap.size,12,none⟩=some (.int .i64 sq):=fun z=>by rw[HSQ.out];exact(Dm HM.out z.x).n 11 (by decide)
  refine Ey ?_;refine B8 (DN g gt gh gw nu le be (fun W=>W.heap[w.heap.size]?=some (.cells (Ae m) 39 (0,0)))) 13 rfl (by kernel_rfl) ?_;refine Fx [0,4,1,5,2,3] 6 7 rfl (by kernel_rfl) (by decide) (by kernel_rfl) (by kernel_rfl) (by intro d v c a w h;exact absurd h.1 (by simp)) HS2.out ?_;simp only[J2,aK,aN,aC,aH,aP]
  iterate 6 (go_big_quiet_step (fail))
  refine wpQuiet_nil ?_;refine wpAnyH_all (rs:=[6,10]) (by kernel_rfl) (by decide) ?_;intro i hi;simp only[List.mem_cons,List.not_mem_nil,or_false] at hi;rcases hi with rfl | rfl
  ·refine Bm rfl rfl 112 #[.tmp 28,.tmp 30] (by intro b w;have hf:=Tryz.func112;simp[go_sem]) #[.pointer (some ⟨gw,0,none⟩),.int .i64 sq] rfl (fun v w'=>v=.tuple #[.agg (AD y),.bool wb]∧Av B w w' g gt gh gw R n2 r (fun k=>k=w.heap.size)∧Ec (fun k=>k=w.heap.size) (aA w2) w') ((CA.out (aA w2) _ A2.out).mono fun e w' h=>⟨_,h.1,rfl,h.2⟩) (some 31) rfl ?_;rintro v w4 ⟨rfl,a2,k2⟩;have A4:Hid _:=a2;have Z4:Hid (w4.heap[w.heap.size]?=some (.cells (Ae m) 39 (0,0))):=(k2 _ rfl).trans Z2.out;clear a2 k2;have I4:Hid (DN g gt gh gw nu le be (fun W=>W.heap[w.heap.size]?=some (.cells (Ae m) 39 (0,0))) w4):=A4.out.inN HNU.out.2.1 HNU.out.2.2.1 HNU.out.2.2.2 Z4.out;refine⟨I4.out,?_⟩;simp only[aQ,aG,aL,aM];refine Fx [7,8,9] 3 3 rfl (by kernel_rfl) (by decide) (by kernel_rfl) (by kernel_rfl) (by intro d v c a w h;exact absurd h.1 (by simp)) I4.out ?_;simp only[J2,aK,aN,aC,aH,aP]
   iterate 3 (go_big_quiet_step (fail))
   refine wpQuiet_nil ?_;refine JA 10 (by kernel_rfl) ?_;refine J8 Lh rfl rfl rfl (some 8) rfl ?_;obtain⟨p,hp⟩:∃p,p=(w4).heap.size:=⟨_,rfl⟩;rw[←hp];obtain⟨wa,hwa⟩:∃wa,wa=(w4).alloc (.cells Js.zero Js.elem):=⟨_,rfl⟩;rw[←hwa];have Aa:Hid (Av B w wa g gt gh gw R n2 r (fun k=>k=w.heap.size∨k=p)):=by show Av _ _ _ _ _ _ _ _ _ _ _;rw[hwa,hp];exact A4.out.newRow _ _
   have Ya:Hid (wa.heap[p]?=some (.cells (AD C9) 112 (0,0))):=by show _=_;rw[hwa];exact Ab _ _ _ hp
   have Za:Hid (wa.heap[w.heap.size]?=some (.cells (Ae m) 39 (0,0))):=by show _=_;rw[hwa];exact Ah _ _ _ _ Z4.out
   have Hp:Hid (w.heap.size≠p):=by show _≠_;have:=(aD.1 (Z4.out)).1;omega
   clear hp hwa;have Ia:Hid (DN g gt gh gw nu le be (fun W=>W.heap[w.heap.size]?=some (.cells (Ae m) 39 (0,0))) wa):=Aa.out.inN HNU.out.2.1 HNU.out.2.2.1 HNU.out.2.2.2 Za.out;refine⟨Ia.out,?_⟩;simp only[aQ,aG,aL,aM];refine JA 11 (by kernel_rfl) ?_;refine Iu TP rfl rfl _ _ rfl p (AD y) HYS.out rfl rfl _ Ya.out rfl none rfl ?_;obtain⟨w3,hw3⟩:∃w3,w3=(wa).setRow p (AD y):=⟨_,rfl⟩;rw[←hw3];have A3:Hid (Av B w w3 g gt gh gw R n2 r (fun k=>k=w.heap.size∨k=p)):=by show Av _ _ _ _ _ _ _ _ _ _ _;rw[hw3];exact Aa.out.row (.inr rfl) _
   have Z3:Hid (w3.heap[w.heap.size]?=some (.cells (Ae m) 39 (0,0))):=by show _=_;rw[hw3,setRow_other _ _ _ _ Hp.out];exact Za.out
   have Y3:Hid (w3.heap[p]?=some (.cells (AD y) 112 (0,0))):=by show _=_;rw[hw3];exact setRow_heap _ _ _ _ _ _ Ya.out
   clear hw3;have I3:Hid (DN g gt gh gw nu le be (fun W=>W.heap[w.heap.size]?=some (.cells (Ae m) 39 (0,0))) w3):=A3.out.inN HNU.out.2.1 HNU.out.2.2.1 HNU.out.2.2.2 Z3.out;refine⟨I3.out,?_⟩;simp only[aQ];refine Fx [12] 1 0 rfl (by kernel_rfl) (by decide) (by kernel_rfl) (by kernel_rfl) (by intro d v c a w h;exact absurd h.1 (by simp)) I3.out ?_;simp only[J2,aK,aN,aC,aH,aP];go_big_quiet_step (fail);refine wpQuiet_nil ?_;refine wpAnyH_done (by kernel_rfl) ?_ _;refine⟨rfl,?_⟩
   cases wb
   focus
    have HD0:=HDD.out;rw[if_neg (by decide)] at HD0;go_wp2_with fail;go_ret;exact⟨by rw[HD0];rfl,by rw[HD0];exact A3.out.to⟩
   have HD0:Hid _:=HDD.out.trans (if_pos rfl);have f1:w3.cell? ⟨p,1,none⟩=some (.int .i64 yi):=by rw[HYI.out];exact(FO Y3.out).c1
   have m7:w3.cell? ⟨w.heap.size,7,none⟩=some (.int .i64 ac):=by rw[HAC.out];exact(Dm HM.out Z3.out).n 6 (by decide)
   have CE:=A3.out.call (n'':=FC n2 yi ac) (P:=fun e _=>e=.returned (.tuple #[])) fun u hu=>Ms B w3 g gt gh gw R n2 u hu HLG.out yi ac;obtain⟨n9,hn9⟩:∃n9,n9=FC n2 yi ac:=⟨_,rfl⟩;have HN9:Hid (n9=FC n2 yi ac):=hn9;rw[←hn9] at CE;clear hn9;go_wp2_with (go_at_call 84;refine CE.mono ?_;rintro e w9 ⟨rfl,a9,_⟩;have A9:Hid (Av B w w9 g gt gh gw R n9 r (fun k=>k=w.heap.size∨k=p)):=a9;clear a9 CE;refine Ak ?_);unfold AA;clear f1 m7;go_wp2_with fail;go_ret;exact⟨by rw[HD0.out];rfl,by rw[HD0.out];show Dl _ _ _ _ _ _ _ _ (FC n2 yi ac) _;rw[←HN9.out];exact A9.out.to⟩
  ·refine J8 Lh rfl rfl rfl (some 8) rfl ?_;obtain⟨p,hp⟩:∃p,p=(aA w2).heap.size:=⟨_,rfl⟩;rw[←hp];obtain⟨wa,hwa⟩:∃wa,wa=(aA w2).alloc (.cells Js.zero Js.elem):=⟨_,rfl⟩;rw[←hwa];have Aa:Hid (Av B w wa g gt gh gw R n1 r (fun k=>k=w.heap.size∨k=p)):=by show Av _ _ _ _ _ _ _ _ _ _ _;rw[hwa,hp];exact A2.out.newRow _ _
   have Ya:Hid (wa.heap[p]?=some (.cells (AD C9) 112 (0,0))):=by show _=_;rw[hwa];exact Ab _ _ _ hp
   have Za:Hid (wa.heap[w.heap.size]?=some (.cells (Ae m) 39 (0,0))):=by show _=_;rw[hwa];exact Ah _ _ _ _ Z2.out
   have Hp:Hid (w.heap.size≠p):=by show _≠_;have:=(aD.1 (Z2.out)).1;omega
   clear hp hwa;have Ia:Hid (DN g gt gh gw nu le be (fun W=>W.heap[w.heap.size]?=some (.cells (Ae m) 39 (0,0))) wa):=Aa.out.inN HNU.out.1.1 HNU.out.1.2.1 HNU.out.1.2.2 Za.out;refine⟨Ia.out,?_⟩;simp only[aQ,aG,aL,aM];refine JA 6 (by kernel_rfl) ?_;refine Bm rfl rfl 112 #[.tmp 28,.tmp 30] (by intro b w;have hf:=Tryz.func112;simp[go_sem]) #[.pointer (some ⟨gw,0,none⟩),.int .i64 sq] rfl (fun v w'=>v=.tuple #[.agg (AD y),.bool wb]∧Av B w w' g gt gh gw R n2 r (fun k=>k=w.heap.size∨k=p)∧Ec (fun k=>k=w.heap.size∨k=p) (wa) w') ((CA.out (wa) _ Aa.out).mono fun e w' h=>⟨_,h.1,rfl,h.2⟩) (some 31) rfl ?_;rintro v w4 ⟨rfl,a2,k2⟩;have A4:Hid _:=a2;have Z4:Hid (w4.heap[w.heap.size]?=some (.cells (Ae m) 39 (0,0))):=(k2 _ (.inl rfl)).trans Za.out;have Y4:Hid (w4.heap[p]?=some (.cells (AD C9) 112 (0,0))):=(k2 _ (.inr rfl)).trans Ya.out;clear a2 k2;have I4:Hid (DN g gt gh gw nu le be (fun W=>W.heap[w.heap.size]?=some (.cells (Ae m) 39 (0,0))) w4):=A4.out.inN HNU.out.2.1 HNU.out.2.2.1 HNU.out.2.2.2 Z4.out;refine⟨I4.out,?_⟩;simp only[aQ,aG,aL,aM];refine Fx [7,8,9] 3 2 rfl (by kernel_rfl) (by decide) (by kernel_rfl) (by kernel_rfl) (by intro d v c a w h;exact absurd h.1 (by simp)) I4.out ?_
   simp only[J2,aK,aN,aC,aH,aP]
   iterate 3 (go_big_quiet_step (fail))
   refine wpQuiet_nil ?_;refine JA 11 (by kernel_rfl) ?_;refine Iu TP rfl rfl _ _ rfl p (AD y) HYS.out rfl rfl _ Y4.out rfl none rfl ?_;obtain⟨w3,hw3⟩:∃w3,w3=(w4).setRow p (AD y):=⟨_,rfl⟩;rw[←hw3];have A3:Hid (Av B w w3 g gt gh gw R n2 r (fun k=>k=w.heap.size∨k=p)):=by show Av _ _ _ _ _ _ _ _ _ _ _;rw[hw3];exact A4.out.row (.inr rfl) _
   have Z3:Hid (w3.heap[w.heap.size]?=some (.cells (Ae m) 39 (0,0))):=by show _=_;rw[hw3,setRow_other _ _ _ _ Hp.out];exact Z4.out
   have Y3:Hid (w3.heap[p]?=some (.cells (AD y) 112 (0,0))):=by show _=_;rw[hw3];exact setRow_heap _ _ _ _ _ _ Y4.out
   clear hw3;have I3:Hid (DN g gt gh gw nu le be (fun W=>W.heap[w.heap.size]?=some (.cells (Ae m) 39 (0,0))) w3):=A3.out.inN HNU.out.2.1 HNU.out.2.2.1 HNU.out.2.2.2 Z3.out;refine⟨I3.out,?_⟩;simp only[aQ];refine Fx [12] 1 0 rfl (by kernel_rfl) (by decide) (by kernel_rfl) (by kernel_rfl) (by intro d v c a w h;exact absurd h.1 (by simp)) I3.out ?_;simp only[J2,aK,aN,aC,aH,aP];go_big_quiet_step (fail);refine wpQuiet_nil ?_;refine wpAnyH_done (by kernel_rfl) ?_ _;refine⟨rfl,?_⟩
   cases wb
   focus
    have HD0:=HDD.out;rw[if_neg (by decide)] at HD0;go_wp2_with fail;go_ret;exact⟨by rw[HD0];rfl,by rw[HD0];exact A3.out.to⟩
   have HD0:Hid _:=HDD.out.trans (if_pos rfl);have f1:w3.cell? ⟨p,1,none⟩=some (.int .i64 yi):=by rw[HYI.out];exact(FO Y3.out).c1
   have m7:w3.cell? ⟨w.heap.size,7,none⟩=some (.int .i64 ac):=by rw[HAC.out];exact(Dm HM.out Z3.out).n 6 (by decide)
   have CE:=A3.out.call (n'':=FC n2 yi ac) (P:=fun e _=>e=.returned (.tuple #[])) fun u hu=>Ms B w3 g gt gh gw R n2 u hu HLG.out yi ac;obtain⟨n9,hn9⟩:∃n9,n9=FC n2 yi ac:=⟨_,rfl⟩;have HN9:Hid (n9=FC n2 yi ac):=hn9;rw[←hn9] at CE;clear hn9;go_wp2_with (go_at_call 84;refine CE.mono ?_;rintro e w9 ⟨rfl,a9,_⟩;have A9:Hid (Av B w w9 g gt gh gw R n9 r (fun k=>k=w.heap.size∨k=p)):=a9;clear a9 CE;refine Ak ?_);unfold AA;clear f1 m7;go_wp2_with fail;go_ret;exact⟨by rw[HD0.out];rfl,by rw[HD0.out];show Dl _ _ _ _ _ _ _ _ (FC n2 yi ac) _;rw[←HN9.out];exact A9.out.to⟩
end
end Go.Proofs.YtbhkoipcpcoooaaGreat
