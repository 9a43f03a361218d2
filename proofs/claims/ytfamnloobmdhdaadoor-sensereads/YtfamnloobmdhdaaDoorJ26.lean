import Derived.Test.YtfamnloobmdhdaaDoorJ24
import Derived.Test.YtfamnloobmdhdaaDoorJ25
namespace Go.Proofs.YtfamnloobmdhdaaDoor
open Go Go.RowKit
set_option maxRecDepth 20000

theorem rclause_any (W0 w : World) (g E : Nat) (Lv : Value) (T : List Tok) (hL : GSl TokE encT W0 Lv T) (had : List Cla) (hv : Value) (Bh : Nat) (s : Ws) (hi : s.i ≤ 5900) (hBh : g < Bh) (hh : ClasOwn Bh w had hv) (hhl : had.length ≤ 5000) (h : Wk W0 w g E Lv s) :
    Calls Tryd.prog 74 #[.pointer (some ⟨g, 0, none⟩), hv] w fun e w' => ∃ u, e = .returned (.agg (claV (clauseW E T had s).1 u)) ∧ w'.ownsRow w.heap.size 48 2 u (clauseW E T had s).1.nums.length (gcells figV (clauseW E T had s).1.nums) ∧ w.grownBy w' (some g) ∧ Wk W0 w' g E Lv (clauseW E T had s).2 := by
  by_cases h1 : (nx E T s).text = wSrc
  · exact rclause_src W0 w g E Lv T hL had hv Bh s hi h1 hBh hh hhl h
  by_cases h2 : (nx E T s).text = wDst
  · exact rclause_dst W0 w g E Lv T hL had hv Bh s hi h2 hBh hh hhl h
  by_cases h3 : (nx E T s).text = wSport
  · exact rclause_sport W0 w g E Lv T hL had hv Bh s hi h3 hBh hh hhl h
  by_cases h4 : (nx E T s).text = wDport
  · exact rclause_dport W0 w g E Lv T hL had hv Bh s hi h4 hBh hh hhl h
  by_cases h5 : (nx E T s).text = wProto
  · exact rclause_proto W0 w g E Lv T hL had hv Bh s hi h5 hBh hh hhl h
  exact rclause_other W0 w g E Lv T hL had hv Bh s hi ⟨h1, h2, h3, h4, h5⟩ hBh hh hhl h

/-- The reference at work on a line: where things lie. -/
structure Rst (W0 w W : World) (g E : Nat) (Lv : Value) (k : Nat) (x : Raw) (u : Value) (s : Ws) : Prop where
  wk : Wk W0 W g E Lv s
  gr : w.grownBy W (some g)
  cl : W.heap[k]? = some (.cells (rawV x u) 51 (0, 0))
  r0 : W.heap[w.heap.size]? = some (.cells (rawV ⟨0, false, ⟨0, 0⟩, [], false, ⟨0, 0⟩⟩ (.slice none 0 0)) 51 (0, 0))
  own : ClasOwn w.heap.size W x.clauses u
  hk : w.heap.size < k
  hg : W0.heap.size ≤ g ∧ g < w.heap.size
theorem Rst.size {W0 w W : World} {g E : Nat} {Lv : Value} {k : Nat} {x : Raw} {u : Value} {s : Ws} (h : Rst W0 w W g E Lv k x u s) : k < W.heap.size := (Array.getElem?_eq_some_iff.1 h.cl).1
theorem Rst.by {W0 w W W' : World} {g E : Nat} {Lv : Value} {k : Nat} {x : Raw} {u : Value} {s s' : Ws} (h : Rst W0 w W g E Lv k x u s) (hgr : W.grownBy W' (some g)) (hw : Wk W0 W' g E Lv s') : Rst W0 w W' g E Lv k x u s' := by
  have hz := h.size
  have hk := h.hk
  have hg := h.hg
  exact ⟨hw, grown_trans h.gr hgr, (hgr.block _ (by omega) (by simp; omega)).trans h.cl, (hgr.block _ (by omega) (by simp; omega)).trans h.r0, h.own.by hgr hg.2, hk, hg⟩
theorem Rst.below {W0 w W W' : World} {g E : Nat} {Lv : Value} {k : Nat} {x : Raw} {u : Value} {s : Ws} (h : Rst W0 w W g E Lv k x u s) (hb : Below W.heap.size W W') : Rst W0 w W' g E Lv k x u s := h.by (grown_below hb) (h.wk.below hb)
theorem Rst.step {W0 w W : World} {g E : Nat} {Lv : Value} {k : Nat} {x : Raw} {u : Value} {s : Ws} (h : Rst W0 w W g E Lv k x u s) : Rst W0 w (W.setCell ⟨g, 1, none⟩ (.int .i64 ((s.i : Int) + 1))) g E Lv k x u (stepW s) :=
  h.by (gb_setCell (gb_refl _ _) (.inl rfl) _ _) (wk_set h.wk 1 _ _ rfl)
theorem Rst.set {W0 w W : World} {g E : Nat} {Lv : Value} {k : Nat} {x : Raw} {u : Value} {s : Ws} (h : Rst W0 w W g E Lv k x u s) (i : Nat) (v : Value) (x' : Raw) (hn : x'.clauses = x.clauses) (hc : (rawV x u).setIfInBounds i v = rawV x' u) : Rst W0 w (W.setCell ⟨k, i, none⟩ v) g E Lv k x' u s := by
  have hz := h.size
  have hk := h.hk
  have hg := h.hg
  refine ⟨wk_setCell h.wk (by omega) (by omega) _ _, gb_setCell h.gr (.inr (by omega)) _ _, ?_, (tc_far (by omega) _).trans h.r0, ?_, hk, hg⟩
  · rw [tc_row h.cl, hc]
  · rw [hn]; exact clas_set h.own h.cl _
theorem Rst.app {W0 w W w1 w3 : World} {g E : Nat} {Lv : Value} {k : Nat} {x : Raw} {u v' u' : Value} {s s' : Ws} {c : Cla} {Pl : List (Cla × Value)} (h : Rst W0 w W g E Lv k x u s) (hP : Pl.map (·.1) = x.clauses) (hPo : W.ownsRow w.heap.size 54 5 u Pl.length (gcells (fun q : Cla × Value => claV q.1 q.2) Pl)) (hPf : ∀ q ∈ Pl, FigsR w.heap.size W q.1 q.2)
    (hg1 : W.grownBy w1 (some g)) (hw1 : Wk W0 w1 g E Lv s') (hf1 : FigsR w.heap.size w1 c u') (hgr : (w1.alloc (.cells (claV c u') 54)).grownBy w3 u.ownBlock)
    (hown : w3.ownsRow w.heap.size 54 5 v' (Pl ++ [(c, u')]).length (gcells (fun q : Cla × Value => claV q.1 q.2) (Pl ++ [(c, u')]))) (hp : w3.heap[k]? = some (.cells (rawV x u) 51 (0, 0))) :
    Rst W0 w (w3.setCell ⟨k, 4, none⟩ v') g E Lv k ⟨x.pos, x.dflt, x.prio, x.clauses ++ [c], x.drop, x.port⟩ v' s' := by
  have hz := h.size
  have hk := h.hk
  have hg := h.hg
  have h1 := h.by hg1 hw1
  have hz1 := h1.size
  have hub : ∀ j, u.ownBlock = some j → w.heap.size ≤ j := fun j hj => (hPo.lt j hj).1
  have ne : ∀ (j : Nat) (cs : Array Value) (ty : TypeId), W.heap[j]? = some (.cells cs ty (0, 0)) → 54 ≠ ty → u.ownBlock ≠ some j := fun j cs ty hj ht hq => by
    obtain ⟨_, ⟨hv, _⟩ | ⟨g', cap', cur', hv, _, h2, _⟩⟩ := hPo
    · rw [hv] at hq; simp [Value.ownBlock] at hq
    · rw [hv] at hq
      simp only [Value.ownBlock, Option.some.injEq] at hq
      rw [hq, hj] at h2
      simp only [Option.some.injEq, Obj.cells.injEq] at h2
      exact ht h2.2.1.symm
  have b2 : w3.heap[w.heap.size]? = some (.cells (rawV ⟨0, false, ⟨0, 0⟩, [], false, ⟨0, 0⟩⟩ (.slice none 0 0)) 51 (0, 0)) := (hgr.block _ (by simp; omega) (fun hq => ne _ _ _ h.r0 (by decide) hq.symm)).trans (heap_past _ _ _ _ h1.r0)
  have hPo1 : (w1.alloc (.cells (claV c u') 54)).ownsRow w.heap.size 54 5 u Pl.length (gcells (fun q : Cla × Value => claV q.1 q.2) Pl) := (own_by hg1 hg.2 hPo).alloc _
  have figs : ∀ (d : Cla) (y : Value), FigsR w.heap.size w1 d y → FigsR w.heap.size w3 d y := fun d y hy => own_grown hgr (hy.alloc _) (own_apart hPo1 (hy.alloc _) (by decide))
  have O3 : ClasOwn w.heap.size w3 (x.clauses ++ [c]) v' := NOwn.snoc hP hown (fun q hq => figs _ _ (own_by hg1 hg.2 (hPf q hq))) (figs _ _ hf1)
  refine ⟨wk_setCell (wk_own (hw1.alloc _) hgr fun j hj => Nat.lt_of_lt_of_le hg.2 (hub j hj)) (by omega) (by omega) _ _, gb_setCell (gb_own (gb_alloc h1.gr _) hgr hub) (.inr (by omega)) _ _, tc_row hp _, (tc_far (by omega) _).trans b2, clas_set O3 hp _, hk, hg⟩
/-- Where the walk stands, as memory has it. -/
def atN (w : World) (g : Nat) : Nat := match w.heap[g]? with | some (Obj.cells cs _ _) => (match cs[1]? with | some (Value.int _ n) => n.toNat | _ => 0) | _ => 0
theorem at_is {W0 w : World} {g E : Nat} {Lv : Value} {s : Ws} (h : Wk W0 w g E Lv s) : atN w g = s.i := by
  unfold atN
  rw [h.2.2]
  show (s.i : Int).toNat = s.i
  omega

set_option maxHeartbeats 16000000 in
set_option maxRecDepth 10000 in
theorem rrow_any (W0 w : World) (g E : Nat) (Lv : Value) (T : List Tok) (hL : GSl TokE encT W0 Lv T) (hTl : T.length ≤ 4900) (s : Ws) (hi : s.i < T.length) (h : Wk W0 w g E Lv s) :
    Calls Tryd.prog 46 #[.pointer (some ⟨g, 0, none⟩)] w fun e w' => ∃ u, e = .returned (.agg (rawV (rowW E T s).1 u)) ∧ ClasOwn w.heap.size w' (rowW E T s).1.clauses u ∧ w.grownBy w' (some g) ∧ Wk W0 w' g E Lv (rowW E T s).2 := by
  obtain ⟨oL, capL, rfl, hcL, hmL⟩ := hL.slice
  unfold maxLen at hmL
  have CN : Hid (∀ W s, Wk W0 W g E (.slice oL T.length capL) s → Calls Tryd.prog 71 #[.pointer (some ⟨g, 0, none⟩)] W fun e w' => e = .returned (.agg (encT (nx E T s))) ∧ Below W.heap.size W w') := fun W s h => next_any W0 W g E _ T hL s h
  have CW : Hid (∀ W s, Wk W0 W g E (.slice oL T.length capL) s → Calls Tryd.prog 45 #[.pointer (some ⟨g, 0, none⟩), .int .i64 8] W fun e' w' => e' = .returned (.tuple #[]) ∧ W.grownBy w' (some g) ∧ Wk W0 w' g E (.slice oL T.length capL) (wrong E T 8 s)) := fun W s h => wrong_any W0 W g E _ T hL 8 s h
  have CF : Hid (∀ W s, s.i ≤ 6000 → Wk W0 W g E (.slice oL T.length capL) s → Calls Tryd.prog 73 #[.pointer (some ⟨g, 0, none⟩)] W fun e' w' => e' = .returned (.agg (figV (figW E T s).1)) ∧ W.grownBy w' (some g) ∧ Wk W0 w' g E (.slice oL T.length capL) (figW E T s).2) := fun W s hi h => figure_any6 W0 W g E _ T hL s hi h
  have CK : Hid (∀ W s, s.i ≤ 6000 → Wk W0 W g E (.slice oL T.length capL) s → Calls Tryd.prog 75 #[.pointer (some ⟨g, 0, none⟩), .int .i64 6] W fun e' w' => e' = .returned (.agg (encT (kindW E T 6 s).1)) ∧ W.grownBy w' (some g) ∧ Wk W0 w' g E (.slice oL T.length capL) (kindW E T 6 s).2) := fun W s hi h => kind_any6 W0 W g E _ T hL 6 s hi h
  have CWd : Hid (∀ W (x : List UInt8) s, Wk W0 W g E (.slice oL T.length capL) s → Calls Tryd.prog 72 #[.pointer (some ⟨g, 0, none⟩), .string ⟨x.toArray⟩] W fun e' w' => e' = .returned (.bool (wordW E T x s)) ∧ Below W.heap.size W w') := fun W x s h => word_any6 W0 W g E _ T hL x s h
  have CC : Hid (∀ W had hv s, s.i ≤ 5900 → ClasOwn w.heap.size W had hv → had.length ≤ 5000 → Wk W0 W g E (.slice oL T.length capL) s → Calls Tryd.prog 74 #[.pointer (some ⟨g, 0, none⟩), hv] W fun e w' => ∃ u, e = .returned (.agg (claV (clauseW E T had s).1 u)) ∧ w'.ownsRow W.heap.size 48 2 u (clauseW E T had s).1.nums.length (gcells figV (clauseW E T had s).1.nums) ∧ W.grownBy w' (some g) ∧ Wk W0 w' g E (.slice oL T.length capL) (clauseW E T had s).2) := fun W had hv s hi hh hl hw => rclause_any W0 W g E _ T hL had hv w.heap.size s hi h.size.2 hh hl hw
  have hgl := h.size
  have HL : Hid (GSl TokE encT W0 (.slice oL T.length capL) T) := hL
  obtain ⟨R, hR⟩ : ∃ R, R = rowW E T s := ⟨_, rfl⟩
  rw [← hR]
  have HR : Hid (R = rowW E T s) := hR
  obtain ⟨t, hnt⟩ : ∃ t, t = nx E T s := ⟨_, rfl⟩
  have HT : Hid (t = nx E T s) := hnt
  have H : Hid (Wk W0 w g E (.slice oL T.length capL) s) := h
  clear h hR hL hnt
  go_enter Tryd.func46, Tryd.ntmps46
  go_wp2_with fail
  refine (CN.out _ s (H.out.alloc _)).mono ?_
  rw [← HT.out]
  rintro e w1 ⟨rfl, hb1⟩
  have ff1 := tok_f1 t
  have B1 : Below w.heap.size w w1 := ((Below.refl _ _).alloc (Nat.le_refl _) _).trans (hb1.mono (by simp))
  have z1 : w.heap.size < w1.heap.size := by have := hb1.size; simp at this; omega
  have C0 : Rst W0 w (w1.alloc (.cells (rawV ⟨(t.pos : Int), false, ⟨0, 0⟩, [], false, ⟨0, 0⟩⟩ (.slice none 0 0)) 51)) g E (.slice oL T.length capL) w1.heap.size ⟨(t.pos : Int), false, ⟨0, 0⟩, [], false, ⟨0, 0⟩⟩ (.slice none 0 0) s :=
    ⟨(H.out.below B1).alloc _, gb_alloc (grown_below B1) _, heap_new _ _ _ rfl, heap_past _ _ _ _ ((hb1.block _ (by simp)).trans (heap_new _ _ _ rfl)), clas_nil _ _, z1, hgl⟩
  obtain ⟨k, hk⟩ : ∃ k, k = w1.heap.size := ⟨_, rfl⟩
  obtain ⟨WA, hWA⟩ : ∃ WA, WA = w1.alloc (.cells (rawV ⟨(t.pos : Int), false, ⟨0, 0⟩, [], false, ⟨0, 0⟩⟩ (.slice none 0 0)) 51) := ⟨_, rfl⟩
  rw [← hWA] at C0
  have HWA : Hid (WA = w1.alloc (.cells (rawV ⟨(t.pos : Int), false, ⟨0, 0⟩, [], false, ⟨0, 0⟩⟩ (.slice none 0 0)) 51) ∧ k = w1.heap.size) := ⟨hWA, hk⟩
  have CS : Hid (Rst W0 w WA g E (.slice oL T.length capL) k ⟨(t.pos : Int), false, ⟨0, 0⟩, [], false, ⟨0, 0⟩⟩ (.slice none 0 0) s) := by rw [hk]; exact C0
  clear hb1 B1 C0 hWA hk
  go_wp2_with (first
    | (refine wl_storeE (E := RawE) RawOk rfl _ _ rfl w1.heap.size (rawV ⟨(t.pos : Int), false, ⟨0, 0⟩, [], false, ⟨0, 0⟩⟩ (.slice none 0 0)) (raw_fits _ _ ⟨_, _, _, rfl⟩) rfl rfl _ (heap_new _ _ _ rfl) rfl _ (setRow_new _ _ _ _ _ rfl) ?_))
  rw [← HWA.out.1, ← HWA.out.2]
  clear ff1
  refine (CWd.out _ wDefault s CS.out.wk).mono ?_
  rintro e WB ⟨rfl, hbB⟩
  replace CS : Hid (Rst W0 w WB g E (.slice oL T.length capL) k ⟨(t.pos : Int), false, ⟨0, 0⟩, [], false, ⟨0, 0⟩⟩ (.slice none 0 0) s) := CS.out.below hbB
  clear hbB
  have hi6 : s.i ≤ 4900 := by omega
  by_cases hdf : wordW E T wDefault s = true
  · rw [hdf]
    have HFR : Hid (frontW E T s = ((true, ⟨0, 0⟩, []), stepW s)) := by show _ = _; unfold frontW; rw [if_pos hdf]
    have CG := CS.out.set 1 (.bool true) ⟨(t.pos : Int), true, ⟨0, 0⟩, [], false, ⟨0, 0⟩⟩ rfl rfl
    obtain ⟨_, g1, _, _, _, gz⟩ := wk_cells CG.wk
    have gz1 := gz 1
    have c5 : WB.cell? ⟨k, 1, none⟩ = some (.bool false) := by rw [cell_of_row _ _ _ _ _ _ CS.out.cl]; rfl
    have f5 : WB.frozen? ⟨k, 1, none⟩ = false := tc_frozen CS.out.cl rfl
    have HCH : Hid (Rst W0 w ((WB.setCell ⟨k, 1, none⟩ (.bool true)).setCell ⟨g, 1, none⟩ (.int .i64 ((s.i : Int) + 1))) g E (.slice oL T.length capL) k ⟨(t.pos : Int), true, ⟨0, 0⟩, [], false, ⟨0, 0⟩⟩ (.slice none 0 0) (stepW s)) := CG.step
    clear CG gz hdf
    go_wp2_with fail
    obtain ⟨WC, hWC⟩ : ∃ W', W' = ((WB.setCell ⟨k, 1, none⟩ (.bool true)).setCell ⟨g, 1, none⟩ (.int .i64 ((s.i : Int) + 1))) := ⟨_, rfl⟩
    rw [← hWC] at HCH ⊢
    obtain ⟨st, hst0⟩ : ∃ st, st = stepW s := ⟨_, rfl⟩
    rw [← hst0] at HCH HFR
    have hst : st.i ≤ 4950 := by rw [hst0]; show s.i + 1 ≤ _; omega
    replace CS : Hid (Rst W0 w WC g E (.slice oL T.length capL) k ⟨(t.pos : Int), true, ⟨0, 0⟩, [], false, ⟨0, 0⟩⟩ (.slice none 0 0) st) := HCH.out
    clear HCH hWC g1 gz1 c5 f5 hst0
    refine (CK.out _ st (by omega) CS.out.wk).mono ?_
    rintro e WK ⟨rfl, hgK, hwK⟩
    obtain ⟨s4, hs4⟩ : ∃ s4, s4 = (kindW E T 6 st).2 := ⟨_, rfl⟩
    have h4i : s4.i ≤ 4990 := by rw [hs4, kind_i]; omega
    have HS4 : Hid (s4 = (kindW E T 6 st).2) := hs4
    rw [← hs4] at hwK
    replace CS : Hid (Rst W0 w WK g E (.slice oL T.length capL) k ⟨(t.pos : Int), true, ⟨0, 0⟩, [], false, ⟨0, 0⟩⟩ (.slice none 0 0) s4) := CS.out.by hgK hwK
    clear hgK hwK hs4
    go_wp2_with fail
    refine (CWd.out _ wDrop s4 CS.out.wk).mono ?_
    rintro e WL ⟨rfl, hbL⟩
    replace CS : Hid (Rst W0 w WL g E (.slice oL T.length capL) k ⟨(t.pos : Int), true, ⟨0, 0⟩, [], false, ⟨0, 0⟩⟩ (.slice none 0 0) s4) := CS.out.below hbL
    clear hbL
    by_cases hdr : wordW E T wDrop s4 = true
    · rw [hdr]
      have HAC : Hid (actW E T s4 = ((true, ⟨0, 0⟩), stepW s4)) := by show _ = _; unfold actW; rw [if_pos hdr]
      have CG := CS.out.set 5 (.bool true) ⟨(t.pos : Int), true, ⟨0, 0⟩, [], true, ⟨0, 0⟩⟩ rfl rfl
      obtain ⟨_, g1, _, _, _, gz⟩ := wk_cells CG.wk
      have gz1 := gz 1
      have c5 : WL.cell? ⟨k, 5, none⟩ = some (.bool false) := by rw [cell_of_row _ _ _ _ _ _ CS.out.cl]; rfl
      have f5 : WL.frozen? ⟨k, 5, none⟩ = false := tc_frozen CS.out.cl rfl
      have HCH : Hid (Rst W0 w ((WL.setCell ⟨k, 5, none⟩ (.bool true)).setCell ⟨g, 1, none⟩ (.int .i64 ((s4.i : Int) + 1))) g E (.slice oL T.length capL) k ⟨(t.pos : Int), true, ⟨0, 0⟩, [], true, ⟨0, 0⟩⟩ (.slice none 0 0) (stepW s4)) := CG.step
      clear CG gz hdr
      go_wp2_with fail
      obtain ⟨WM, hWM⟩ : ∃ W', W' = ((WL.setCell ⟨k, 5, none⟩ (.bool true)).setCell ⟨g, 1, none⟩ (.int .i64 ((s4.i : Int) + 1))) := ⟨_, rfl⟩
      rw [← hWM] at HCH ⊢
      replace CS : Hid (Rst W0 w WM g E (.slice oL T.length capL) k ⟨(t.pos : Int), true, ⟨0, 0⟩, [], true, ⟨0, 0⟩⟩ (.slice none 0 0) (stepW s4)) := HCH.out
      clear HCH hWM g1 gz1 c5 f5
      obtain ⟨s5, hs5⟩ : ∃ s5, s5 = (stepW s4) := ⟨_, rfl⟩
      rw [← hs5] at CS HAC
      have h5i : s5.i ≤ 5000 := by rw [hs5]; show s4.i + 1 ≤ _; omega
      clear hs5
      have kg := CS.out.wk.2.2
      have l0 : ∀ u : Later WM, u.world.cell? ⟨g, 0, none⟩ = some (.slice oL T.length capL) := later_cell6 kg rfl
      have l1 : ∀ u : Later WM, u.world.cell? ⟨g, 1, none⟩ = some (.int .i64 (s5.i : Int)) := later_cell6 kg rfl
      by_cases hlt : s5.i < T.length
      · obtain ⟨bL, offL, cur, ty, fr, c, hoL, hb, hc, hck⟩ := (HL.out.below CS.out.wk.1).at s5.i hlt
        subst hoL
        have hnx : nx E T s5 = c := by unfold nx; rw [List.getD, hck]; rfl
        have l2 : ∀ u : Later WM, u.world.cell? ⟨bL, offL + s5.i * 4, none⟩ = some (.int .i64 (c.kind : Int)) := later_cell6 hb (hc 0 (by decide))
        have hlt' : (s5.i : Int) < (T.length : Int) := by omega
        have hid : decide ((s5.i : Int) < (T.length : Int)) = true := by simp; omega
        clear hb hc hck kg
        have ne1 := Later.ne WM
        by_cases hk7 : c.kind = 7
        · have e7 : ((c.kind : Int) != 7) = false := by simp; omega
          have HE : Hid (endW E T s5 = s5) := if_neg fun q => q.2 (by rw [hnx]; exact hk7)
          clear hnx hk7
          refine wp_region_later (by kernel_rfl) (by kernel_rfl) ?_
          repeat first | (go_big_quiet_step (rfl)) | (refine q_nil rfl _ rfl _ rfl ?_; simp only [Act.put, List.setIfInBounds_toArray, List.set_cons_succ, List.set_cons_zero])
          refine wpQuiet_nil ?_
          rintro w' ⟨u, rfl⟩
          have CX := CS.out.below u.below
          obtain ⟨WZ, hWZ⟩ : ∃ WZ, WZ = u.world := ⟨_, rfl⟩
          rw [← hWZ] at CX ⊢
          replace CS : Hid (Rst W0 w WZ g E (.slice (some ⟨bL, offL, none⟩) T.length capL) k ⟨(t.pos : Int), true, ⟨0, 0⟩, [], true, ⟨0, 0⟩⟩ (.slice none 0 0) s5) := CX
          clear hWZ l0 l1 l2 ne1 CX
          go_wp2_with (first
            | (refine wl_loadE (E := RawE) RawOk rfl _ rfl k 0 rfl _ _ _ (rawV ⟨(t.pos : Int), true, ⟨0, 0⟩, [], true, ⟨0, 0⟩⟩ (.slice none 0 0)) rfl CS.out.cl (own_cells _ _) ?_)
            | (refine wl_storeE (E := RawE) RawOk rfl _ _ rfl w.heap.size (rawV ⟨(t.pos : Int), true, ⟨0, 0⟩, [], true, ⟨0, 0⟩⟩ (.slice none 0 0)) (raw_fits _ _ ⟨_, _, _, rfl⟩) rfl rfl _ CS.out.r0 rfl _ rfl ?_))
          refine retE (E := RawE) RawOk rfl rfl w.heap.size rfl (rawV ⟨(t.pos : Int), true, ⟨0, 0⟩, [], true, ⟨0, 0⟩⟩ (.slice none 0 0)) rfl (setRow_heap _ _ _ _ _ _ CS.out.r0) ?_
          have HRR : Hid (R = (⟨(t.pos : Int), true, ⟨0, 0⟩, [], true, ⟨0, 0⟩⟩, s5)) := by show _ = _; rw [HR.out]; unfold rowW; simp only [HFR.out, ← HS4.out, HAC.out]; rw [← HT.out]; rw [HE.out]
          rw [HRR.out]
          exact ⟨_, rfl, clas_setRow CS.out.own CS.out.r0 _, gb_setRow CS.out.gr (.inr (Nat.le_refl _)) _, wk_setRow CS.out.wk (by omega) (by omega) _⟩
        · have e7 : ((c.kind : Int) != 7) = true := by simp; omega
          have HE : Hid (endW E T s5 = wrong E T 8 s5) := if_pos ⟨hlt, by rw [hnx]; exact hk7⟩
          clear hnx hk7
          refine wp_region_later (by kernel_rfl) (by kernel_rfl) ?_
          repeat first | (go_big_quiet_step (rfl)) | (refine q_nil rfl _ rfl _ rfl ?_; simp only [Act.put, List.setIfInBounds_toArray, List.set_cons_succ, List.set_cons_zero])
          refine wpQuiet_nil ?_
          rintro w' ⟨u, rfl⟩
          have CX := CS.out.below u.below
          obtain ⟨WY, hWY⟩ : ∃ WY, WY = u.world := ⟨_, rfl⟩
          rw [← hWY] at CX ⊢
          replace CS : Hid (Rst W0 w WY g E (.slice (some ⟨bL, offL, none⟩) T.length capL) k ⟨(t.pos : Int), true, ⟨0, 0⟩, [], true, ⟨0, 0⟩⟩ (.slice none 0 0) s5) := CX
          clear hWY l0 l1 l2 ne1 CX
          go_wp2_with fail
          refine (CW.out _ s5 CS.out.wk).mono ?_
          rintro e WZ ⟨rfl, hgZ, hwZ⟩
          replace CS : Hid (Rst W0 w WZ g E (.slice (some ⟨bL, offL, none⟩) T.length capL) k ⟨(t.pos : Int), true, ⟨0, 0⟩, [], true, ⟨0, 0⟩⟩ (.slice none 0 0) (wrong E T 8 s5)) := CS.out.by hgZ hwZ
          clear hgZ hwZ
          go_wp2_with (first
            | (refine wl_loadE (E := RawE) RawOk rfl _ rfl k 0 rfl _ _ _ (rawV ⟨(t.pos : Int), true, ⟨0, 0⟩, [], true, ⟨0, 0⟩⟩ (.slice none 0 0)) rfl CS.out.cl (own_cells _ _) ?_)
            | (refine wl_storeE (E := RawE) RawOk rfl _ _ rfl w.heap.size (rawV ⟨(t.pos : Int), true, ⟨0, 0⟩, [], true, ⟨0, 0⟩⟩ (.slice none 0 0)) (raw_fits _ _ ⟨_, _, _, rfl⟩) rfl rfl _ CS.out.r0 rfl _ rfl ?_))
          refine retE (E := RawE) RawOk rfl rfl w.heap.size rfl (rawV ⟨(t.pos : Int), true, ⟨0, 0⟩, [], true, ⟨0, 0⟩⟩ (.slice none 0 0)) rfl (setRow_heap _ _ _ _ _ _ CS.out.r0) ?_
          have HRR : Hid (R = (⟨(t.pos : Int), true, ⟨0, 0⟩, [], true, ⟨0, 0⟩⟩, (wrong E T 8 s5))) := by show _ = _; rw [HR.out]; unfold rowW; simp only [HFR.out, ← HS4.out, HAC.out]; rw [← HT.out]; rw [HE.out]
          rw [HRR.out]
          exact ⟨_, rfl, clas_setRow CS.out.own CS.out.r0 _, gb_setRow CS.out.gr (.inr (Nat.le_refl _)) _, wk_setRow CS.out.wk (by omega) (by omega) _⟩
      · have hlt' : ¬ (s5.i : Int) < (T.length : Int) := by omega
        have hid : decide ((s5.i : Int) < (T.length : Int)) = false := by simp; omega
        have HE : Hid (endW E T s5 = s5) := if_neg fun q => hlt q.1
        clear kg
        have ne1 := Later.ne WM
        refine wp_region_later (by kernel_rfl) (by kernel_rfl) ?_
        repeat first | (go_big_quiet_step (rfl)) | (refine q_nil rfl _ rfl _ rfl ?_; simp only [Act.put, List.setIfInBounds_toArray, List.set_cons_succ, List.set_cons_zero])
        refine wpQuiet_nil ?_
        rintro w' ⟨u, rfl⟩
        have CX := CS.out.below u.below
        obtain ⟨WZ, hWZ⟩ : ∃ WZ, WZ = u.world := ⟨_, rfl⟩
        rw [← hWZ] at CX ⊢
        replace CS : Hid (Rst W0 w WZ g E (.slice oL T.length capL) k ⟨(t.pos : Int), true, ⟨0, 0⟩, [], true, ⟨0, 0⟩⟩ (.slice none 0 0) s5) := CX
        clear hWZ l0 l1 ne1 CX
        go_wp2_with (first
          | (refine wl_loadE (E := RawE) RawOk rfl _ rfl k 0 rfl _ _ _ (rawV ⟨(t.pos : Int), true, ⟨0, 0⟩, [], true, ⟨0, 0⟩⟩ (.slice none 0 0)) rfl CS.out.cl (own_cells _ _) ?_)
          | (refine wl_storeE (E := RawE) RawOk rfl _ _ rfl w.heap.size (rawV ⟨(t.pos : Int), true, ⟨0, 0⟩, [], true, ⟨0, 0⟩⟩ (.slice none 0 0)) (raw_fits _ _ ⟨_, _, _, rfl⟩) rfl rfl _ CS.out.r0 rfl _ rfl ?_))
        refine retE (E := RawE) RawOk rfl rfl w.heap.size rfl (rawV ⟨(t.pos : Int), true, ⟨0, 0⟩, [], true, ⟨0, 0⟩⟩ (.slice none 0 0)) rfl (setRow_heap _ _ _ _ _ _ CS.out.r0) ?_
        have HRR : Hid (R = (⟨(t.pos : Int), true, ⟨0, 0⟩, [], true, ⟨0, 0⟩⟩, s5)) := by show _ = _; rw [HR.out]; unfold rowW; simp only [HFR.out, ← HS4.out, HAC.out]; rw [← HT.out]; rw [HE.out]
        rw [HRR.out]
        exact ⟨_, rfl, clas_setRow CS.out.own CS.out.r0 _, gb_setRow CS.out.gr (.inr (Nat.le_refl _)) _, wk_setRow CS.out.wk (by omega) (by omega) _⟩
    · have hdr' : wordW E T wDrop s4 = false := by simpa using hdr
      rw [hdr']
      clear hdr'
      go_wp2_with fail
      refine (CWd.out _ wPort s4 CS.out.wk).mono ?_
      rintro e WN ⟨rfl, hbN⟩
      replace CS : Hid (Rst W0 w WN g E (.slice oL T.length capL) k ⟨(t.pos : Int), true, ⟨0, 0⟩, [], false, ⟨0, 0⟩⟩ (.slice none 0 0) s4) := CS.out.below hbN
      clear hbN
      by_cases hpw : wordW E T wPort s4 = true
      · rw [hpw]
        obtain ⟨_, g1, _, _, _, gz⟩ := wk_cells CS.out.wk
        have gz1 := gz 1
        have HCH : Hid (Rst W0 w (WN.setCell ⟨g, 1, none⟩ (.int .i64 ((s4.i : Int) + 1))) g E (.slice oL T.length capL) k ⟨(t.pos : Int), true, ⟨0, 0⟩, [], false, ⟨0, 0⟩⟩ (.slice none 0 0) (stepW s4)) := CS.out.step
        clear gz
        go_wp2_with fail
        refine (CF.out _ (stepW s4) (by show s4.i + 1 ≤ _; omega) HCH.out.wk).mono ?_
        rintro e WP ⟨rfl, hgP, hwP⟩
        replace CS : Hid (Rst W0 w WP g E (.slice oL T.length capL) k ⟨(t.pos : Int), true, ⟨0, 0⟩, [], false, ⟨0, 0⟩⟩ (.slice none 0 0) (figW E T (stepW s4)).2) := HCH.out.by hgP hwP
        obtain ⟨po, s45, hpo⟩ : ∃ po s45, figW E T (stepW s4) = (po, s45) := ⟨_, _, rfl⟩
        have hs45 : s45.i = s4.i + 2 := by have := fig_i E T (stepW s4); rw [hpo] at this; exact this
        rw [hpo] at CS ⊢
        have HAC : Hid (actW E T s4 = ((false, po), s45)) := by show _ = _; unfold actW; rw [if_neg hdr]; rw [if_pos hpw, hpo]
        have HS45 : Hid (s45.i = s4.i + 2) := hs45
        replace CS : Hid (Rst W0 w WP g E (.slice oL T.length capL) k ⟨(t.pos : Int), true, ⟨0, 0⟩, [], false, ⟨0, 0⟩⟩ (.slice none 0 0) s45) := CS.out
        have hst := store_fig WP k 6 _ _ CS.out.cl (by simp [rawV]) po
        have CG : Rst W0 w ((WP.setCell ⟨k, 6, none⟩ (.int .i64 po.n)).setCell ⟨k, 6 + 1, none⟩ (.int .i64 po.pos)) g E (.slice oL T.length capL) k ⟨(t.pos : Int), true, ⟨0, 0⟩, [], false, po⟩ (.slice none 0 0) s45 := (CS.out.set 6 (.int .i64 po.n) ⟨(t.pos : Int), true, ⟨0, 0⟩, [], false, ⟨po.n, 0⟩⟩ rfl rfl).set (6 + 1) (.int .i64 po.pos) ⟨(t.pos : Int), true, ⟨0, 0⟩, [], false, po⟩ rfl rfl
        have HCG : Hid _ := CG
        clear hgP hwP HCH g1 gz1 CG hs45 hpo
        go_wp2_with fail
        obtain ⟨WQ, hWQ⟩ : ∃ W', W' = ((WP.setCell ⟨k, 6, none⟩ (.int .i64 po.n)).setCell ⟨k, 6 + 1, none⟩ (.int .i64 po.pos)) := ⟨_, rfl⟩
        replace CS : Hid (Rst W0 w WQ g E (.slice oL T.length capL) k ⟨(t.pos : Int), true, ⟨0, 0⟩, [], false, po⟩ (.slice none 0 0) s45) := by rw [hWQ]; exact HCG.out
        rw [show ((WP.setCell ⟨k, 6, none⟩ (.int .i64 po.n)).setCell ⟨k, 7, none⟩ (.int .i64 po.pos)) = WQ from hWQ.symm]
        clear HCG hWQ hst
        obtain ⟨s5, hs5⟩ : ∃ s5, s5 = s45 := ⟨_, rfl⟩
        rw [← hs5] at CS HAC
        have h5i : s5.i ≤ 5000 := by rw [hs5]; have := HS45.out; omega
        clear hs5
        have kg := CS.out.wk.2.2
        have l0 : ∀ u : Later WQ, u.world.cell? ⟨g, 0, none⟩ = some (.slice oL T.length capL) := later_cell6 kg rfl
        have l1 : ∀ u : Later WQ, u.world.cell? ⟨g, 1, none⟩ = some (.int .i64 (s5.i : Int)) := later_cell6 kg rfl
        by_cases hlt : s5.i < T.length
        · obtain ⟨bL, offL, cur, ty, fr, c, hoL, hb, hc, hck⟩ := (HL.out.below CS.out.wk.1).at s5.i hlt
          subst hoL
          have hnx : nx E T s5 = c := by unfold nx; rw [List.getD, hck]; rfl
          have l2 : ∀ u : Later WQ, u.world.cell? ⟨bL, offL + s5.i * 4, none⟩ = some (.int .i64 (c.kind : Int)) := later_cell6 hb (hc 0 (by decide))
          have hlt' : (s5.i : Int) < (T.length : Int) := by omega
          have hid : decide ((s5.i : Int) < (T.length : Int)) = true := by simp; omega
          clear hb hc hck kg
          have ne1 := Later.ne WQ
          by_cases hk7 : c.kind = 7
          · have e7 : ((c.kind : Int) != 7) = false := by simp; omega
            have HE : Hid (endW E T s5 = s5) := if_neg fun q => q.2 (by rw [hnx]; exact hk7)
            clear hnx hk7
            refine wp_region_later (by kernel_rfl) (by kernel_rfl) ?_
            repeat first | (go_big_quiet_step (rfl)) | (refine q_nil rfl _ rfl _ rfl ?_; simp only [Act.put, List.setIfInBounds_toArray, List.set_cons_succ, List.set_cons_zero])
            refine wpQuiet_nil ?_
            rintro w' ⟨u, rfl⟩
            have CX := CS.out.below u.below
            obtain ⟨WZ, hWZ⟩ : ∃ WZ, WZ = u.world := ⟨_, rfl⟩
            rw [← hWZ] at CX ⊢
            replace CS : Hid (Rst W0 w WZ g E (.slice (some ⟨bL, offL, none⟩) T.length capL) k ⟨(t.pos : Int), true, ⟨0, 0⟩, [], false, po⟩ (.slice none 0 0) s5) := CX
            clear hWZ l0 l1 l2 ne1 CX
            go_wp2_with (first
              | (refine wl_loadE (E := RawE) RawOk rfl _ rfl k 0 rfl _ _ _ (rawV ⟨(t.pos : Int), true, ⟨0, 0⟩, [], false, po⟩ (.slice none 0 0)) rfl CS.out.cl (own_cells _ _) ?_)
              | (refine wl_storeE (E := RawE) RawOk rfl _ _ rfl w.heap.size (rawV ⟨(t.pos : Int), true, ⟨0, 0⟩, [], false, po⟩ (.slice none 0 0)) (raw_fits _ _ ⟨_, _, _, rfl⟩) rfl rfl _ CS.out.r0 rfl _ rfl ?_))
            refine retE (E := RawE) RawOk rfl rfl w.heap.size rfl (rawV ⟨(t.pos : Int), true, ⟨0, 0⟩, [], false, po⟩ (.slice none 0 0)) rfl (setRow_heap _ _ _ _ _ _ CS.out.r0) ?_
            have HRR : Hid (R = (⟨(t.pos : Int), true, ⟨0, 0⟩, [], false, po⟩, s5)) := by show _ = _; rw [HR.out]; unfold rowW; simp only [HFR.out, ← HS4.out, HAC.out]; rw [← HT.out]; rw [HE.out]
            rw [HRR.out]
            exact ⟨_, rfl, clas_setRow CS.out.own CS.out.r0 _, gb_setRow CS.out.gr (.inr (Nat.le_refl _)) _, wk_setRow CS.out.wk (by omega) (by omega) _⟩
          · have e7 : ((c.kind : Int) != 7) = true := by simp; omega
            have HE : Hid (endW E T s5 = wrong E T 8 s5) := if_pos ⟨hlt, by rw [hnx]; exact hk7⟩
            clear hnx hk7
            refine wp_region_later (by kernel_rfl) (by kernel_rfl) ?_
            repeat first | (go_big_quiet_step (rfl)) | (refine q_nil rfl _ rfl _ rfl ?_; simp only [Act.put, List.setIfInBounds_toArray, List.set_cons_succ, List.set_cons_zero])
            refine wpQuiet_nil ?_
            rintro w' ⟨u, rfl⟩
            have CX := CS.out.below u.below
            obtain ⟨WY, hWY⟩ : ∃ WY, WY = u.world := ⟨_, rfl⟩
            rw [← hWY] at CX ⊢
            replace CS : Hid (Rst W0 w WY g E (.slice (some ⟨bL, offL, none⟩) T.length capL) k ⟨(t.pos : Int), true, ⟨0, 0⟩, [], false, po⟩ (.slice none 0 0) s5) := CX
            clear hWY l0 l1 l2 ne1 CX
            go_wp2_with fail
            refine (CW.out _ s5 CS.out.wk).mono ?_
            rintro e WZ ⟨rfl, hgZ, hwZ⟩
            replace CS : Hid (Rst W0 w WZ g E (.slice (some ⟨bL, offL, none⟩) T.length capL) k ⟨(t.pos : Int), true, ⟨0, 0⟩, [], false, po⟩ (.slice none 0 0) (wrong E T 8 s5)) := CS.out.by hgZ hwZ
            clear hgZ hwZ
            go_wp2_with (first
              | (refine wl_loadE (E := RawE) RawOk rfl _ rfl k 0 rfl _ _ _ (rawV ⟨(t.pos : Int), true, ⟨0, 0⟩, [], false, po⟩ (.slice none 0 0)) rfl CS.out.cl (own_cells _ _) ?_)
              | (refine wl_storeE (E := RawE) RawOk rfl _ _ rfl w.heap.size (rawV ⟨(t.pos : Int), true, ⟨0, 0⟩, [], false, po⟩ (.slice none 0 0)) (raw_fits _ _ ⟨_, _, _, rfl⟩) rfl rfl _ CS.out.r0 rfl _ rfl ?_))
            refine retE (E := RawE) RawOk rfl rfl w.heap.size rfl (rawV ⟨(t.pos : Int), true, ⟨0, 0⟩, [], false, po⟩ (.slice none 0 0)) rfl (setRow_heap _ _ _ _ _ _ CS.out.r0) ?_
            have HRR : Hid (R = (⟨(t.pos : Int), true, ⟨0, 0⟩, [], false, po⟩, (wrong E T 8 s5))) := by show _ = _; rw [HR.out]; unfold rowW; simp only [HFR.out, ← HS4.out, HAC.out]; rw [← HT.out]; rw [HE.out]
            rw [HRR.out]
            exact ⟨_, rfl, clas_setRow CS.out.own CS.out.r0 _, gb_setRow CS.out.gr (.inr (Nat.le_refl _)) _, wk_setRow CS.out.wk (by omega) (by omega) _⟩
        · have hlt' : ¬ (s5.i : Int) < (T.length : Int) := by omega
          have hid : decide ((s5.i : Int) < (T.length : Int)) = false := by simp; omega
          have HE : Hid (endW E T s5 = s5) := if_neg fun q => hlt q.1
          clear kg
          have ne1 := Later.ne WQ
          refine wp_region_later (by kernel_rfl) (by kernel_rfl) ?_
          repeat first | (go_big_quiet_step (rfl)) | (refine q_nil rfl _ rfl _ rfl ?_; simp only [Act.put, List.setIfInBounds_toArray, List.set_cons_succ, List.set_cons_zero])
          refine wpQuiet_nil ?_
          rintro w' ⟨u, rfl⟩
          have CX := CS.out.below u.below
          obtain ⟨WZ, hWZ⟩ : ∃ WZ, WZ = u.world := ⟨_, rfl⟩
          rw [← hWZ] at CX ⊢
          replace CS : Hid (Rst W0 w WZ g E (.slice oL T.length capL) k ⟨(t.pos : Int), true, ⟨0, 0⟩, [], false, po⟩ (.slice none 0 0) s5) := CX
          clear hWZ l0 l1 ne1 CX
          go_wp2_with (first
            | (refine wl_loadE (E := RawE) RawOk rfl _ rfl k 0 rfl _ _ _ (rawV ⟨(t.pos : Int), true, ⟨0, 0⟩, [], false, po⟩ (.slice none 0 0)) rfl CS.out.cl (own_cells _ _) ?_)
            | (refine wl_storeE (E := RawE) RawOk rfl _ _ rfl w.heap.size (rawV ⟨(t.pos : Int), true, ⟨0, 0⟩, [], false, po⟩ (.slice none 0 0)) (raw_fits _ _ ⟨_, _, _, rfl⟩) rfl rfl _ CS.out.r0 rfl _ rfl ?_))
          refine retE (E := RawE) RawOk rfl rfl w.heap.size rfl (rawV ⟨(t.pos : Int), true, ⟨0, 0⟩, [], false, po⟩ (.slice none 0 0)) rfl (setRow_heap _ _ _ _ _ _ CS.out.r0) ?_
          have HRR : Hid (R = (⟨(t.pos : Int), true, ⟨0, 0⟩, [], false, po⟩, s5)) := by show _ = _; rw [HR.out]; unfold rowW; simp only [HFR.out, ← HS4.out, HAC.out]; rw [← HT.out]; rw [HE.out]
          rw [HRR.out]
          exact ⟨_, rfl, clas_setRow CS.out.own CS.out.r0 _, gb_setRow CS.out.gr (.inr (Nat.le_refl _)) _, wk_setRow CS.out.wk (by omega) (by omega) _⟩
      · have hpw' : wordW E T wPort s4 = false := by simpa using hpw
        rw [hpw']
        clear hpw'
        go_wp2_with fail
        refine (CW.out _ s4 CS.out.wk).mono ?_
        rintro e WO ⟨rfl, hgO, hwO⟩
        obtain ⟨sw, hsw⟩ : ∃ sw, sw = wrong E T 8 s4 := ⟨_, rfl⟩
        have hswi : sw.i ≤ 4990 := by rw [hsw, wrong_i]; exact h4i
        have HSW : Hid (sw = wrong E T 8 s4) := hsw
        rw [← hsw] at hwO
        replace CS : Hid (Rst W0 w WO g E (.slice oL T.length capL) k ⟨(t.pos : Int), true, ⟨0, 0⟩, [], false, ⟨0, 0⟩⟩ (.slice none 0 0) sw) := CS.out.by hgO hwO
        clear hgO hwO hsw
        obtain ⟨_, g1, _, _, _, gz⟩ := wk_cells CS.out.wk
        have gz1 := gz 1
        have HCH : Hid (Rst W0 w (WO.setCell ⟨g, 1, none⟩ (.int .i64 ((sw.i : Int) + 1))) g E (.slice oL T.length capL) k ⟨(t.pos : Int), true, ⟨0, 0⟩, [], false, ⟨0, 0⟩⟩ (.slice none 0 0) (stepW sw)) := CS.out.step
        clear gz
        go_wp2_with fail
        refine (CF.out _ (stepW sw) (by show sw.i + 1 ≤ _; omega) HCH.out.wk).mono ?_
        rintro e WP ⟨rfl, hgP, hwP⟩
        replace CS : Hid (Rst W0 w WP g E (.slice oL T.length capL) k ⟨(t.pos : Int), true, ⟨0, 0⟩, [], false, ⟨0, 0⟩⟩ (.slice none 0 0) (figW E T (stepW sw)).2) := HCH.out.by hgP hwP
        obtain ⟨po, s45, hpo⟩ : ∃ po s45, figW E T (stepW sw) = (po, s45) := ⟨_, _, rfl⟩
        have hs45 : s45.i = sw.i + 2 := by have := fig_i E T (stepW sw); rw [hpo] at this; exact this
        rw [hpo] at CS ⊢
        have HAC : Hid (actW E T s4 = ((false, po), s45)) := by show _ = _; unfold actW; rw [if_neg hdr]; rw [if_neg hpw, ← HSW.out, hpo]
        have HS45 : Hid (s45.i = sw.i + 2) := hs45
        replace CS : Hid (Rst W0 w WP g E (.slice oL T.length capL) k ⟨(t.pos : Int), true, ⟨0, 0⟩, [], false, ⟨0, 0⟩⟩ (.slice none 0 0) s45) := CS.out
        have hst := store_fig WP k 6 _ _ CS.out.cl (by simp [rawV]) po
        have CG : Rst W0 w ((WP.setCell ⟨k, 6, none⟩ (.int .i64 po.n)).setCell ⟨k, 6 + 1, none⟩ (.int .i64 po.pos)) g E (.slice oL T.length capL) k ⟨(t.pos : Int), true, ⟨0, 0⟩, [], false, po⟩ (.slice none 0 0) s45 := (CS.out.set 6 (.int .i64 po.n) ⟨(t.pos : Int), true, ⟨0, 0⟩, [], false, ⟨po.n, 0⟩⟩ rfl rfl).set (6 + 1) (.int .i64 po.pos) ⟨(t.pos : Int), true, ⟨0, 0⟩, [], false, po⟩ rfl rfl
        have HCG : Hid _ := CG
        clear hgP hwP HCH g1 gz1 CG hs45 hpo
        go_wp2_with fail
        obtain ⟨WQ, hWQ⟩ : ∃ W', W' = ((WP.setCell ⟨k, 6, none⟩ (.int .i64 po.n)).setCell ⟨k, 6 + 1, none⟩ (.int .i64 po.pos)) := ⟨_, rfl⟩
        replace CS : Hid (Rst W0 w WQ g E (.slice oL T.length capL) k ⟨(t.pos : Int), true, ⟨0, 0⟩, [], false, po⟩ (.slice none 0 0) s45) := by rw [hWQ]; exact HCG.out
        rw [show ((WP.setCell ⟨k, 6, none⟩ (.int .i64 po.n)).setCell ⟨k, 7, none⟩ (.int .i64 po.pos)) = WQ from hWQ.symm]
        clear HCG hWQ hst
        obtain ⟨s5, hs5⟩ : ∃ s5, s5 = s45 := ⟨_, rfl⟩
        rw [← hs5] at CS HAC
        have h5i : s5.i ≤ 5000 := by rw [hs5]; have := HS45.out; omega
        clear hs5
        have kg := CS.out.wk.2.2
        have l0 : ∀ u : Later WQ, u.world.cell? ⟨g, 0, none⟩ = some (.slice oL T.length capL) := later_cell6 kg rfl
        have l1 : ∀ u : Later WQ, u.world.cell? ⟨g, 1, none⟩ = some (.int .i64 (s5.i : Int)) := later_cell6 kg rfl
        by_cases hlt : s5.i < T.length
        · obtain ⟨bL, offL, cur, ty, fr, c, hoL, hb, hc, hck⟩ := (HL.out.below CS.out.wk.1).at s5.i hlt
          subst hoL
          have hnx : nx E T s5 = c := by unfold nx; rw [List.getD, hck]; rfl
          have l2 : ∀ u : Later WQ, u.world.cell? ⟨bL, offL + s5.i * 4, none⟩ = some (.int .i64 (c.kind : Int)) := later_cell6 hb (hc 0 (by decide))
          have hlt' : (s5.i : Int) < (T.length : Int) := by omega
          have hid : decide ((s5.i : Int) < (T.length : Int)) = true := by simp; omega
          clear hb hc hck kg
          have ne1 := Later.ne WQ
          by_cases hk7 : c.kind = 7
          · have e7 : ((c.kind : Int) != 7) = false := by simp; omega
            have HE : Hid (endW E T s5 = s5) := if_neg fun q => q.2 (by rw [hnx]; exact hk7)
            clear hnx hk7
            refine wp_region_later (by kernel_rfl) (by kernel_rfl) ?_
            repeat first | (go_big_quiet_step (rfl)) | (refine q_nil rfl _ rfl _ rfl ?_; simp only [Act.put, List.setIfInBounds_toArray, List.set_cons_succ, List.set_cons_zero])
            refine wpQuiet_nil ?_
            rintro w' ⟨u, rfl⟩
            have CX := CS.out.below u.below
            obtain ⟨WZ, hWZ⟩ : ∃ WZ, WZ = u.world := ⟨_, rfl⟩
            rw [← hWZ] at CX ⊢
            replace CS : Hid (Rst W0 w WZ g E (.slice (some ⟨bL, offL, none⟩) T.length capL) k ⟨(t.pos : Int), true, ⟨0, 0⟩, [], false, po⟩ (.slice none 0 0) s5) := CX
            clear hWZ l0 l1 l2 ne1 CX
            go_wp2_with (first
              | (refine wl_loadE (E := RawE) RawOk rfl _ rfl k 0 rfl _ _ _ (rawV ⟨(t.pos : Int), true, ⟨0, 0⟩, [], false, po⟩ (.slice none 0 0)) rfl CS.out.cl (own_cells _ _) ?_)
              | (refine wl_storeE (E := RawE) RawOk rfl _ _ rfl w.heap.size (rawV ⟨(t.pos : Int), true, ⟨0, 0⟩, [], false, po⟩ (.slice none 0 0)) (raw_fits _ _ ⟨_, _, _, rfl⟩) rfl rfl _ CS.out.r0 rfl _ rfl ?_))
            refine retE (E := RawE) RawOk rfl rfl w.heap.size rfl (rawV ⟨(t.pos : Int), true, ⟨0, 0⟩, [], false, po⟩ (.slice none 0 0)) rfl (setRow_heap _ _ _ _ _ _ CS.out.r0) ?_
            have HRR : Hid (R = (⟨(t.pos : Int), true, ⟨0, 0⟩, [], false, po⟩, s5)) := by show _ = _; rw [HR.out]; unfold rowW; simp only [HFR.out, ← HS4.out, HAC.out]; rw [← HT.out]; rw [HE.out]
            rw [HRR.out]
            exact ⟨_, rfl, clas_setRow CS.out.own CS.out.r0 _, gb_setRow CS.out.gr (.inr (Nat.le_refl _)) _, wk_setRow CS.out.wk (by omega) (by omega) _⟩
          · have e7 : ((c.kind : Int) != 7) = true := by simp; omega
            have HE : Hid (endW E T s5 = wrong E T 8 s5) := if_pos ⟨hlt, by rw [hnx]; exact hk7⟩
            clear hnx hk7
            refine wp_region_later (by kernel_rfl) (by kernel_rfl) ?_
            repeat first | (go_big_quiet_step (rfl)) | (refine q_nil rfl _ rfl _ rfl ?_; simp only [Act.put, List.setIfInBounds_toArray, List.set_cons_succ, List.set_cons_zero])
            refine wpQuiet_nil ?_
            rintro w' ⟨u, rfl⟩
            have CX := CS.out.below u.below
            obtain ⟨WY, hWY⟩ : ∃ WY, WY = u.world := ⟨_, rfl⟩
            rw [← hWY] at CX ⊢
            replace CS : Hid (Rst W0 w WY g E (.slice (some ⟨bL, offL, none⟩) T.length capL) k ⟨(t.pos : Int), true, ⟨0, 0⟩, [], false, po⟩ (.slice none 0 0) s5) := CX
            clear hWY l0 l1 l2 ne1 CX
            go_wp2_with fail
            refine (CW.out _ s5 CS.out.wk).mono ?_
            rintro e WZ ⟨rfl, hgZ, hwZ⟩
            replace CS : Hid (Rst W0 w WZ g E (.slice (some ⟨bL, offL, none⟩) T.length capL) k ⟨(t.pos : Int), true, ⟨0, 0⟩, [], false, po⟩ (.slice none 0 0) (wrong E T 8 s5)) := CS.out.by hgZ hwZ
            clear hgZ hwZ
            go_wp2_with (first
              | (refine wl_loadE (E := RawE) RawOk rfl _ rfl k 0 rfl _ _ _ (rawV ⟨(t.pos : Int), true, ⟨0, 0⟩, [], false, po⟩ (.slice none 0 0)) rfl CS.out.cl (own_cells _ _) ?_)
              | (refine wl_storeE (E := RawE) RawOk rfl _ _ rfl w.heap.size (rawV ⟨(t.pos : Int), true, ⟨0, 0⟩, [], false, po⟩ (.slice none 0 0)) (raw_fits _ _ ⟨_, _, _, rfl⟩) rfl rfl _ CS.out.r0 rfl _ rfl ?_))
            refine retE (E := RawE) RawOk rfl rfl w.heap.size rfl (rawV ⟨(t.pos : Int), true, ⟨0, 0⟩, [], false, po⟩ (.slice none 0 0)) rfl (setRow_heap _ _ _ _ _ _ CS.out.r0) ?_
            have HRR : Hid (R = (⟨(t.pos : Int), true, ⟨0, 0⟩, [], false, po⟩, (wrong E T 8 s5))) := by show _ = _; rw [HR.out]; unfold rowW; simp only [HFR.out, ← HS4.out, HAC.out]; rw [← HT.out]; rw [HE.out]
            rw [HRR.out]
            exact ⟨_, rfl, clas_setRow CS.out.own CS.out.r0 _, gb_setRow CS.out.gr (.inr (Nat.le_refl _)) _, wk_setRow CS.out.wk (by omega) (by omega) _⟩
        · have hlt' : ¬ (s5.i : Int) < (T.length : Int) := by omega
          have hid : decide ((s5.i : Int) < (T.length : Int)) = false := by simp; omega
          have HE : Hid (endW E T s5 = s5) := if_neg fun q => hlt q.1
          clear kg
          have ne1 := Later.ne WQ
          refine wp_region_later (by kernel_rfl) (by kernel_rfl) ?_
          repeat first | (go_big_quiet_step (rfl)) | (refine q_nil rfl _ rfl _ rfl ?_; simp only [Act.put, List.setIfInBounds_toArray, List.set_cons_succ, List.set_cons_zero])
          refine wpQuiet_nil ?_
          rintro w' ⟨u, rfl⟩
          have CX := CS.out.below u.below
          obtain ⟨WZ, hWZ⟩ : ∃ WZ, WZ = u.world := ⟨_, rfl⟩
          rw [← hWZ] at CX ⊢
          replace CS : Hid (Rst W0 w WZ g E (.slice oL T.length capL) k ⟨(t.pos : Int), true, ⟨0, 0⟩, [], false, po⟩ (.slice none 0 0) s5) := CX
          clear hWZ l0 l1 ne1 CX
          go_wp2_with (first
            | (refine wl_loadE (E := RawE) RawOk rfl _ rfl k 0 rfl _ _ _ (rawV ⟨(t.pos : Int), true, ⟨0, 0⟩, [], false, po⟩ (.slice none 0 0)) rfl CS.out.cl (own_cells _ _) ?_)
            | (refine wl_storeE (E := RawE) RawOk rfl _ _ rfl w.heap.size (rawV ⟨(t.pos : Int), true, ⟨0, 0⟩, [], false, po⟩ (.slice none 0 0)) (raw_fits _ _ ⟨_, _, _, rfl⟩) rfl rfl _ CS.out.r0 rfl _ rfl ?_))
          refine retE (E := RawE) RawOk rfl rfl w.heap.size rfl (rawV ⟨(t.pos : Int), true, ⟨0, 0⟩, [], false, po⟩ (.slice none 0 0)) rfl (setRow_heap _ _ _ _ _ _ CS.out.r0) ?_
          have HRR : Hid (R = (⟨(t.pos : Int), true, ⟨0, 0⟩, [], false, po⟩, s5)) := by show _ = _; rw [HR.out]; unfold rowW; simp only [HFR.out, ← HS4.out, HAC.out]; rw [← HT.out]; rw [HE.out]
          rw [HRR.out]
          exact ⟨_, rfl, clas_setRow CS.out.own CS.out.r0 _, gb_setRow CS.out.gr (.inr (Nat.le_refl _)) _, wk_setRow CS.out.wk (by omega) (by omega) _⟩
  · have hdf' : wordW E T wDefault s = false := by simpa using hdf
    rw [hdf']
    clear hdf'
    go_wp2_with fail
    refine (CF.out _ s (by omega) CS.out.wk).mono ?_
    rintro e WC ⟨rfl, hgC, hwC⟩
    obtain ⟨pr, s2, hpr⟩ : ∃ pr s2, figW E T s = (pr, s2) := ⟨_, _, rfl⟩
    have h2i : s2.i ≤ 4901 := by have := fig_i E T s; rw [hpr] at this; have h' : s2.i = s.i + 1 := this; omega
    have h2t : s2.i ≤ T.length := by have := fig_i E T s; rw [hpr] at this; have h' : s2.i = s.i + 1 := this; omega
    rw [hpr] at hwC ⊢
    replace CS : Hid (Rst W0 w WC g E (.slice oL T.length capL) k ⟨(t.pos : Int), false, ⟨0, 0⟩, [], false, ⟨0, 0⟩⟩ (.slice none 0 0) s2) := CS.out.by hgC hwC
    have HFR0 : Hid (frontW E T s = ((false, pr, (clausesW E T (T.length - s2.i) [] s2).1), (clausesW E T (T.length - s2.i) [] s2).2)) := by show _ = _; unfold frontW; rw [if_neg hdf, hpr]
    have hst := store_fig WC k 2 _ _ CS.out.cl (by simp [rawV]) pr
    have CG : Rst W0 w ((WC.setCell ⟨k, 2, none⟩ (.int .i64 pr.n)).setCell ⟨k, 2 + 1, none⟩ (.int .i64 pr.pos)) g E (.slice oL T.length capL) k ⟨(t.pos : Int), false, pr, [], false, ⟨0, 0⟩⟩ (.slice none 0 0) s2 := (CS.out.set 2 (.int .i64 pr.n) ⟨(t.pos : Int), false, ⟨pr.n, 0⟩, [], false, ⟨0, 0⟩⟩ rfl rfl).set (2 + 1) (.int .i64 pr.pos) ⟨(t.pos : Int), false, pr, [], false, ⟨0, 0⟩⟩ rfl rfl
    have HCG : Hid _ := CG
    clear hgC hwC CG hpr
    go_wp2_with fail
    obtain ⟨WD, hWD⟩ : ∃ W', W' = ((WC.setCell ⟨k, 2, none⟩ (.int .i64 pr.n)).setCell ⟨k, 2 + 1, none⟩ (.int .i64 pr.pos)) := ⟨_, rfl⟩
    replace CS : Hid (Rst W0 w WD g E (.slice oL T.length capL) k ⟨(t.pos : Int), false, pr, [], false, ⟨0, 0⟩⟩ (.slice none 0 0) s2) := by rw [hWD]; exact HCG.out
    rw [show ((WC.setCell ⟨k, 2, none⟩ (.int .i64 pr.n)).setCell ⟨k, 3, none⟩ (.int .i64 pr.pos)) = WD from hWD.symm]
    clear HCG hWD hst
    go_loopw [] (fun wr => ∃ (fl : Nat) (had : List Cla) (st : Ws) (o : Option Addr) (n m : Nat), T.length ≤ st.i + fl ∧ st.i ≤ T.length + 12 ∧ had.length ≤ st.i ∧ Hid (clausesW E T (T.length - s2.i) [] s2 = clausesW E T fl had st) ∧ Rst W0 w wr g E (.slice oL T.length capL) k ⟨(t.pos : Int), false, pr, had, false, ⟨0, 0⟩⟩ (.slice o n m) st) (fun wr => T.length + 20 - atN wr g)
    case atStart => exact ⟨T.length - s2.i, [], s2, none, 0, 0, by omega, by omega, by simp, rfl, CS.out⟩
    case round =>
      obtain ⟨fl, had, st, o, n, m, hfl, hsti, hhl, HCW, C2⟩ := hrel
      clear CS
      have CS : Hid (Rst W0 w wr g E (.slice oL T.length capL) k ⟨(t.pos : Int), false, pr, had, false, ⟨0, 0⟩⟩ (.slice o n m) st) := C2
      obtain ⟨_, _, _, c3, _, _⟩ := wk_cells C2.wk
      clear C2
      by_cases hbd : st.bad = 0
      · have hb0 : ((st.bad : Int) == 0) = true := by simp; omega
        have f0 := tok_f0 (nx E T st)
        go_wp2_with fail
        refine (CN.out _ st CS.out.wk).mono ?_
        rintro e WE ⟨rfl, hbE⟩
        have HAT : Hid (atN wr g = st.i) := at_is CS.out.wk
        replace CS : Hid (Rst W0 w WE g E (.slice oL T.length capL) k ⟨(t.pos : Int), false, pr, had, false, ⟨0, 0⟩⟩ (.slice o n m) st) := CS.out.below hbE
        clear hbE c3
        by_cases hk1 : (nx E T st).kind = 1
        · have hk1' : (((nx E T st).kind : Int) == 1) = true := by simp; omega
          have hlt := kind1_lt hk1
          obtain ⟨fl', rfl⟩ : ∃ fl', fl = fl' + 1 := ⟨fl - 1, by omega⟩
          have HCW2 : Hid (clausesW E T (T.length - s2.i) [] s2 = clausesW E T fl' (had ++ [(clauseW E T had st).1]) (clauseW E T had st).2) := by show _ = _; rw [HCW.out, clausesW, if_pos ⟨hbd, hk1⟩]
          have hci := clause_i E T had st
          have HCI : Hid (st.i + 2 ≤ (clauseW E T had st).2.i ∧ (clauseW E T had st).2.i ≤ st.i + 12) := hci
          clear hk1 hbd hci
          go_wp2_with fail
          obtain ⟨Pl, hP1, hP2, hP3⟩ := CS.out.own
          have hPl : Pl.length = had.length := by rw [show had = _ from hP1.symm, List.length_map]
          have hz := CS.out.size
          have hkk := CS.out.hk
          refine row7_region (Nat.le_of_ble_eq_true rfl) g k rfl rfl _ CS.out.cl (.slice o n m) rfl (by omega) Pl w.heap.size hP2 (by omega) (by omega) hgl.2 (clauseW E T had st).1 (fun w' u' => Wk W0 w' g E (.slice oL T.length capL) (clauseW E T had st).2 ∧ FigsR w.heap.size w' (clauseW E T had st).1 u') (fun w' u' h => figs_slice h.2) ?_ ?_
          · refine (CC.out _ had (.slice o n m) st (by omega) (CS.out.own.below (Below.refl _ _).drew) (by omega) (CS.out.wk.below (Below.refl _ _).drew)).mono ?_
            rintro e w' ⟨u', rfl, h1, h2, h3⟩
            exact ⟨u', rfl, h2, h3, gown_base h1 (by rw [w_set_heap]; omega)⟩
          rintro a' w' ⟨w5, w6, v', u', ⟨y0, y1, y2, y3, y4, y5, y6, y7, y8, rfl⟩, hD, hg5, hgr6, hown6, hp6, rfl⟩
          simp only [Act.put, List.setIfInBounds_toArray, List.set_cons_succ, List.set_cons_zero]
          have CX := CS.out.app hP1 hP2 hP3 hg5 hD.1 hD.2 hgr6 hown6 hp6
          obtain ⟨xo, xn, xm, rfl⟩ := clas_slice CX.own
          obtain ⟨WX, hWX⟩ : ∃ W', W' = w6.setCell ⟨k, 4, none⟩ (.slice xo xn xm) := ⟨_, rfl⟩
          rw [← hWX] at CX ⊢
          replace CS : Hid (Rst W0 w WX g E (.slice oL T.length capL) k ⟨(t.pos : Int), false, pr, had ++ [(clauseW E T had st).1], false, ⟨0, 0⟩⟩ (.slice xo xn xm) (clauseW E T had st).2) := CX
          clear CX hWX hD hg5 hgr6 hown6 hp6 hP1 hP2 hP3 hPl hz
          go_wp2_with fail
          go_roundw
          case rel => exact ⟨fl', had ++ [(clauseW E T had st).1], (clauseW E T had st).2, xo, xn, xm, by have := HCI.out; omega, by have := HCI.out; omega, by have := HCI.out; simp; omega, HCW2, CS.out⟩
          case measure => rw [HAT.out, at_is CS.out.wk]; have := HCI.out; omega
        · have hk1' : (((nx E T st).kind : Int) == 1) = false := by simp; omega
          have HFR : Hid (frontW E T s = ((false, pr, had), st)) := by
            show _ = _
            rw [HFR0.out, HCW.out]
            cases fl with
            | zero => rfl
            | succ fl => rw [clausesW, if_neg fun q => hk1 q.2]
          have hst : st.i ≤ 4950 := by omega
          clear HCW HFR0 hk1
          go_wp2_with fail
          refine (CK.out _ st (by omega) CS.out.wk).mono ?_
          rintro e WK ⟨rfl, hgK, hwK⟩
          obtain ⟨s4, hs4⟩ : ∃ s4, s4 = (kindW E T 6 st).2 := ⟨_, rfl⟩
          have h4i : s4.i ≤ 4990 := by rw [hs4, kind_i]; omega
          have HS4 : Hid (s4 = (kindW E T 6 st).2) := hs4
          rw [← hs4] at hwK
          replace CS : Hid (Rst W0 w WK g E (.slice oL T.length capL) k ⟨(t.pos : Int), false, pr, had, false, ⟨0, 0⟩⟩ (.slice o n m) s4) := CS.out.by hgK hwK
          clear hgK hwK hs4
          go_wp2_with fail
          refine (CWd.out _ wDrop s4 CS.out.wk).mono ?_
          rintro e WL ⟨rfl, hbL⟩
          replace CS : Hid (Rst W0 w WL g E (.slice oL T.length capL) k ⟨(t.pos : Int), false, pr, had, false, ⟨0, 0⟩⟩ (.slice o n m) s4) := CS.out.below hbL
          clear hbL
          by_cases hdr : wordW E T wDrop s4 = true
          · rw [hdr]
            have HAC : Hid (actW E T s4 = ((true, ⟨0, 0⟩), stepW s4)) := by show _ = _; unfold actW; rw [if_pos hdr]
            have CG := CS.out.set 5 (.bool true) ⟨(t.pos : Int), false, pr, had, true, ⟨0, 0⟩⟩ rfl rfl
            obtain ⟨_, g1, _, _, _, gz⟩ := wk_cells CG.wk
            have gz1 := gz 1
            have c5 : WL.cell? ⟨k, 5, none⟩ = some (.bool false) := by rw [cell_of_row _ _ _ _ _ _ CS.out.cl]; rfl
            have f5 : WL.frozen? ⟨k, 5, none⟩ = false := tc_frozen CS.out.cl rfl
            have HCH : Hid (Rst W0 w ((WL.setCell ⟨k, 5, none⟩ (.bool true)).setCell ⟨g, 1, none⟩ (.int .i64 ((s4.i : Int) + 1))) g E (.slice oL T.length capL) k ⟨(t.pos : Int), false, pr, had, true, ⟨0, 0⟩⟩ (.slice o n m) (stepW s4)) := CG.step
            clear CG gz hdr
            go_wp2_with fail
            obtain ⟨WM, hWM⟩ : ∃ W', W' = ((WL.setCell ⟨k, 5, none⟩ (.bool true)).setCell ⟨g, 1, none⟩ (.int .i64 ((s4.i : Int) + 1))) := ⟨_, rfl⟩
            rw [← hWM] at HCH ⊢
            replace CS : Hid (Rst W0 w WM g E (.slice oL T.length capL) k ⟨(t.pos : Int), false, pr, had, true, ⟨0, 0⟩⟩ (.slice o n m) (stepW s4)) := HCH.out
            clear HCH hWM g1 gz1 c5 f5
            obtain ⟨s5, hs5⟩ : ∃ s5, s5 = (stepW s4) := ⟨_, rfl⟩
            rw [← hs5] at CS HAC
            have h5i : s5.i ≤ 5000 := by rw [hs5]; show s4.i + 1 ≤ _; omega
            clear hs5
            have kg := CS.out.wk.2.2
            have l0 : ∀ u : Later WM, u.world.cell? ⟨g, 0, none⟩ = some (.slice oL T.length capL) := later_cell6 kg rfl
            have l1 : ∀ u : Later WM, u.world.cell? ⟨g, 1, none⟩ = some (.int .i64 (s5.i : Int)) := later_cell6 kg rfl
            by_cases hlt : s5.i < T.length
            · obtain ⟨bL, offL, cur, ty, fr, c, hoL, hb, hc, hck⟩ := (HL.out.below CS.out.wk.1).at s5.i hlt
              subst hoL
              have hnx : nx E T s5 = c := by unfold nx; rw [List.getD, hck]; rfl
              have l2 : ∀ u : Later WM, u.world.cell? ⟨bL, offL + s5.i * 4, none⟩ = some (.int .i64 (c.kind : Int)) := later_cell6 hb (hc 0 (by decide))
              have hlt' : (s5.i : Int) < (T.length : Int) := by omega
              have hid : decide ((s5.i : Int) < (T.length : Int)) = true := by simp; omega
              clear hb hc hck kg
              have ne1 := Later.ne WM
              by_cases hk7 : c.kind = 7
              · have e7 : ((c.kind : Int) != 7) = false := by simp; omega
                have HE : Hid (endW E T s5 = s5) := if_neg fun q => q.2 (by rw [hnx]; exact hk7)
                clear hnx hk7
                refine wp_region_later (by kernel_rfl) (by kernel_rfl) ?_
                repeat first | (go_big_quiet_step (rfl)) | (refine q_nil rfl _ rfl _ rfl ?_; simp only [Act.put, List.setIfInBounds_toArray, List.set_cons_succ, List.set_cons_zero])
                refine wpQuiet_nil ?_
                rintro w' ⟨u, rfl⟩
                have CX := CS.out.below u.below
                obtain ⟨WZ, hWZ⟩ : ∃ WZ, WZ = u.world := ⟨_, rfl⟩
                rw [← hWZ] at CX ⊢
                replace CS : Hid (Rst W0 w WZ g E (.slice (some ⟨bL, offL, none⟩) T.length capL) k ⟨(t.pos : Int), false, pr, had, true, ⟨0, 0⟩⟩ (.slice o n m) s5) := CX
                clear hWZ l0 l1 l2 ne1 CX
                go_wp2_with (first
                  | (refine wl_loadE (E := RawE) RawOk rfl _ rfl k 0 rfl _ _ _ (rawV ⟨(t.pos : Int), false, pr, had, true, ⟨0, 0⟩⟩ (.slice o n m)) rfl CS.out.cl (own_cells _ _) ?_)
                  | (refine wl_storeE (E := RawE) RawOk rfl _ _ rfl w.heap.size (rawV ⟨(t.pos : Int), false, pr, had, true, ⟨0, 0⟩⟩ (.slice o n m)) (raw_fits _ _ ⟨_, _, _, rfl⟩) rfl rfl _ CS.out.r0 rfl _ rfl ?_))
                refine retE (E := RawE) RawOk rfl rfl w.heap.size rfl (rawV ⟨(t.pos : Int), false, pr, had, true, ⟨0, 0⟩⟩ (.slice o n m)) rfl (setRow_heap _ _ _ _ _ _ CS.out.r0) ?_
                have HRR : Hid (R = (⟨(t.pos : Int), false, pr, had, true, ⟨0, 0⟩⟩, s5)) := by show _ = _; rw [HR.out]; unfold rowW; simp only [HFR.out, ← HS4.out, HAC.out]; rw [← HT.out]; rw [HE.out]
                rw [HRR.out]
                exact ⟨_, rfl, clas_setRow CS.out.own CS.out.r0 _, gb_setRow CS.out.gr (.inr (Nat.le_refl _)) _, wk_setRow CS.out.wk (by omega) (by omega) _⟩
              · have e7 : ((c.kind : Int) != 7) = true := by simp; omega
                have HE : Hid (endW E T s5 = wrong E T 8 s5) := if_pos ⟨hlt, by rw [hnx]; exact hk7⟩
                clear hnx hk7
                refine wp_region_later (by kernel_rfl) (by kernel_rfl) ?_
                repeat first | (go_big_quiet_step (rfl)) | (refine q_nil rfl _ rfl _ rfl ?_; simp only [Act.put, List.setIfInBounds_toArray, List.set_cons_succ, List.set_cons_zero])
                refine wpQuiet_nil ?_
                rintro w' ⟨u, rfl⟩
                have CX := CS.out.below u.below
                obtain ⟨WY, hWY⟩ : ∃ WY, WY = u.world := ⟨_, rfl⟩
                rw [← hWY] at CX ⊢
                replace CS : Hid (Rst W0 w WY g E (.slice (some ⟨bL, offL, none⟩) T.length capL) k ⟨(t.pos : Int), false, pr, had, true, ⟨0, 0⟩⟩ (.slice o n m) s5) := CX
                clear hWY l0 l1 l2 ne1 CX
                go_wp2_with fail
                refine (CW.out _ s5 CS.out.wk).mono ?_
                rintro e WZ ⟨rfl, hgZ, hwZ⟩
                replace CS : Hid (Rst W0 w WZ g E (.slice (some ⟨bL, offL, none⟩) T.length capL) k ⟨(t.pos : Int), false, pr, had, true, ⟨0, 0⟩⟩ (.slice o n m) (wrong E T 8 s5)) := CS.out.by hgZ hwZ
                clear hgZ hwZ
                go_wp2_with (first
                  | (refine wl_loadE (E := RawE) RawOk rfl _ rfl k 0 rfl _ _ _ (rawV ⟨(t.pos : Int), false, pr, had, true, ⟨0, 0⟩⟩ (.slice o n m)) rfl CS.out.cl (own_cells _ _) ?_)
                  | (refine wl_storeE (E := RawE) RawOk rfl _ _ rfl w.heap.size (rawV ⟨(t.pos : Int), false, pr, had, true, ⟨0, 0⟩⟩ (.slice o n m)) (raw_fits _ _ ⟨_, _, _, rfl⟩) rfl rfl _ CS.out.r0 rfl _ rfl ?_))
                refine retE (E := RawE) RawOk rfl rfl w.heap.size rfl (rawV ⟨(t.pos : Int), false, pr, had, true, ⟨0, 0⟩⟩ (.slice o n m)) rfl (setRow_heap _ _ _ _ _ _ CS.out.r0) ?_
                have HRR : Hid (R = (⟨(t.pos : Int), false, pr, had, true, ⟨0, 0⟩⟩, (wrong E T 8 s5))) := by show _ = _; rw [HR.out]; unfold rowW; simp only [HFR.out, ← HS4.out, HAC.out]; rw [← HT.out]; rw [HE.out]
                rw [HRR.out]
                exact ⟨_, rfl, clas_setRow CS.out.own CS.out.r0 _, gb_setRow CS.out.gr (.inr (Nat.le_refl _)) _, wk_setRow CS.out.wk (by omega) (by omega) _⟩
            · have hlt' : ¬ (s5.i : Int) < (T.length : Int) := by omega
              have hid : decide ((s5.i : Int) < (T.length : Int)) = false := by simp; omega
              have HE : Hid (endW E T s5 = s5) := if_neg fun q => hlt q.1
              clear kg
              have ne1 := Later.ne WM
              refine wp_region_later (by kernel_rfl) (by kernel_rfl) ?_
              repeat first | (go_big_quiet_step (rfl)) | (refine q_nil rfl _ rfl _ rfl ?_; simp only [Act.put, List.setIfInBounds_toArray, List.set_cons_succ, List.set_cons_zero])
              refine wpQuiet_nil ?_
              rintro w' ⟨u, rfl⟩
              have CX := CS.out.below u.below
              obtain ⟨WZ, hWZ⟩ : ∃ WZ, WZ = u.world := ⟨_, rfl⟩
              rw [← hWZ] at CX ⊢
              replace CS : Hid (Rst W0 w WZ g E (.slice oL T.length capL) k ⟨(t.pos : Int), false, pr, had, true, ⟨0, 0⟩⟩ (.slice o n m) s5) := CX
              clear hWZ l0 l1 ne1 CX
              go_wp2_with (first
                | (refine wl_loadE (E := RawE) RawOk rfl _ rfl k 0 rfl _ _ _ (rawV ⟨(t.pos : Int), false, pr, had, true, ⟨0, 0⟩⟩ (.slice o n m)) rfl CS.out.cl (own_cells _ _) ?_)
                | (refine wl_storeE (E := RawE) RawOk rfl _ _ rfl w.heap.size (rawV ⟨(t.pos : Int), false, pr, had, true, ⟨0, 0⟩⟩ (.slice o n m)) (raw_fits _ _ ⟨_, _, _, rfl⟩) rfl rfl _ CS.out.r0 rfl _ rfl ?_))
              refine retE (E := RawE) RawOk rfl rfl w.heap.size rfl (rawV ⟨(t.pos : Int), false, pr, had, true, ⟨0, 0⟩⟩ (.slice o n m)) rfl (setRow_heap _ _ _ _ _ _ CS.out.r0) ?_
              have HRR : Hid (R = (⟨(t.pos : Int), false, pr, had, true, ⟨0, 0⟩⟩, s5)) := by show _ = _; rw [HR.out]; unfold rowW; simp only [HFR.out, ← HS4.out, HAC.out]; rw [← HT.out]; rw [HE.out]
              rw [HRR.out]
              exact ⟨_, rfl, clas_setRow CS.out.own CS.out.r0 _, gb_setRow CS.out.gr (.inr (Nat.le_refl _)) _, wk_setRow CS.out.wk (by omega) (by omega) _⟩
          · have hdr' : wordW E T wDrop s4 = false := by simpa using hdr
            rw [hdr']
            clear hdr'
            go_wp2_with fail
            refine (CWd.out _ wPort s4 CS.out.wk).mono ?_
            rintro e WN ⟨rfl, hbN⟩
            replace CS : Hid (Rst W0 w WN g E (.slice oL T.length capL) k ⟨(t.pos : Int), false, pr, had, false, ⟨0, 0⟩⟩ (.slice o n m) s4) := CS.out.below hbN
            clear hbN
            by_cases hpw : wordW E T wPort s4 = true
            · rw [hpw]
              obtain ⟨_, g1, _, _, _, gz⟩ := wk_cells CS.out.wk
              have gz1 := gz 1
              have HCH : Hid (Rst W0 w (WN.setCell ⟨g, 1, none⟩ (.int .i64 ((s4.i : Int) + 1))) g E (.slice oL T.length capL) k ⟨(t.pos : Int), false, pr, had, false, ⟨0, 0⟩⟩ (.slice o n m) (stepW s4)) := CS.out.step
              clear gz
              go_wp2_with fail
              refine (CF.out _ (stepW s4) (by show s4.i + 1 ≤ _; omega) HCH.out.wk).mono ?_
              rintro e WP ⟨rfl, hgP, hwP⟩
              replace CS : Hid (Rst W0 w WP g E (.slice oL T.length capL) k ⟨(t.pos : Int), false, pr, had, false, ⟨0, 0⟩⟩ (.slice o n m) (figW E T (stepW s4)).2) := HCH.out.by hgP hwP
              obtain ⟨po, s45, hpo⟩ : ∃ po s45, figW E T (stepW s4) = (po, s45) := ⟨_, _, rfl⟩
              have hs45 : s45.i = s4.i + 2 := by have := fig_i E T (stepW s4); rw [hpo] at this; exact this
              rw [hpo] at CS ⊢
              have HAC : Hid (actW E T s4 = ((false, po), s45)) := by show _ = _; unfold actW; rw [if_neg hdr]; rw [if_pos hpw, hpo]
              have HS45 : Hid (s45.i = s4.i + 2) := hs45
              replace CS : Hid (Rst W0 w WP g E (.slice oL T.length capL) k ⟨(t.pos : Int), false, pr, had, false, ⟨0, 0⟩⟩ (.slice o n m) s45) := CS.out
              have hst := store_fig WP k 6 _ _ CS.out.cl (by simp [rawV]) po
              have CG : Rst W0 w ((WP.setCell ⟨k, 6, none⟩ (.int .i64 po.n)).setCell ⟨k, 6 + 1, none⟩ (.int .i64 po.pos)) g E (.slice oL T.length capL) k ⟨(t.pos : Int), false, pr, had, false, po⟩ (.slice o n m) s45 := (CS.out.set 6 (.int .i64 po.n) ⟨(t.pos : Int), false, pr, had, false, ⟨po.n, 0⟩⟩ rfl rfl).set (6 + 1) (.int .i64 po.pos) ⟨(t.pos : Int), false, pr, had, false, po⟩ rfl rfl
              have HCG : Hid _ := CG
              clear hgP hwP HCH g1 gz1 CG hs45 hpo
              go_wp2_with fail
              obtain ⟨WQ, hWQ⟩ : ∃ W', W' = ((WP.setCell ⟨k, 6, none⟩ (.int .i64 po.n)).setCell ⟨k, 6 + 1, none⟩ (.int .i64 po.pos)) := ⟨_, rfl⟩
              replace CS : Hid (Rst W0 w WQ g E (.slice oL T.length capL) k ⟨(t.pos : Int), false, pr, had, false, po⟩ (.slice o n m) s45) := by rw [hWQ]; exact HCG.out
              rw [show ((WP.setCell ⟨k, 6, none⟩ (.int .i64 po.n)).setCell ⟨k, 7, none⟩ (.int .i64 po.pos)) = WQ from hWQ.symm]
              clear HCG hWQ hst
              obtain ⟨s5, hs5⟩ : ∃ s5, s5 = s45 := ⟨_, rfl⟩
              rw [← hs5] at CS HAC
              have h5i : s5.i ≤ 5000 := by rw [hs5]; have := HS45.out; omega
              clear hs5
              have kg := CS.out.wk.2.2
              have l0 : ∀ u : Later WQ, u.world.cell? ⟨g, 0, none⟩ = some (.slice oL T.length capL) := later_cell6 kg rfl
              have l1 : ∀ u : Later WQ, u.world.cell? ⟨g, 1, none⟩ = some (.int .i64 (s5.i : Int)) := later_cell6 kg rfl
              by_cases hlt : s5.i < T.length
              · obtain ⟨bL, offL, cur, ty, fr, c, hoL, hb, hc, hck⟩ := (HL.out.below CS.out.wk.1).at s5.i hlt
                subst hoL
                have hnx : nx E T s5 = c := by unfold nx; rw [List.getD, hck]; rfl
                have l2 : ∀ u : Later WQ, u.world.cell? ⟨bL, offL + s5.i * 4, none⟩ = some (.int .i64 (c.kind : Int)) := later_cell6 hb (hc 0 (by decide))
                have hlt' : (s5.i : Int) < (T.length : Int) := by omega
                have hid : decide ((s5.i : Int) < (T.length : Int)) = true := by simp; omega
                clear hb hc hck kg
                have ne1 := Later.ne WQ
                by_cases hk7 : c.kind = 7
                · have e7 : ((c.kind : Int) != 7) = false := by simp; omega
                  have HE : Hid (endW E T s5 = s5) := if_neg fun q => q.2 (by rw [hnx]; exact hk7)
                  clear hnx hk7
                  refine wp_region_later (by kernel_rfl) (by kernel_rfl) ?_
                  repeat first | (go_big_quiet_step (rfl)) | (refine q_nil rfl _ rfl _ rfl ?_; simp only [Act.put, List.setIfInBounds_toArray, List.set_cons_succ, List.set_cons_zero])
                  refine wpQuiet_nil ?_
                  rintro w' ⟨u, rfl⟩
                  have CX := CS.out.below u.below
                  obtain ⟨WZ, hWZ⟩ : ∃ WZ, WZ = u.world := ⟨_, rfl⟩
                  rw [← hWZ] at CX ⊢
                  replace CS : Hid (Rst W0 w WZ g E (.slice (some ⟨bL, offL, none⟩) T.length capL) k ⟨(t.pos : Int), false, pr, had, false, po⟩ (.slice o n m) s5) := CX
                  clear hWZ l0 l1 l2 ne1 CX
                  go_wp2_with (first
                    | (refine wl_loadE (E := RawE) RawOk rfl _ rfl k 0 rfl _ _ _ (rawV ⟨(t.pos : Int), false, pr, had, false, po⟩ (.slice o n m)) rfl CS.out.cl (own_cells _ _) ?_)
                    | (refine wl_storeE (E := RawE) RawOk rfl _ _ rfl w.heap.size (rawV ⟨(t.pos : Int), false, pr, had, false, po⟩ (.slice o n m)) (raw_fits _ _ ⟨_, _, _, rfl⟩) rfl rfl _ CS.out.r0 rfl _ rfl ?_))
                  refine retE (E := RawE) RawOk rfl rfl w.heap.size rfl (rawV ⟨(t.pos : Int), false, pr, had, false, po⟩ (.slice o n m)) rfl (setRow_heap _ _ _ _ _ _ CS.out.r0) ?_
                  have HRR : Hid (R = (⟨(t.pos : Int), false, pr, had, false, po⟩, s5)) := by show _ = _; rw [HR.out]; unfold rowW; simp only [HFR.out, ← HS4.out, HAC.out]; rw [← HT.out]; rw [HE.out]
                  rw [HRR.out]
                  exact ⟨_, rfl, clas_setRow CS.out.own CS.out.r0 _, gb_setRow CS.out.gr (.inr (Nat.le_refl _)) _, wk_setRow CS.out.wk (by omega) (by omega) _⟩
                · have e7 : ((c.kind : Int) != 7) = true := by simp; omega
                  have HE : Hid (endW E T s5 = wrong E T 8 s5) := if_pos ⟨hlt, by rw [hnx]; exact hk7⟩
                  clear hnx hk7
                  refine wp_region_later (by kernel_rfl) (by kernel_rfl) ?_
                  repeat first | (go_big_quiet_step (rfl)) | (refine q_nil rfl _ rfl _ rfl ?_; simp only [Act.put, List.setIfInBounds_toArray, List.set_cons_succ, List.set_cons_zero])
                  refine wpQuiet_nil ?_
                  rintro w' ⟨u, rfl⟩
                  have CX := CS.out.below u.below
                  obtain ⟨WY, hWY⟩ : ∃ WY, WY = u.world := ⟨_, rfl⟩
                  rw [← hWY] at CX ⊢
                  replace CS : Hid (Rst W0 w WY g E (.slice (some ⟨bL, offL, none⟩) T.length capL) k ⟨(t.pos : Int), false, pr, had, false, po⟩ (.slice o n m) s5) := CX
                  clear hWY l0 l1 l2 ne1 CX
                  go_wp2_with fail
                  refine (CW.out _ s5 CS.out.wk).mono ?_
                  rintro e WZ ⟨rfl, hgZ, hwZ⟩
                  replace CS : Hid (Rst W0 w WZ g E (.slice (some ⟨bL, offL, none⟩) T.length capL) k ⟨(t.pos : Int), false, pr, had, false, po⟩ (.slice o n m) (wrong E T 8 s5)) := CS.out.by hgZ hwZ
                  clear hgZ hwZ
                  go_wp2_with (first
                    | (refine wl_loadE (E := RawE) RawOk rfl _ rfl k 0 rfl _ _ _ (rawV ⟨(t.pos : Int), false, pr, had, false, po⟩ (.slice o n m)) rfl CS.out.cl (own_cells _ _) ?_)
                    | (refine wl_storeE (E := RawE) RawOk rfl _ _ rfl w.heap.size (rawV ⟨(t.pos : Int), false, pr, had, false, po⟩ (.slice o n m)) (raw_fits _ _ ⟨_, _, _, rfl⟩) rfl rfl _ CS.out.r0 rfl _ rfl ?_))
                  refine retE (E := RawE) RawOk rfl rfl w.heap.size rfl (rawV ⟨(t.pos : Int), false, pr, had, false, po⟩ (.slice o n m)) rfl (setRow_heap _ _ _ _ _ _ CS.out.r0) ?_
                  have HRR : Hid (R = (⟨(t.pos : Int), false, pr, had, false, po⟩, (wrong E T 8 s5))) := by show _ = _; rw [HR.out]; unfold rowW; simp only [HFR.out, ← HS4.out, HAC.out]; rw [← HT.out]; rw [HE.out]
                  rw [HRR.out]
                  exact ⟨_, rfl, clas_setRow CS.out.own CS.out.r0 _, gb_setRow CS.out.gr (.inr (Nat.le_refl _)) _, wk_setRow CS.out.wk (by omega) (by omega) _⟩
              · have hlt' : ¬ (s5.i : Int) < (T.length : Int) := by omega
                have hid : decide ((s5.i : Int) < (T.length : Int)) = false := by simp; omega
                have HE : Hid (endW E T s5 = s5) := if_neg fun q => hlt q.1
                clear kg
                have ne1 := Later.ne WQ
                refine wp_region_later (by kernel_rfl) (by kernel_rfl) ?_
                repeat first | (go_big_quiet_step (rfl)) | (refine q_nil rfl _ rfl _ rfl ?_; simp only [Act.put, List.setIfInBounds_toArray, List.set_cons_succ, List.set_cons_zero])
                refine wpQuiet_nil ?_
                rintro w' ⟨u, rfl⟩
                have CX := CS.out.below u.below
                obtain ⟨WZ, hWZ⟩ : ∃ WZ, WZ = u.world := ⟨_, rfl⟩
                rw [← hWZ] at CX ⊢
                replace CS : Hid (Rst W0 w WZ g E (.slice oL T.length capL) k ⟨(t.pos : Int), false, pr, had, false, po⟩ (.slice o n m) s5) := CX
                clear hWZ l0 l1 ne1 CX
                go_wp2_with (first
                  | (refine wl_loadE (E := RawE) RawOk rfl _ rfl k 0 rfl _ _ _ (rawV ⟨(t.pos : Int), false, pr, had, false, po⟩ (.slice o n m)) rfl CS.out.cl (own_cells _ _) ?_)
                  | (refine wl_storeE (E := RawE) RawOk rfl _ _ rfl w.heap.size (rawV ⟨(t.pos : Int), false, pr, had, false, po⟩ (.slice o n m)) (raw_fits _ _ ⟨_, _, _, rfl⟩) rfl rfl _ CS.out.r0 rfl _ rfl ?_))
                refine retE (E := RawE) RawOk rfl rfl w.heap.size rfl (rawV ⟨(t.pos : Int), false, pr, had, false, po⟩ (.slice o n m)) rfl (setRow_heap _ _ _ _ _ _ CS.out.r0) ?_
                have HRR : Hid (R = (⟨(t.pos : Int), false, pr, had, false, po⟩, s5)) := by show _ = _; rw [HR.out]; unfold rowW; simp only [HFR.out, ← HS4.out, HAC.out]; rw [← HT.out]; rw [HE.out]
                rw [HRR.out]
                exact ⟨_, rfl, clas_setRow CS.out.own CS.out.r0 _, gb_setRow CS.out.gr (.inr (Nat.le_refl _)) _, wk_setRow CS.out.wk (by omega) (by omega) _⟩
            · have hpw' : wordW E T wPort s4 = false := by simpa using hpw
              rw [hpw']
              clear hpw'
              go_wp2_with fail
              refine (CW.out _ s4 CS.out.wk).mono ?_
              rintro e WO ⟨rfl, hgO, hwO⟩
              obtain ⟨sw, hsw⟩ : ∃ sw, sw = wrong E T 8 s4 := ⟨_, rfl⟩
              have hswi : sw.i ≤ 4990 := by rw [hsw, wrong_i]; exact h4i
              have HSW : Hid (sw = wrong E T 8 s4) := hsw
              rw [← hsw] at hwO
              replace CS : Hid (Rst W0 w WO g E (.slice oL T.length capL) k ⟨(t.pos : Int), false, pr, had, false, ⟨0, 0⟩⟩ (.slice o n m) sw) := CS.out.by hgO hwO
              clear hgO hwO hsw
              obtain ⟨_, g1, _, _, _, gz⟩ := wk_cells CS.out.wk
              have gz1 := gz 1
              have HCH : Hid (Rst W0 w (WO.setCell ⟨g, 1, none⟩ (.int .i64 ((sw.i : Int) + 1))) g E (.slice oL T.length capL) k ⟨(t.pos : Int), false, pr, had, false, ⟨0, 0⟩⟩ (.slice o n m) (stepW sw)) := CS.out.step
              clear gz
              go_wp2_with fail
              refine (CF.out _ (stepW sw) (by show sw.i + 1 ≤ _; omega) HCH.out.wk).mono ?_
              rintro e WP ⟨rfl, hgP, hwP⟩
              replace CS : Hid (Rst W0 w WP g E (.slice oL T.length capL) k ⟨(t.pos : Int), false, pr, had, false, ⟨0, 0⟩⟩ (.slice o n m) (figW E T (stepW sw)).2) := HCH.out.by hgP hwP
              obtain ⟨po, s45, hpo⟩ : ∃ po s45, figW E T (stepW sw) = (po, s45) := ⟨_, _, rfl⟩
              have hs45 : s45.i = sw.i + 2 := by have := fig_i E T (stepW sw); rw [hpo] at this; exact this
              rw [hpo] at CS ⊢
              have HAC : Hid (actW E T s4 = ((false, po), s45)) := by show _ = _; unfold actW; rw [if_neg hdr]; rw [if_neg hpw, ← HSW.out, hpo]
              have HS45 : Hid (s45.i = sw.i + 2) := hs45
              replace CS : Hid (Rst W0 w WP g E (.slice oL T.length capL) k ⟨(t.pos : Int), false, pr, had, false, ⟨0, 0⟩⟩ (.slice o n m) s45) := CS.out
              have hst := store_fig WP k 6 _ _ CS.out.cl (by simp [rawV]) po
              have CG : Rst W0 w ((WP.setCell ⟨k, 6, none⟩ (.int .i64 po.n)).setCell ⟨k, 6 + 1, none⟩ (.int .i64 po.pos)) g E (.slice oL T.length capL) k ⟨(t.pos : Int), false, pr, had, false, po⟩ (.slice o n m) s45 := (CS.out.set 6 (.int .i64 po.n) ⟨(t.pos : Int), false, pr, had, false, ⟨po.n, 0⟩⟩ rfl rfl).set (6 + 1) (.int .i64 po.pos) ⟨(t.pos : Int), false, pr, had, false, po⟩ rfl rfl
              have HCG : Hid _ := CG
              clear hgP hwP HCH g1 gz1 CG hs45 hpo
              go_wp2_with fail
              obtain ⟨WQ, hWQ⟩ : ∃ W', W' = ((WP.setCell ⟨k, 6, none⟩ (.int .i64 po.n)).setCell ⟨k, 6 + 1, none⟩ (.int .i64 po.pos)) := ⟨_, rfl⟩
              replace CS : Hid (Rst W0 w WQ g E (.slice oL T.length capL) k ⟨(t.pos : Int), false, pr, had, false, po⟩ (.slice o n m) s45) := by rw [hWQ]; exact HCG.out
              rw [show ((WP.setCell ⟨k, 6, none⟩ (.int .i64 po.n)).setCell ⟨k, 7, none⟩ (.int .i64 po.pos)) = WQ from hWQ.symm]
              clear HCG hWQ hst
              obtain ⟨s5, hs5⟩ : ∃ s5, s5 = s45 := ⟨_, rfl⟩
              rw [← hs5] at CS HAC
              have h5i : s5.i ≤ 5000 := by rw [hs5]; have := HS45.out; omega
              clear hs5
              have kg := CS.out.wk.2.2
              have l0 : ∀ u : Later WQ, u.world.cell? ⟨g, 0, none⟩ = some (.slice oL T.length capL) := later_cell6 kg rfl
              have l1 : ∀ u : Later WQ, u.world.cell? ⟨g, 1, none⟩ = some (.int .i64 (s5.i : Int)) := later_cell6 kg rfl
              by_cases hlt : s5.i < T.length
              · obtain ⟨bL, offL, cur, ty, fr, c, hoL, hb, hc, hck⟩ := (HL.out.below CS.out.wk.1).at s5.i hlt
                subst hoL
                have hnx : nx E T s5 = c := by unfold nx; rw [List.getD, hck]; rfl
                have l2 : ∀ u : Later WQ, u.world.cell? ⟨bL, offL + s5.i * 4, none⟩ = some (.int .i64 (c.kind : Int)) := later_cell6 hb (hc 0 (by decide))
                have hlt' : (s5.i : Int) < (T.length : Int) := by omega
                have hid : decide ((s5.i : Int) < (T.length : Int)) = true := by simp; omega
                clear hb hc hck kg
                have ne1 := Later.ne WQ
                by_cases hk7 : c.kind = 7
                · have e7 : ((c.kind : Int) != 7) = false := by simp; omega
                  have HE : Hid (endW E T s5 = s5) := if_neg fun q => q.2 (by rw [hnx]; exact hk7)
                  clear hnx hk7
                  refine wp_region_later (by kernel_rfl) (by kernel_rfl) ?_
                  repeat first | (go_big_quiet_step (rfl)) | (refine q_nil rfl _ rfl _ rfl ?_; simp only [Act.put, List.setIfInBounds_toArray, List.set_cons_succ, List.set_cons_zero])
                  refine wpQuiet_nil ?_
                  rintro w' ⟨u, rfl⟩
                  have CX := CS.out.below u.below
                  obtain ⟨WZ, hWZ⟩ : ∃ WZ, WZ = u.world := ⟨_, rfl⟩
                  rw [← hWZ] at CX ⊢
                  replace CS : Hid (Rst W0 w WZ g E (.slice (some ⟨bL, offL, none⟩) T.length capL) k ⟨(t.pos : Int), false, pr, had, false, po⟩ (.slice o n m) s5) := CX
                  clear hWZ l0 l1 l2 ne1 CX
                  go_wp2_with (first
                    | (refine wl_loadE (E := RawE) RawOk rfl _ rfl k 0 rfl _ _ _ (rawV ⟨(t.pos : Int), false, pr, had, false, po⟩ (.slice o n m)) rfl CS.out.cl (own_cells _ _) ?_)
                    | (refine wl_storeE (E := RawE) RawOk rfl _ _ rfl w.heap.size (rawV ⟨(t.pos : Int), false, pr, had, false, po⟩ (.slice o n m)) (raw_fits _ _ ⟨_, _, _, rfl⟩) rfl rfl _ CS.out.r0 rfl _ rfl ?_))
                  refine retE (E := RawE) RawOk rfl rfl w.heap.size rfl (rawV ⟨(t.pos : Int), false, pr, had, false, po⟩ (.slice o n m)) rfl (setRow_heap _ _ _ _ _ _ CS.out.r0) ?_
                  have HRR : Hid (R = (⟨(t.pos : Int), false, pr, had, false, po⟩, s5)) := by show _ = _; rw [HR.out]; unfold rowW; simp only [HFR.out, ← HS4.out, HAC.out]; rw [← HT.out]; rw [HE.out]
                  rw [HRR.out]
                  exact ⟨_, rfl, clas_setRow CS.out.own CS.out.r0 _, gb_setRow CS.out.gr (.inr (Nat.le_refl _)) _, wk_setRow CS.out.wk (by omega) (by omega) _⟩
                · have e7 : ((c.kind : Int) != 7) = true := by simp; omega
                  have HE : Hid (endW E T s5 = wrong E T 8 s5) := if_pos ⟨hlt, by rw [hnx]; exact hk7⟩
                  clear hnx hk7
                  refine wp_region_later (by kernel_rfl) (by kernel_rfl) ?_
                  repeat first | (go_big_quiet_step (rfl)) | (refine q_nil rfl _ rfl _ rfl ?_; simp only [Act.put, List.setIfInBounds_toArray, List.set_cons_succ, List.set_cons_zero])
                  refine wpQuiet_nil ?_
                  rintro w' ⟨u, rfl⟩
                  have CX := CS.out.below u.below
                  obtain ⟨WY, hWY⟩ : ∃ WY, WY = u.world := ⟨_, rfl⟩
                  rw [← hWY] at CX ⊢
                  replace CS : Hid (Rst W0 w WY g E (.slice (some ⟨bL, offL, none⟩) T.length capL) k ⟨(t.pos : Int), false, pr, had, false, po⟩ (.slice o n m) s5) := CX
                  clear hWY l0 l1 l2 ne1 CX
                  go_wp2_with fail
                  refine (CW.out _ s5 CS.out.wk).mono ?_
                  rintro e WZ ⟨rfl, hgZ, hwZ⟩
                  replace CS : Hid (Rst W0 w WZ g E (.slice (some ⟨bL, offL, none⟩) T.length capL) k ⟨(t.pos : Int), false, pr, had, false, po⟩ (.slice o n m) (wrong E T 8 s5)) := CS.out.by hgZ hwZ
                  clear hgZ hwZ
                  go_wp2_with (first
                    | (refine wl_loadE (E := RawE) RawOk rfl _ rfl k 0 rfl _ _ _ (rawV ⟨(t.pos : Int), false, pr, had, false, po⟩ (.slice o n m)) rfl CS.out.cl (own_cells _ _) ?_)
                    | (refine wl_storeE (E := RawE) RawOk rfl _ _ rfl w.heap.size (rawV ⟨(t.pos : Int), false, pr, had, false, po⟩ (.slice o n m)) (raw_fits _ _ ⟨_, _, _, rfl⟩) rfl rfl _ CS.out.r0 rfl _ rfl ?_))
                  refine retE (E := RawE) RawOk rfl rfl w.heap.size rfl (rawV ⟨(t.pos : Int), false, pr, had, false, po⟩ (.slice o n m)) rfl (setRow_heap _ _ _ _ _ _ CS.out.r0) ?_
                  have HRR : Hid (R = (⟨(t.pos : Int), false, pr, had, false, po⟩, (wrong E T 8 s5))) := by show _ = _; rw [HR.out]; unfold rowW; simp only [HFR.out, ← HS4.out, HAC.out]; rw [← HT.out]; rw [HE.out]
                  rw [HRR.out]
                  exact ⟨_, rfl, clas_setRow CS.out.own CS.out.r0 _, gb_setRow CS.out.gr (.inr (Nat.le_refl _)) _, wk_setRow CS.out.wk (by omega) (by omega) _⟩
              · have hlt' : ¬ (s5.i : Int) < (T.length : Int) := by omega
                have hid : decide ((s5.i : Int) < (T.length : Int)) = false := by simp; omega
                have HE : Hid (endW E T s5 = s5) := if_neg fun q => hlt q.1
                clear kg
                have ne1 := Later.ne WQ
                refine wp_region_later (by kernel_rfl) (by kernel_rfl) ?_
                repeat first | (go_big_quiet_step (rfl)) | (refine q_nil rfl _ rfl _ rfl ?_; simp only [Act.put, List.setIfInBounds_toArray, List.set_cons_succ, List.set_cons_zero])
                refine wpQuiet_nil ?_
                rintro w' ⟨u, rfl⟩
                have CX := CS.out.below u.below
                obtain ⟨WZ, hWZ⟩ : ∃ WZ, WZ = u.world := ⟨_, rfl⟩
                rw [← hWZ] at CX ⊢
                replace CS : Hid (Rst W0 w WZ g E (.slice oL T.length capL) k ⟨(t.pos : Int), false, pr, had, false, po⟩ (.slice o n m) s5) := CX
                clear hWZ l0 l1 ne1 CX
                go_wp2_with (first
                  | (refine wl_loadE (E := RawE) RawOk rfl _ rfl k 0 rfl _ _ _ (rawV ⟨(t.pos : Int), false, pr, had, false, po⟩ (.slice o n m)) rfl CS.out.cl (own_cells _ _) ?_)
                  | (refine wl_storeE (E := RawE) RawOk rfl _ _ rfl w.heap.size (rawV ⟨(t.pos : Int), false, pr, had, false, po⟩ (.slice o n m)) (raw_fits _ _ ⟨_, _, _, rfl⟩) rfl rfl _ CS.out.r0 rfl _ rfl ?_))
                refine retE (E := RawE) RawOk rfl rfl w.heap.size rfl (rawV ⟨(t.pos : Int), false, pr, had, false, po⟩ (.slice o n m)) rfl (setRow_heap _ _ _ _ _ _ CS.out.r0) ?_
                have HRR : Hid (R = (⟨(t.pos : Int), false, pr, had, false, po⟩, s5)) := by show _ = _; rw [HR.out]; unfold rowW; simp only [HFR.out, ← HS4.out, HAC.out]; rw [← HT.out]; rw [HE.out]
                rw [HRR.out]
                exact ⟨_, rfl, clas_setRow CS.out.own CS.out.r0 _, gb_setRow CS.out.gr (.inr (Nat.le_refl _)) _, wk_setRow CS.out.wk (by omega) (by omega) _⟩
      · have hb0 : ((st.bad : Int) == 0) = false := by simp; omega
        have HFR : Hid (frontW E T s = ((false, pr, had), st)) := by
          show _ = _
          rw [HFR0.out, HCW.out]
          cases fl with
          | zero => rfl
          | succ fl => rw [clausesW, if_neg fun q => hbd q.1]
        have hst : st.i ≤ 4950 := by omega
        clear HCW HFR0 hbd
        go_wp2_with fail
        clear c3
        refine (CK.out _ st (by omega) CS.out.wk).mono ?_
        rintro e WK ⟨rfl, hgK, hwK⟩
        obtain ⟨s4, hs4⟩ : ∃ s4, s4 = (kindW E T 6 st).2 := ⟨_, rfl⟩
        have h4i : s4.i ≤ 4990 := by rw [hs4, kind_i]; omega
        have HS4 : Hid (s4 = (kindW E T 6 st).2) := hs4
        rw [← hs4] at hwK
        replace CS : Hid (Rst W0 w WK g E (.slice oL T.length capL) k ⟨(t.pos : Int), false, pr, had, false, ⟨0, 0⟩⟩ (.slice o n m) s4) := CS.out.by hgK hwK
        clear hgK hwK hs4
        go_wp2_with fail
        refine (CWd.out _ wDrop s4 CS.out.wk).mono ?_
        rintro e WL ⟨rfl, hbL⟩
        replace CS : Hid (Rst W0 w WL g E (.slice oL T.length capL) k ⟨(t.pos : Int), false, pr, had, false, ⟨0, 0⟩⟩ (.slice o n m) s4) := CS.out.below hbL
        clear hbL
        by_cases hdr : wordW E T wDrop s4 = true
        · rw [hdr]
          have HAC : Hid (actW E T s4 = ((true, ⟨0, 0⟩), stepW s4)) := by show _ = _; unfold actW; rw [if_pos hdr]
          have CG := CS.out.set 5 (.bool true) ⟨(t.pos : Int), false, pr, had, true, ⟨0, 0⟩⟩ rfl rfl
          obtain ⟨_, g1, _, _, _, gz⟩ := wk_cells CG.wk
          have gz1 := gz 1
          have c5 : WL.cell? ⟨k, 5, none⟩ = some (.bool false) := by rw [cell_of_row _ _ _ _ _ _ CS.out.cl]; rfl
          have f5 : WL.frozen? ⟨k, 5, none⟩ = false := tc_frozen CS.out.cl rfl
          have HCH : Hid (Rst W0 w ((WL.setCell ⟨k, 5, none⟩ (.bool true)).setCell ⟨g, 1, none⟩ (.int .i64 ((s4.i : Int) + 1))) g E (.slice oL T.length capL) k ⟨(t.pos : Int), false, pr, had, true, ⟨0, 0⟩⟩ (.slice o n m) (stepW s4)) := CG.step
          clear CG gz hdr
          go_wp2_with fail
          obtain ⟨WM, hWM⟩ : ∃ W', W' = ((WL.setCell ⟨k, 5, none⟩ (.bool true)).setCell ⟨g, 1, none⟩ (.int .i64 ((s4.i : Int) + 1))) := ⟨_, rfl⟩
          rw [← hWM] at HCH ⊢
          replace CS : Hid (Rst W0 w WM g E (.slice oL T.length capL) k ⟨(t.pos : Int), false, pr, had, true, ⟨0, 0⟩⟩ (.slice o n m) (stepW s4)) := HCH.out
          clear HCH hWM g1 gz1 c5 f5
          obtain ⟨s5, hs5⟩ : ∃ s5, s5 = (stepW s4) := ⟨_, rfl⟩
          rw [← hs5] at CS HAC
          have h5i : s5.i ≤ 5000 := by rw [hs5]; show s4.i + 1 ≤ _; omega
          clear hs5
          have kg := CS.out.wk.2.2
          have l0 : ∀ u : Later WM, u.world.cell? ⟨g, 0, none⟩ = some (.slice oL T.length capL) := later_cell6 kg rfl
          have l1 : ∀ u : Later WM, u.world.cell? ⟨g, 1, none⟩ = some (.int .i64 (s5.i : Int)) := later_cell6 kg rfl
          by_cases hlt : s5.i < T.length
          · obtain ⟨bL, offL, cur, ty, fr, c, hoL, hb, hc, hck⟩ := (HL.out.below CS.out.wk.1).at s5.i hlt
            subst hoL
            have hnx : nx E T s5 = c := by unfold nx; rw [List.getD, hck]; rfl
            have l2 : ∀ u : Later WM, u.world.cell? ⟨bL, offL + s5.i * 4, none⟩ = some (.int .i64 (c.kind : Int)) := later_cell6 hb (hc 0 (by decide))
            have hlt' : (s5.i : Int) < (T.length : Int) := by omega
            have hid : decide ((s5.i : Int) < (T.length : Int)) = true := by simp; omega
            clear hb hc hck kg
            have ne1 := Later.ne WM
            by_cases hk7 : c.kind = 7
            · have e7 : ((c.kind : Int) != 7) = false := by simp; omega
              have HE : Hid (endW E T s5 = s5) := if_neg fun q => q.2 (by rw [hnx]; exact hk7)
              clear hnx hk7
              refine wp_region_later (by kernel_rfl) (by kernel_rfl) ?_
              repeat first | (go_big_quiet_step (rfl)) | (refine q_nil rfl _ rfl _ rfl ?_; simp only [Act.put, List.setIfInBounds_toArray, List.set_cons_succ, List.set_cons_zero])
              refine wpQuiet_nil ?_
              rintro w' ⟨u, rfl⟩
              have CX := CS.out.below u.below
              obtain ⟨WZ, hWZ⟩ : ∃ WZ, WZ = u.world := ⟨_, rfl⟩
              rw [← hWZ] at CX ⊢
              replace CS : Hid (Rst W0 w WZ g E (.slice (some ⟨bL, offL, none⟩) T.length capL) k ⟨(t.pos : Int), false, pr, had, true, ⟨0, 0⟩⟩ (.slice o n m) s5) := CX
              clear hWZ l0 l1 l2 ne1 CX
              go_wp2_with (first
                | (refine wl_loadE (E := RawE) RawOk rfl _ rfl k 0 rfl _ _ _ (rawV ⟨(t.pos : Int), false, pr, had, true, ⟨0, 0⟩⟩ (.slice o n m)) rfl CS.out.cl (own_cells _ _) ?_)
                | (refine wl_storeE (E := RawE) RawOk rfl _ _ rfl w.heap.size (rawV ⟨(t.pos : Int), false, pr, had, true, ⟨0, 0⟩⟩ (.slice o n m)) (raw_fits _ _ ⟨_, _, _, rfl⟩) rfl rfl _ CS.out.r0 rfl _ rfl ?_))
              refine retE (E := RawE) RawOk rfl rfl w.heap.size rfl (rawV ⟨(t.pos : Int), false, pr, had, true, ⟨0, 0⟩⟩ (.slice o n m)) rfl (setRow_heap _ _ _ _ _ _ CS.out.r0) ?_
              have HRR : Hid (R = (⟨(t.pos : Int), false, pr, had, true, ⟨0, 0⟩⟩, s5)) := by show _ = _; rw [HR.out]; unfold rowW; simp only [HFR.out, ← HS4.out, HAC.out]; rw [← HT.out]; rw [HE.out]
              rw [HRR.out]
              exact ⟨_, rfl, clas_setRow CS.out.own CS.out.r0 _, gb_setRow CS.out.gr (.inr (Nat.le_refl _)) _, wk_setRow CS.out.wk (by omega) (by omega) _⟩
            · have e7 : ((c.kind : Int) != 7) = true := by simp; omega
              have HE : Hid (endW E T s5 = wrong E T 8 s5) := if_pos ⟨hlt, by rw [hnx]; exact hk7⟩
              clear hnx hk7
              refine wp_region_later (by kernel_rfl) (by kernel_rfl) ?_
              repeat first | (go_big_quiet_step (rfl)) | (refine q_nil rfl _ rfl _ rfl ?_; simp only [Act.put, List.setIfInBounds_toArray, List.set_cons_succ, List.set_cons_zero])
              refine wpQuiet_nil ?_
              rintro w' ⟨u, rfl⟩
              have CX := CS.out.below u.below
              obtain ⟨WY, hWY⟩ : ∃ WY, WY = u.world := ⟨_, rfl⟩
              rw [← hWY] at CX ⊢
              replace CS : Hid (Rst W0 w WY g E (.slice (some ⟨bL, offL, none⟩) T.length capL) k ⟨(t.pos : Int), false, pr, had, true, ⟨0, 0⟩⟩ (.slice o n m) s5) := CX
              clear hWY l0 l1 l2 ne1 CX
              go_wp2_with fail
              refine (CW.out _ s5 CS.out.wk).mono ?_
              rintro e WZ ⟨rfl, hgZ, hwZ⟩
              replace CS : Hid (Rst W0 w WZ g E (.slice (some ⟨bL, offL, none⟩) T.length capL) k ⟨(t.pos : Int), false, pr, had, true, ⟨0, 0⟩⟩ (.slice o n m) (wrong E T 8 s5)) := CS.out.by hgZ hwZ
              clear hgZ hwZ
              go_wp2_with (first
                | (refine wl_loadE (E := RawE) RawOk rfl _ rfl k 0 rfl _ _ _ (rawV ⟨(t.pos : Int), false, pr, had, true, ⟨0, 0⟩⟩ (.slice o n m)) rfl CS.out.cl (own_cells _ _) ?_)
                | (refine wl_storeE (E := RawE) RawOk rfl _ _ rfl w.heap.size (rawV ⟨(t.pos : Int), false, pr, had, true, ⟨0, 0⟩⟩ (.slice o n m)) (raw_fits _ _ ⟨_, _, _, rfl⟩) rfl rfl _ CS.out.r0 rfl _ rfl ?_))
              refine retE (E := RawE) RawOk rfl rfl w.heap.size rfl (rawV ⟨(t.pos : Int), false, pr, had, true, ⟨0, 0⟩⟩ (.slice o n m)) rfl (setRow_heap _ _ _ _ _ _ CS.out.r0) ?_
              have HRR : Hid (R = (⟨(t.pos : Int), false, pr, had, true, ⟨0, 0⟩⟩, (wrong E T 8 s5))) := by show _ = _; rw [HR.out]; unfold rowW; simp only [HFR.out, ← HS4.out, HAC.out]; rw [← HT.out]; rw [HE.out]
              rw [HRR.out]
              exact ⟨_, rfl, clas_setRow CS.out.own CS.out.r0 _, gb_setRow CS.out.gr (.inr (Nat.le_refl _)) _, wk_setRow CS.out.wk (by omega) (by omega) _⟩
          · have hlt' : ¬ (s5.i : Int) < (T.length : Int) := by omega
            have hid : decide ((s5.i : Int) < (T.length : Int)) = false := by simp; omega
            have HE : Hid (endW E T s5 = s5) := if_neg fun q => hlt q.1
            clear kg
            have ne1 := Later.ne WM
            refine wp_region_later (by kernel_rfl) (by kernel_rfl) ?_
            repeat first | (go_big_quiet_step (rfl)) | (refine q_nil rfl _ rfl _ rfl ?_; simp only [Act.put, List.setIfInBounds_toArray, List.set_cons_succ, List.set_cons_zero])
            refine wpQuiet_nil ?_
            rintro w' ⟨u, rfl⟩
            have CX := CS.out.below u.below
            obtain ⟨WZ, hWZ⟩ : ∃ WZ, WZ = u.world := ⟨_, rfl⟩
            rw [← hWZ] at CX ⊢
            replace CS : Hid (Rst W0 w WZ g E (.slice oL T.length capL) k ⟨(t.pos : Int), false, pr, had, true, ⟨0, 0⟩⟩ (.slice o n m) s5) := CX
            clear hWZ l0 l1 ne1 CX
            go_wp2_with (first
              | (refine wl_loadE (E := RawE) RawOk rfl _ rfl k 0 rfl _ _ _ (rawV ⟨(t.pos : Int), false, pr, had, true, ⟨0, 0⟩⟩ (.slice o n m)) rfl CS.out.cl (own_cells _ _) ?_)
              | (refine wl_storeE (E := RawE) RawOk rfl _ _ rfl w.heap.size (rawV ⟨(t.pos : Int), false, pr, had, true, ⟨0, 0⟩⟩ (.slice o n m)) (raw_fits _ _ ⟨_, _, _, rfl⟩) rfl rfl _ CS.out.r0 rfl _ rfl ?_))
            refine retE (E := RawE) RawOk rfl rfl w.heap.size rfl (rawV ⟨(t.pos : Int), false, pr, had, true, ⟨0, 0⟩⟩ (.slice o n m)) rfl (setRow_heap _ _ _ _ _ _ CS.out.r0) ?_
            have HRR : Hid (R = (⟨(t.pos : Int), false, pr, had, true, ⟨0, 0⟩⟩, s5)) := by show _ = _; rw [HR.out]; unfold rowW; simp only [HFR.out, ← HS4.out, HAC.out]; rw [← HT.out]; rw [HE.out]
            rw [HRR.out]
            exact ⟨_, rfl, clas_setRow CS.out.own CS.out.r0 _, gb_setRow CS.out.gr (.inr (Nat.le_refl _)) _, wk_setRow CS.out.wk (by omega) (by omega) _⟩
        · have hdr' : wordW E T wDrop s4 = false := by simpa using hdr
          rw [hdr']
          clear hdr'
          go_wp2_with fail
          refine (CWd.out _ wPort s4 CS.out.wk).mono ?_
          rintro e WN ⟨rfl, hbN⟩
          replace CS : Hid (Rst W0 w WN g E (.slice oL T.length capL) k ⟨(t.pos : Int), false, pr, had, false, ⟨0, 0⟩⟩ (.slice o n m) s4) := CS.out.below hbN
          clear hbN
          by_cases hpw : wordW E T wPort s4 = true
          · rw [hpw]
            obtain ⟨_, g1, _, _, _, gz⟩ := wk_cells CS.out.wk
            have gz1 := gz 1
            have HCH : Hid (Rst W0 w (WN.setCell ⟨g, 1, none⟩ (.int .i64 ((s4.i : Int) + 1))) g E (.slice oL T.length capL) k ⟨(t.pos : Int), false, pr, had, false, ⟨0, 0⟩⟩ (.slice o n m) (stepW s4)) := CS.out.step
            clear gz
            go_wp2_with fail
            refine (CF.out _ (stepW s4) (by show s4.i + 1 ≤ _; omega) HCH.out.wk).mono ?_
            rintro e WP ⟨rfl, hgP, hwP⟩
            replace CS : Hid (Rst W0 w WP g E (.slice oL T.length capL) k ⟨(t.pos : Int), false, pr, had, false, ⟨0, 0⟩⟩ (.slice o n m) (figW E T (stepW s4)).2) := HCH.out.by hgP hwP
            obtain ⟨po, s45, hpo⟩ : ∃ po s45, figW E T (stepW s4) = (po, s45) := ⟨_, _, rfl⟩
            have hs45 : s45.i = s4.i + 2 := by have := fig_i E T (stepW s4); rw [hpo] at this; exact this
            rw [hpo] at CS ⊢
            have HAC : Hid (actW E T s4 = ((false, po), s45)) := by show _ = _; unfold actW; rw [if_neg hdr]; rw [if_pos hpw, hpo]
            have HS45 : Hid (s45.i = s4.i + 2) := hs45
            replace CS : Hid (Rst W0 w WP g E (.slice oL T.length capL) k ⟨(t.pos : Int), false, pr, had, false, ⟨0, 0⟩⟩ (.slice o n m) s45) := CS.out
            have hst := store_fig WP k 6 _ _ CS.out.cl (by simp [rawV]) po
            have CG : Rst W0 w ((WP.setCell ⟨k, 6, none⟩ (.int .i64 po.n)).setCell ⟨k, 6 + 1, none⟩ (.int .i64 po.pos)) g E (.slice oL T.length capL) k ⟨(t.pos : Int), false, pr, had, false, po⟩ (.slice o n m) s45 := (CS.out.set 6 (.int .i64 po.n) ⟨(t.pos : Int), false, pr, had, false, ⟨po.n, 0⟩⟩ rfl rfl).set (6 + 1) (.int .i64 po.pos) ⟨(t.pos : Int), false, pr, had, false, po⟩ rfl rfl
            have HCG : Hid _ := CG
            clear hgP hwP HCH g1 gz1 CG hs45 hpo
            go_wp2_with fail
            obtain ⟨WQ, hWQ⟩ : ∃ W', W' = ((WP.setCell ⟨k, 6, none⟩ (.int .i64 po.n)).setCell ⟨k, 6 + 1, none⟩ (.int .i64 po.pos)) := ⟨_, rfl⟩
            replace CS : Hid (Rst W0 w WQ g E (.slice oL T.length capL) k ⟨(t.pos : Int), false, pr, had, false, po⟩ (.slice o n m) s45) := by rw [hWQ]; exact HCG.out
            rw [show ((WP.setCell ⟨k, 6, none⟩ (.int .i64 po.n)).setCell ⟨k, 7, none⟩ (.int .i64 po.pos)) = WQ from hWQ.symm]
            clear HCG hWQ hst
            obtain ⟨s5, hs5⟩ : ∃ s5, s5 = s45 := ⟨_, rfl⟩
            rw [← hs5] at CS HAC
            have h5i : s5.i ≤ 5000 := by rw [hs5]; have := HS45.out; omega
            clear hs5
            have kg := CS.out.wk.2.2
            have l0 : ∀ u : Later WQ, u.world.cell? ⟨g, 0, none⟩ = some (.slice oL T.length capL) := later_cell6 kg rfl
            have l1 : ∀ u : Later WQ, u.world.cell? ⟨g, 1, none⟩ = some (.int .i64 (s5.i : Int)) := later_cell6 kg rfl
            by_cases hlt : s5.i < T.length
            · obtain ⟨bL, offL, cur, ty, fr, c, hoL, hb, hc, hck⟩ := (HL.out.below CS.out.wk.1).at s5.i hlt
              subst hoL
              have hnx : nx E T s5 = c := by unfold nx; rw [List.getD, hck]; rfl
              have l2 : ∀ u : Later WQ, u.world.cell? ⟨bL, offL + s5.i * 4, none⟩ = some (.int .i64 (c.kind : Int)) := later_cell6 hb (hc 0 (by decide))
              have hlt' : (s5.i : Int) < (T.length : Int) := by omega
              have hid : decide ((s5.i : Int) < (T.length : Int)) = true := by simp; omega
              clear hb hc hck kg
              have ne1 := Later.ne WQ
              by_cases hk7 : c.kind = 7
              · have e7 : ((c.kind : Int) != 7) = false := by simp; omega
                have HE : Hid (endW E T s5 = s5) := if_neg fun q => q.2 (by rw [hnx]; exact hk7)
                clear hnx hk7
                refine wp_region_later (by kernel_rfl) (by kernel_rfl) ?_
                repeat first | (go_big_quiet_step (rfl)) | (refine q_nil rfl _ rfl _ rfl ?_; simp only [Act.put, List.setIfInBounds_toArray, List.set_cons_succ, List.set_cons_zero])
                refine wpQuiet_nil ?_
                rintro w' ⟨u, rfl⟩
                have CX := CS.out.below u.below
                obtain ⟨WZ, hWZ⟩ : ∃ WZ, WZ = u.world := ⟨_, rfl⟩
                rw [← hWZ] at CX ⊢
                replace CS : Hid (Rst W0 w WZ g E (.slice (some ⟨bL, offL, none⟩) T.length capL) k ⟨(t.pos : Int), false, pr, had, false, po⟩ (.slice o n m) s5) := CX
                clear hWZ l0 l1 l2 ne1 CX
                go_wp2_with (first
                  | (refine wl_loadE (E := RawE) RawOk rfl _ rfl k 0 rfl _ _ _ (rawV ⟨(t.pos : Int), false, pr, had, false, po⟩ (.slice o n m)) rfl CS.out.cl (own_cells _ _) ?_)
                  | (refine wl_storeE (E := RawE) RawOk rfl _ _ rfl w.heap.size (rawV ⟨(t.pos : Int), false, pr, had, false, po⟩ (.slice o n m)) (raw_fits _ _ ⟨_, _, _, rfl⟩) rfl rfl _ CS.out.r0 rfl _ rfl ?_))
                refine retE (E := RawE) RawOk rfl rfl w.heap.size rfl (rawV ⟨(t.pos : Int), false, pr, had, false, po⟩ (.slice o n m)) rfl (setRow_heap _ _ _ _ _ _ CS.out.r0) ?_
                have HRR : Hid (R = (⟨(t.pos : Int), false, pr, had, false, po⟩, s5)) := by show _ = _; rw [HR.out]; unfold rowW; simp only [HFR.out, ← HS4.out, HAC.out]; rw [← HT.out]; rw [HE.out]
                rw [HRR.out]
                exact ⟨_, rfl, clas_setRow CS.out.own CS.out.r0 _, gb_setRow CS.out.gr (.inr (Nat.le_refl _)) _, wk_setRow CS.out.wk (by omega) (by omega) _⟩
              · have e7 : ((c.kind : Int) != 7) = true := by simp; omega
                have HE : Hid (endW E T s5 = wrong E T 8 s5) := if_pos ⟨hlt, by rw [hnx]; exact hk7⟩
                clear hnx hk7
                refine wp_region_later (by kernel_rfl) (by kernel_rfl) ?_
                repeat first | (go_big_quiet_step (rfl)) | (refine q_nil rfl _ rfl _ rfl ?_; simp only [Act.put, List.setIfInBounds_toArray, List.set_cons_succ, List.set_cons_zero])
                refine wpQuiet_nil ?_
                rintro w' ⟨u, rfl⟩
                have CX := CS.out.below u.below
                obtain ⟨WY, hWY⟩ : ∃ WY, WY = u.world := ⟨_, rfl⟩
                rw [← hWY] at CX ⊢
                replace CS : Hid (Rst W0 w WY g E (.slice (some ⟨bL, offL, none⟩) T.length capL) k ⟨(t.pos : Int), false, pr, had, false, po⟩ (.slice o n m) s5) := CX
                clear hWY l0 l1 l2 ne1 CX
                go_wp2_with fail
                refine (CW.out _ s5 CS.out.wk).mono ?_
                rintro e WZ ⟨rfl, hgZ, hwZ⟩
                replace CS : Hid (Rst W0 w WZ g E (.slice (some ⟨bL, offL, none⟩) T.length capL) k ⟨(t.pos : Int), false, pr, had, false, po⟩ (.slice o n m) (wrong E T 8 s5)) := CS.out.by hgZ hwZ
                clear hgZ hwZ
                go_wp2_with (first
                  | (refine wl_loadE (E := RawE) RawOk rfl _ rfl k 0 rfl _ _ _ (rawV ⟨(t.pos : Int), false, pr, had, false, po⟩ (.slice o n m)) rfl CS.out.cl (own_cells _ _) ?_)
                  | (refine wl_storeE (E := RawE) RawOk rfl _ _ rfl w.heap.size (rawV ⟨(t.pos : Int), false, pr, had, false, po⟩ (.slice o n m)) (raw_fits _ _ ⟨_, _, _, rfl⟩) rfl rfl _ CS.out.r0 rfl _ rfl ?_))
                refine retE (E := RawE) RawOk rfl rfl w.heap.size rfl (rawV ⟨(t.pos : Int), false, pr, had, false, po⟩ (.slice o n m)) rfl (setRow_heap _ _ _ _ _ _ CS.out.r0) ?_
                have HRR : Hid (R = (⟨(t.pos : Int), false, pr, had, false, po⟩, (wrong E T 8 s5))) := by show _ = _; rw [HR.out]; unfold rowW; simp only [HFR.out, ← HS4.out, HAC.out]; rw [← HT.out]; rw [HE.out]
                rw [HRR.out]
                exact ⟨_, rfl, clas_setRow CS.out.own CS.out.r0 _, gb_setRow CS.out.gr (.inr (Nat.le_refl _)) _, wk_setRow CS.out.wk (by omega) (by omega) _⟩
            · have hlt' : ¬ (s5.i : Int) < (T.length : Int) := by omega
              have hid : decide ((s5.i : Int) < (T.length : Int)) = false := by simp; omega
              have HE : Hid (endW E T s5 = s5) := if_neg fun q => hlt q.1
              clear kg
              have ne1 := Later.ne WQ
              refine wp_region_later (by kernel_rfl) (by kernel_rfl) ?_
              repeat first | (go_big_quiet_step (rfl)) | (refine q_nil rfl _ rfl _ rfl ?_; simp only [Act.put, List.setIfInBounds_toArray, List.set_cons_succ, List.set_cons_zero])
              refine wpQuiet_nil ?_
              rintro w' ⟨u, rfl⟩
              have CX := CS.out.below u.below
              obtain ⟨WZ, hWZ⟩ : ∃ WZ, WZ = u.world := ⟨_, rfl⟩
              rw [← hWZ] at CX ⊢
              replace CS : Hid (Rst W0 w WZ g E (.slice oL T.length capL) k ⟨(t.pos : Int), false, pr, had, false, po⟩ (.slice o n m) s5) := CX
              clear hWZ l0 l1 ne1 CX
              go_wp2_with (first
                | (refine wl_loadE (E := RawE) RawOk rfl _ rfl k 0 rfl _ _ _ (rawV ⟨(t.pos : Int), false, pr, had, false, po⟩ (.slice o n m)) rfl CS.out.cl (own_cells _ _) ?_)
                | (refine wl_storeE (E := RawE) RawOk rfl _ _ rfl w.heap.size (rawV ⟨(t.pos : Int), false, pr, had, false, po⟩ (.slice o n m)) (raw_fits _ _ ⟨_, _, _, rfl⟩) rfl rfl _ CS.out.r0 rfl _ rfl ?_))
              refine retE (E := RawE) RawOk rfl rfl w.heap.size rfl (rawV ⟨(t.pos : Int), false, pr, had, false, po⟩ (.slice o n m)) rfl (setRow_heap _ _ _ _ _ _ CS.out.r0) ?_
              have HRR : Hid (R = (⟨(t.pos : Int), false, pr, had, false, po⟩, s5)) := by show _ = _; rw [HR.out]; unfold rowW; simp only [HFR.out, ← HS4.out, HAC.out]; rw [← HT.out]; rw [HE.out]
              rw [HRR.out]
              exact ⟨_, rfl, clas_setRow CS.out.own CS.out.r0 _, gb_setRow CS.out.gr (.inr (Nat.le_refl _)) _, wk_setRow CS.out.wk (by omega) (by omega) _⟩
          · have hpw' : wordW E T wPort s4 = false := by simpa using hpw
            rw [hpw']
            clear hpw'
            go_wp2_with fail
            refine (CW.out _ s4 CS.out.wk).mono ?_
            rintro e WO ⟨rfl, hgO, hwO⟩
            obtain ⟨sw, hsw⟩ : ∃ sw, sw = wrong E T 8 s4 := ⟨_, rfl⟩
            have hswi : sw.i ≤ 4990 := by rw [hsw, wrong_i]; exact h4i
            have HSW : Hid (sw = wrong E T 8 s4) := hsw
            rw [← hsw] at hwO
            replace CS : Hid (Rst W0 w WO g E (.slice oL T.length capL) k ⟨(t.pos : Int), false, pr, had, false, ⟨0, 0⟩⟩ (.slice o n m) sw) := CS.out.by hgO hwO
            clear hgO hwO hsw
            obtain ⟨_, g1, _, _, _, gz⟩ := wk_cells CS.out.wk
            have gz1 := gz 1
            have HCH : Hid (Rst W0 w (WO.setCell ⟨g, 1, none⟩ (.int .i64 ((sw.i : Int) + 1))) g E (.slice oL T.length capL) k ⟨(t.pos : Int), false, pr, had, false, ⟨0, 0⟩⟩ (.slice o n m) (stepW sw)) := CS.out.step
            clear gz
            go_wp2_with fail
            refine (CF.out _ (stepW sw) (by show sw.i + 1 ≤ _; omega) HCH.out.wk).mono ?_
            rintro e WP ⟨rfl, hgP, hwP⟩
            replace CS : Hid (Rst W0 w WP g E (.slice oL T.length capL) k ⟨(t.pos : Int), false, pr, had, false, ⟨0, 0⟩⟩ (.slice o n m) (figW E T (stepW sw)).2) := HCH.out.by hgP hwP
            obtain ⟨po, s45, hpo⟩ : ∃ po s45, figW E T (stepW sw) = (po, s45) := ⟨_, _, rfl⟩
            have hs45 : s45.i = sw.i + 2 := by have := fig_i E T (stepW sw); rw [hpo] at this; exact this
            rw [hpo] at CS ⊢
            have HAC : Hid (actW E T s4 = ((false, po), s45)) := by show _ = _; unfold actW; rw [if_neg hdr]; rw [if_neg hpw, ← HSW.out, hpo]
            have HS45 : Hid (s45.i = sw.i + 2) := hs45
            replace CS : Hid (Rst W0 w WP g E (.slice oL T.length capL) k ⟨(t.pos : Int), false, pr, had, false, ⟨0, 0⟩⟩ (.slice o n m) s45) := CS.out
            have hst := store_fig WP k 6 _ _ CS.out.cl (by simp [rawV]) po
            have CG : Rst W0 w ((WP.setCell ⟨k, 6, none⟩ (.int .i64 po.n)).setCell ⟨k, 6 + 1, none⟩ (.int .i64 po.pos)) g E (.slice oL T.length capL) k ⟨(t.pos : Int), false, pr, had, false, po⟩ (.slice o n m) s45 := (CS.out.set 6 (.int .i64 po.n) ⟨(t.pos : Int), false, pr, had, false, ⟨po.n, 0⟩⟩ rfl rfl).set (6 + 1) (.int .i64 po.pos) ⟨(t.pos : Int), false, pr, had, false, po⟩ rfl rfl
            have HCG : Hid _ := CG
            clear hgP hwP HCH g1 gz1 CG hs45 hpo
            go_wp2_with fail
            obtain ⟨WQ, hWQ⟩ : ∃ W', W' = ((WP.setCell ⟨k, 6, none⟩ (.int .i64 po.n)).setCell ⟨k, 6 + 1, none⟩ (.int .i64 po.pos)) := ⟨_, rfl⟩
            replace CS : Hid (Rst W0 w WQ g E (.slice oL T.length capL) k ⟨(t.pos : Int), false, pr, had, false, po⟩ (.slice o n m) s45) := by rw [hWQ]; exact HCG.out
            rw [show ((WP.setCell ⟨k, 6, none⟩ (.int .i64 po.n)).setCell ⟨k, 7, none⟩ (.int .i64 po.pos)) = WQ from hWQ.symm]
            clear HCG hWQ hst
            obtain ⟨s5, hs5⟩ : ∃ s5, s5 = s45 := ⟨_, rfl⟩
            rw [← hs5] at CS HAC
            have h5i : s5.i ≤ 5000 := by rw [hs5]; have := HS45.out; omega
            clear hs5
            have kg := CS.out.wk.2.2
            have l0 : ∀ u : Later WQ, u.world.cell? ⟨g, 0, none⟩ = some (.slice oL T.length capL) := later_cell6 kg rfl
            have l1 : ∀ u : Later WQ, u.world.cell? ⟨g, 1, none⟩ = some (.int .i64 (s5.i : Int)) := later_cell6 kg rfl
            by_cases hlt : s5.i < T.length
            · obtain ⟨bL, offL, cur, ty, fr, c, hoL, hb, hc, hck⟩ := (HL.out.below CS.out.wk.1).at s5.i hlt
              subst hoL
              have hnx : nx E T s5 = c := by unfold nx; rw [List.getD, hck]; rfl
              have l2 : ∀ u : Later WQ, u.world.cell? ⟨bL, offL + s5.i * 4, none⟩ = some (.int .i64 (c.kind : Int)) := later_cell6 hb (hc 0 (by decide))
              have hlt' : (s5.i : Int) < (T.length : Int) := by omega
              have hid : decide ((s5.i : Int) < (T.length : Int)) = true := by simp; omega
              clear hb hc hck kg
              have ne1 := Later.ne WQ
              by_cases hk7 : c.kind = 7
              · have e7 : ((c.kind : Int) != 7) = false := by simp; omega
                have HE : Hid (endW E T s5 = s5) := if_neg fun q => q.2 (by rw [hnx]; exact hk7)
                clear hnx hk7
                refine wp_region_later (by kernel_rfl) (by kernel_rfl) ?_
                repeat first | (go_big_quiet_step (rfl)) | (refine q_nil rfl _ rfl _ rfl ?_; simp only [Act.put, List.setIfInBounds_toArray, List.set_cons_succ, List.set_cons_zero])
                refine wpQuiet_nil ?_
                rintro w' ⟨u, rfl⟩
                have CX := CS.out.below u.below
                obtain ⟨WZ, hWZ⟩ : ∃ WZ, WZ = u.world := ⟨_, rfl⟩
                rw [← hWZ] at CX ⊢
                replace CS : Hid (Rst W0 w WZ g E (.slice (some ⟨bL, offL, none⟩) T.length capL) k ⟨(t.pos : Int), false, pr, had, false, po⟩ (.slice o n m) s5) := CX
                clear hWZ l0 l1 l2 ne1 CX
                go_wp2_with (first
                  | (refine wl_loadE (E := RawE) RawOk rfl _ rfl k 0 rfl _ _ _ (rawV ⟨(t.pos : Int), false, pr, had, false, po⟩ (.slice o n m)) rfl CS.out.cl (own_cells _ _) ?_)
                  | (refine wl_storeE (E := RawE) RawOk rfl _ _ rfl w.heap.size (rawV ⟨(t.pos : Int), false, pr, had, false, po⟩ (.slice o n m)) (raw_fits _ _ ⟨_, _, _, rfl⟩) rfl rfl _ CS.out.r0 rfl _ rfl ?_))
                refine retE (E := RawE) RawOk rfl rfl w.heap.size rfl (rawV ⟨(t.pos : Int), false, pr, had, false, po⟩ (.slice o n m)) rfl (setRow_heap _ _ _ _ _ _ CS.out.r0) ?_
                have HRR : Hid (R = (⟨(t.pos : Int), false, pr, had, false, po⟩, s5)) := by show _ = _; rw [HR.out]; unfold rowW; simp only [HFR.out, ← HS4.out, HAC.out]; rw [← HT.out]; rw [HE.out]
                rw [HRR.out]
                exact ⟨_, rfl, clas_setRow CS.out.own CS.out.r0 _, gb_setRow CS.out.gr (.inr (Nat.le_refl _)) _, wk_setRow CS.out.wk (by omega) (by omega) _⟩
              · have e7 : ((c.kind : Int) != 7) = true := by simp; omega
                have HE : Hid (endW E T s5 = wrong E T 8 s5) := if_pos ⟨hlt, by rw [hnx]; exact hk7⟩
                clear hnx hk7
                refine wp_region_later (by kernel_rfl) (by kernel_rfl) ?_
                repeat first | (go_big_quiet_step (rfl)) | (refine q_nil rfl _ rfl _ rfl ?_; simp only [Act.put, List.setIfInBounds_toArray, List.set_cons_succ, List.set_cons_zero])
                refine wpQuiet_nil ?_
                rintro w' ⟨u, rfl⟩
                have CX := CS.out.below u.below
                obtain ⟨WY, hWY⟩ : ∃ WY, WY = u.world := ⟨_, rfl⟩
                rw [← hWY] at CX ⊢
                replace CS : Hid (Rst W0 w WY g E (.slice (some ⟨bL, offL, none⟩) T.length capL) k ⟨(t.pos : Int), false, pr, had, false, po⟩ (.slice o n m) s5) := CX
                clear hWY l0 l1 l2 ne1 CX
                go_wp2_with fail
                refine (CW.out _ s5 CS.out.wk).mono ?_
                rintro e WZ ⟨rfl, hgZ, hwZ⟩
                replace CS : Hid (Rst W0 w WZ g E (.slice (some ⟨bL, offL, none⟩) T.length capL) k ⟨(t.pos : Int), false, pr, had, false, po⟩ (.slice o n m) (wrong E T 8 s5)) := CS.out.by hgZ hwZ
                clear hgZ hwZ
                go_wp2_with (first
                  | (refine wl_loadE (E := RawE) RawOk rfl _ rfl k 0 rfl _ _ _ (rawV ⟨(t.pos : Int), false, pr, had, false, po⟩ (.slice o n m)) rfl CS.out.cl (own_cells _ _) ?_)
                  | (refine wl_storeE (E := RawE) RawOk rfl _ _ rfl w.heap.size (rawV ⟨(t.pos : Int), false, pr, had, false, po⟩ (.slice o n m)) (raw_fits _ _ ⟨_, _, _, rfl⟩) rfl rfl _ CS.out.r0 rfl _ rfl ?_))
                refine retE (E := RawE) RawOk rfl rfl w.heap.size rfl (rawV ⟨(t.pos : Int), false, pr, had, false, po⟩ (.slice o n m)) rfl (setRow_heap _ _ _ _ _ _ CS.out.r0) ?_
                have HRR : Hid (R = (⟨(t.pos : Int), false, pr, had, false, po⟩, (wrong E T 8 s5))) := by show _ = _; rw [HR.out]; unfold rowW; simp only [HFR.out, ← HS4.out, HAC.out]; rw [← HT.out]; rw [HE.out]
                rw [HRR.out]
                exact ⟨_, rfl, clas_setRow CS.out.own CS.out.r0 _, gb_setRow CS.out.gr (.inr (Nat.le_refl _)) _, wk_setRow CS.out.wk (by omega) (by omega) _⟩
            · have hlt' : ¬ (s5.i : Int) < (T.length : Int) := by omega
              have hid : decide ((s5.i : Int) < (T.length : Int)) = false := by simp; omega
              have HE : Hid (endW E T s5 = s5) := if_neg fun q => hlt q.1
              clear kg
              have ne1 := Later.ne WQ
              refine wp_region_later (by kernel_rfl) (by kernel_rfl) ?_
              repeat first | (go_big_quiet_step (rfl)) | (refine q_nil rfl _ rfl _ rfl ?_; simp only [Act.put, List.setIfInBounds_toArray, List.set_cons_succ, List.set_cons_zero])
              refine wpQuiet_nil ?_
              rintro w' ⟨u, rfl⟩
              have CX := CS.out.below u.below
              obtain ⟨WZ, hWZ⟩ : ∃ WZ, WZ = u.world := ⟨_, rfl⟩
              rw [← hWZ] at CX ⊢
              replace CS : Hid (Rst W0 w WZ g E (.slice oL T.length capL) k ⟨(t.pos : Int), false, pr, had, false, po⟩ (.slice o n m) s5) := CX
              clear hWZ l0 l1 ne1 CX
              go_wp2_with (first
                | (refine wl_loadE (E := RawE) RawOk rfl _ rfl k 0 rfl _ _ _ (rawV ⟨(t.pos : Int), false, pr, had, false, po⟩ (.slice o n m)) rfl CS.out.cl (own_cells _ _) ?_)
                | (refine wl_storeE (E := RawE) RawOk rfl _ _ rfl w.heap.size (rawV ⟨(t.pos : Int), false, pr, had, false, po⟩ (.slice o n m)) (raw_fits _ _ ⟨_, _, _, rfl⟩) rfl rfl _ CS.out.r0 rfl _ rfl ?_))
              refine retE (E := RawE) RawOk rfl rfl w.heap.size rfl (rawV ⟨(t.pos : Int), false, pr, had, false, po⟩ (.slice o n m)) rfl (setRow_heap _ _ _ _ _ _ CS.out.r0) ?_
              have HRR : Hid (R = (⟨(t.pos : Int), false, pr, had, false, po⟩, s5)) := by show _ = _; rw [HR.out]; unfold rowW; simp only [HFR.out, ← HS4.out, HAC.out]; rw [← HT.out]; rw [HE.out]
              rw [HRR.out]
              exact ⟨_, rfl, clas_setRow CS.out.own CS.out.r0 _, gb_setRow CS.out.gr (.inr (Nat.le_refl _)) _, wk_setRow CS.out.wk (by omega) (by omega) _⟩
end Go.Proofs.YtfamnloobmdhdaaDoor
