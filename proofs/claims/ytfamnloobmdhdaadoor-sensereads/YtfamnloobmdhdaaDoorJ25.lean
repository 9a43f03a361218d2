import Derived.Test.YtfamnloobmdhdaaDoorJ23
import Derived.Test.YtfamnloobmdhdaaDoorJ14
namespace Go.Proofs.YtfamnloobmdhdaaDoor
open Go Go.RowKit
set_option maxRecDepth 20000

/-- The reference at work on a clause: where things lie. -/
structure Cst (W0 w W : World) (g E : Nat) (Lv : Value) (k : Nat) (t : Tok) (c : Cla) (u : Value) (s : Ws) : Prop where
  wk : Wk W0 W g E Lv s
  gr : w.grownBy W (some g)
  tok : W.heap[k]? = some (.cells (encT t) 90 (0, 0))
  cl : W.heap[k + 1]? = some (.cells (claV c u) 54 (0, 0))
  r0 : W.heap[w.heap.size]? = some (.cells (claV ⟨[], 0, [], false, false⟩ (.slice none 0 0)) 54 (0, 0))
  own : W.ownsRow w.heap.size 48 2 u c.nums.length (gcells figV c.nums)
  hk : w.heap.size < k
  hg : W0.heap.size ≤ g ∧ g < w.heap.size
theorem Cst.size {W0 w W : World} {g E : Nat} {Lv : Value} {k : Nat} {t : Tok} {c : Cla} {u : Value} {s : Ws} (h : Cst W0 w W g E Lv k t c u s) : k + 1 < W.heap.size := (Array.getElem?_eq_some_iff.1 h.cl).1
theorem Cst.slice {W0 w W : World} {g E : Nat} {Lv : Value} {k : Nat} {t : Tok} {c : Cla} {u : Value} {s : Ws} (h : Cst W0 w W g E Lv k t c u s) : ∃ o n m, u = .slice o n m := by
  obtain ⟨o, cap, e⟩ := gown_slice h.own
  exact ⟨o, _, cap, e⟩
theorem Cst.by {W0 w W W' : World} {g E : Nat} {Lv : Value} {k : Nat} {t : Tok} {c : Cla} {u : Value} {s s' : Ws} (h : Cst W0 w W g E Lv k t c u s) (hgr : W.grownBy W' (some g)) (hw : Wk W0 W' g E Lv s') : Cst W0 w W' g E Lv k t c u s' := by
  have hz := h.size
  have hk := h.hk
  have hg := h.hg
  exact ⟨hw, grown_trans h.gr hgr, (hgr.block _ (by omega) (by simp; omega)).trans h.tok, (hgr.block _ (by omega) (by simp; omega)).trans h.cl, (hgr.block _ (by omega) (by simp; omega)).trans h.r0, own_by hgr hg.2 h.own, hk, hg⟩
theorem Cst.below {W0 w W W' : World} {g E : Nat} {Lv : Value} {k : Nat} {t : Tok} {c : Cla} {u : Value} {s : Ws} (h : Cst W0 w W g E Lv k t c u s) (hb : Below W.heap.size W W') : Cst W0 w W' g E Lv k t c u s := h.by (grown_below hb) (h.wk.below hb)
theorem Cst.step {W0 w W : World} {g E : Nat} {Lv : Value} {k : Nat} {t : Tok} {c : Cla} {u : Value} {s : Ws} (h : Cst W0 w W g E Lv k t c u s) : Cst W0 w (W.setCell ⟨g, 1, none⟩ (.int .i64 ((s.i : Int) + 1))) g E Lv k t c u (stepW s) :=
  h.by (gb_setCell (gb_refl _ _) (.inl rfl) _ _) (wk_set h.wk 1 _ _ rfl)
theorem Cst.flag {W0 w W : World} {g E : Nat} {Lv : Value} {k : Nat} {t : Tok} {c : Cla} {u : Value} {s : Ws} (h : Cst W0 w W g E Lv k t c u s) (i : Nat) (c' : Cla) (hn : c'.nums = c.nums) (hc : (claV c u).setIfInBounds i (.bool true) = claV c' u) : Cst W0 w (W.setCell ⟨k + 1, i, none⟩ (.bool true)) g E Lv k t c' u s := by
  have hz := h.size
  have hk := h.hk
  have hg := h.hg
  refine ⟨wk_setCell h.wk (by omega) (by omega) _ _, gb_setCell h.gr (.inr (by omega)) _ _, (tc_far (by omega) _).trans h.tok, ?_, (tc_far (by omega) _).trans h.r0, ?_, hk, hg⟩
  · rw [tc_row h.cl, hc]
  · rw [hn]; exact own_set h.own h.cl (by decide) _
theorem Cst.app {W0 w W w1 w3 : World} {g E : Nat} {Lv : Value} {k : Nat} {t : Tok} {c : Cla} {u v' : Value} {s s' : Ws} {f : Fig} (h : Cst W0 w W g E Lv k t c u s) (hg1 : W.grownBy w1 (some g)) (hw1 : Wk W0 w1 g E Lv s') (hgr : (w1.alloc (.cells (figV f) 48)).grownBy w3 u.ownBlock)
    (hown : w3.ownsRow w.heap.size 48 2 v' (c.nums ++ [f]).length (gcells figV (c.nums ++ [f]))) (hp : w3.heap[k + 1]? = some (.cells (claV c u) 54 (0, 0))) : Cst W0 w (w3.setCell ⟨k + 1, 2, none⟩ v') g E Lv k t ⟨c.word, c.pos, c.nums ++ [f], c.slash, c.dash⟩ v' s' := by
  have hz := h.size
  have hk := h.hk
  have hg := h.hg
  have h1 := h.by hg1 hw1
  have hz1 := h1.size
  have hub : ∀ j, u.ownBlock = some j → w.heap.size ≤ j := fun j hj => (h.own.lt j hj).1
  have ne : ∀ (j : Nat) (cs : Array Value) (ty : TypeId), W.heap[j]? = some (.cells cs ty (0, 0)) → 48 ≠ ty → u.ownBlock ≠ some j := fun j cs ty hj ht hq => by
    obtain ⟨_, ⟨hv, _⟩ | ⟨g', cap', cur', hv, _, h2, _⟩⟩ := h.own
    · rw [hv] at hq; simp [Value.ownBlock] at hq
    · rw [hv] at hq
      simp only [Value.ownBlock, Option.some.injEq] at hq
      rw [hq, hj] at h2
      simp only [Option.some.injEq, Obj.cells.injEq] at h2
      exact ht h2.2.1.symm
  have b1 : w3.heap[k]? = some (.cells (encT t) 90 (0, 0)) := (hgr.block _ (by simp; omega) (fun hq => ne k _ _ h.tok (by decide) hq.symm)).trans (heap_past _ _ _ _ h1.tok)
  have b2 : w3.heap[w.heap.size]? = some (.cells (claV ⟨[], 0, [], false, false⟩ (.slice none 0 0)) 54 (0, 0)) := (hgr.block _ (by simp; omega) (fun hq => ne _ _ _ h.r0 (by decide) hq.symm)).trans (heap_past _ _ _ _ h1.r0)
  refine ⟨wk_setCell (wk_own (hw1.alloc _) hgr fun j hj => Nat.lt_of_lt_of_le hg.2 (hub j hj)) (by omega) (by omega) _ _, gb_setCell (gb_own (gb_alloc h1.gr _) hgr hub) (.inr (by omega)) _ _, (tc_far (by omega) _).trans b1, tc_row hp _, (tc_far (by omega) _).trans b2, own_set hown hp (by decide) _, hk, hg⟩
theorem wrong_twice {E : Nat} {T : List Tok} {e : Nat} (he : e ≠ 0) (s : Ws) : wrong E T e (wrong E T e s) = wrong E T e s := by
  by_cases h : s.bad = 0
  · rw [wrong_is h]; unfold wrong; rw [if_neg he]
  · have : wrong E T e s = s := if_neg h
    rw [this, this]
theorem dotsA_i (E : Nat) (T : List Tok) : ∀ (n : Nat) (l : List Fig) (s : Ws), (dotsA E T n (l, s)).2.i = s.i + 2 * n ∧ (dotsA E T n (l, s)).1.length = l.length + n
  | 0, l, s => ⟨rfl, rfl⟩
  | n + 1, l, s => by
    have ih := dotsA_i E T n l s
    rw [dotsA]
    refine ⟨?_, ?_⟩
    · rw [fig_i, kind_i]; omega
    · rw [List.length_append]; simp; omega
/-- The state behind the look at the clauses that are there already. -/
def hadS (E : Nat) (T : List Tok) (C : List Cla) (x : List UInt8) (s : Ws) : Ws := if C.any (fun c => c.word == x) then wrong E T 9 s else s
theorem hadS_i (E : Nat) (T : List Tok) (C : List Cla) (x : List UInt8) (s : Ws) : (hadS E T C x s).i = s.i := by
  unfold hadS; split
  · exact wrong_i E T 9 s
  · rfl
theorem hadS_yes {E : Nat} {T : List Tok} {C : List Cla} {j : Nat} {c : Cla} {x : List UInt8} {s : Ws} (h : C[j]? = some c) (hq : (c.word == x) = true) : hadS E T (C.take (j + 1)) x s = wrong E T 9 (hadS E T (C.take j) x s) := by
  unfold hadS
  rw [any_take_succ h, hq, Bool.or_true, if_pos rfl]
  split
  · exact (wrong_twice (by decide) s).symm
  · rfl
theorem hadS_no {E : Nat} {T : List Tok} {C : List Cla} {j : Nat} {c : Cla} {x : List UInt8} {s : Ws} (h : C[j]? = some c) (hq : (c.word == x) = false) : hadS E T (C.take (j + 1)) x s = hadS E T (C.take j) x s := by
  unfold hadS
  rw [any_take_succ h, hq, Bool.or_false]

theorem opt_yes {E : Nat} {T : List Tok} {k : Nat} {s : Ws} (h : (nx E T s).kind = k) : optW E T true k s = (some (figW E T (stepW s)).1, (figW E T (stepW s)).2) := by unfold optW; rw [if_pos ⟨rfl, h⟩]
theorem opt_none {E : Nat} {T : List Tok} {k : Nat} {s : Ws} (h : ¬ (nx E T s).kind = k) : optW E T true k s = (none, s) := by unfold optW; rw [if_neg fun c => h c.2]
theorem opt_false (E : Nat) (T : List Tok) (k : Nat) (s : Ws) : optW E T false k s = (none, s) := by unfold optW; rw [if_neg fun c => absurd c.1 (by decide)]
theorem cw_addr4 {E : Nat} {T : List Tok} {had : List Cla} {s : Ws} (ha : isAddrW (nx E T s).text = true) (hp : isPortW (nx E T s).text = false) (hk : (nx E T (dotsW E T 3 (figW E T (headW E T had s)).2).2).kind = 4) :
    clauseW E T had s = (⟨(nx E T s).text, ((nx E T s).pos : Int), ([(figW E T (headW E T had s)).1] ++ (dotsW E T 3 (figW E T (headW E T had s)).2).1) ++ [(figW E T (stepW (dotsW E T 3 (figW E T (headW E T had s)).2).2)).1], true, false⟩, (figW E T (stepW (dotsW E T 3 (figW E T (headW E T had s)).2).2)).2) := by
  unfold clauseW
  simp only [ha, hp, if_true, opt_yes hk, opt_false]
  simp
theorem cw_addrN {E : Nat} {T : List Tok} {had : List Cla} {s : Ws} (ha : isAddrW (nx E T s).text = true) (hp : isPortW (nx E T s).text = false) (hk : ¬ (nx E T (dotsW E T 3 (figW E T (headW E T had s)).2).2).kind = 4) :
    clauseW E T had s = (⟨(nx E T s).text, ((nx E T s).pos : Int), [(figW E T (headW E T had s)).1] ++ (dotsW E T 3 (figW E T (headW E T had s)).2).1, false, false⟩, (dotsW E T 3 (figW E T (headW E T had s)).2).2) := by
  unfold clauseW
  simp only [ha, hp, if_true, opt_none hk, opt_false]
  simp
theorem cw_port5 {E : Nat} {T : List Tok} {had : List Cla} {s : Ws} (ha : isAddrW (nx E T s).text = false) (hp : isPortW (nx E T s).text = true) (hk : (nx E T (figW E T (headW E T had s)).2).kind = 5) :
    clauseW E T had s = (⟨(nx E T s).text, ((nx E T s).pos : Int), [(figW E T (headW E T had s)).1] ++ [(figW E T (stepW (figW E T (headW E T had s)).2)).1], false, true⟩, (figW E T (stepW (figW E T (headW E T had s)).2)).2) := by
  unfold clauseW
  simp only [ha, hp, Bool.false_eq_true, if_false, opt_false, opt_yes hk]
  simp
theorem cw_portN {E : Nat} {T : List Tok} {had : List Cla} {s : Ws} (ha : isAddrW (nx E T s).text = false) (hp : isPortW (nx E T s).text = true) (hk : ¬ (nx E T (figW E T (headW E T had s)).2).kind = 5) :
    clauseW E T had s = (⟨(nx E T s).text, ((nx E T s).pos : Int), [(figW E T (headW E T had s)).1], false, false⟩, (figW E T (headW E T had s)).2) := by
  unfold clauseW
  simp only [ha, hp, Bool.false_eq_true, if_false, opt_false, opt_none hk]
  simp
theorem cw_none {E : Nat} {T : List Tok} {had : List Cla} {s : Ws} (ha : isAddrW (nx E T s).text = false) (hp : isPortW (nx E T s).text = false) :
    clauseW E T had s = (⟨(nx E T s).text, ((nx E T s).pos : Int), [(figW E T (headW E T had s)).1], false, false⟩, (figW E T (headW E T had s)).2) := by
  unfold clauseW
  simp only [ha, hp, Bool.false_eq_true, if_false, opt_false]
  simp
theorem head_ok {E : Nat} {T : List Tok} {had : List Cla} {s : Ws} (h : okW (nx E T s).text = true) : headW E T had s = stepW (hadS E T had (nx E T s).text s) := by
  unfold headW hadS
  have : (!isAddrW (nx E T s).text && !isPortW (nx E T s).text && !((nx E T s).text == wProto)) = false := by
    unfold okW at h
    revert h
    cases isAddrW (nx E T s).text <;> cases isPortW (nx E T s).text <;> cases ((nx E T s).text == wProto) <;> simp
  simp only [this, Bool.false_eq_true, if_false]
theorem head_bad {E : Nat} {T : List Tok} {had : List Cla} {s : Ws} (h : okW (nx E T s).text = false) : headW E T had s = stepW (hadS E T had (nx E T s).text (wrong E T 8 s)) := by
  unfold headW hadS
  have : (!isAddrW (nx E T s).text && !isPortW (nx E T s).text && !((nx E T s).text == wProto)) = true := by
    unfold okW at h
    revert h
    cases isAddrW (nx E T s).text <;> cases isPortW (nx E T s).text <;> cases ((nx E T s).text == wProto) <;> simp
  simp only [this, if_true]

set_option maxHeartbeats 8000000 in
set_option maxRecDepth 10000 in
theorem rclause_src (W0 w : World) (g E : Nat) (Lv : Value) (T : List Tok) (hL : GSl TokE encT W0 Lv T) (had : List Cla) (hv : Value) (Bh : Nat) (s : Ws) (hi : s.i ≤ 5900) (ht : (nx E T s).text = wSrc) (hBh : g < Bh) (hh : ClasOwn Bh w had hv) (hhl : had.length ≤ 5000) (h : Wk W0 w g E Lv s) :
    Calls Tryd.prog 74 #[.pointer (some ⟨g, 0, none⟩), hv] w fun e w' => ∃ u, e = .returned (.agg (claV (clauseW E T had s).1 u)) ∧ w'.ownsRow w.heap.size 48 2 u (clauseW E T had s).1.nums.length (gcells figV (clauseW E T had s).1.nums) ∧ w.grownBy w' (some g) ∧ Wk W0 w' g E Lv (clauseW E T had s).2 := by
  have CN : Hid (∀ W s, Wk W0 W g E Lv s → Calls Tryd.prog 71 #[.pointer (some ⟨g, 0, none⟩)] W fun e w' => e = .returned (.agg (encT (nx E T s))) ∧ Below W.heap.size W w') := fun W s h => next_any W0 W g E Lv T hL s h
  have CW8 : Hid (∀ W s, Wk W0 W g E Lv s → Calls Tryd.prog 45 #[.pointer (some ⟨g, 0, none⟩), .int .i64 8] W fun e' w' => e' = .returned (.tuple #[]) ∧ W.grownBy w' (some g) ∧ Wk W0 w' g E Lv (wrong E T 8 s)) := fun W s h => wrong_any W0 W g E Lv T hL 8 s h
  have CW9 : Hid (∀ W s, Wk W0 W g E Lv s → Calls Tryd.prog 45 #[.pointer (some ⟨g, 0, none⟩), .int .i64 9] W fun e' w' => e' = .returned (.tuple #[]) ∧ W.grownBy w' (some g) ∧ Wk W0 w' g E Lv (wrong E T 9 s)) := fun W s h => wrong_any W0 W g E Lv T hL 9 s h
  have CF : Hid (∀ W s, s.i ≤ 6000 → Wk W0 W g E Lv s → Calls Tryd.prog 73 #[.pointer (some ⟨g, 0, none⟩)] W fun e' w' => e' = .returned (.agg (figV (figW E T s).1)) ∧ W.grownBy w' (some g) ∧ Wk W0 w' g E Lv (figW E T s).2) := fun W s hi h => figure_any6 W0 W g E Lv T hL s hi h
  have CK : Hid (∀ W s, s.i ≤ 6000 → Wk W0 W g E Lv s → Calls Tryd.prog 75 #[.pointer (some ⟨g, 0, none⟩), .int .i64 3] W fun e' w' => e' = .returned (.agg (encT (kindW E T 3 s).1)) ∧ W.grownBy w' (some g) ∧ Wk W0 w' g E Lv (kindW E T 3 s).2) := fun W s hi h => kind_any6 W0 W g E Lv T hL 3 s hi h
  have hgl := h.size
  obtain ⟨R, hR⟩ : ∃ R, R = clauseW E T had s := ⟨_, rfl⟩
  rw [← hR]
  have HR : Hid (R = clauseW E T had s) := hR
  obtain ⟨t, hnt⟩ : ∃ t, t = nx E T s := ⟨_, rfl⟩
  rw [← hnt] at ht
  have HT : Hid (t = nx E T s) := hnt
  have e0 : (t.text == [115, 114, 99]) = true := by rw [ht]; rfl
  have e1 : (t.text == [100, 115, 116]) = false := by rw [ht]; rfl
  have e2 : (t.text == [115, 112, 111, 114, 116]) = false := by rw [ht]; rfl
  have e3 : (t.text == [100, 112, 111, 114, 116]) = false := by rw [ht]; rfl
  have e4 : (t.text == [112, 114, 111, 116, 111]) = false := by rw [ht]; rfl
  have e5 : (t.text != [112, 114, 111, 116, 111]) = true := by rw [ht]; rfl
  have H : Hid (Wk W0 w g E Lv s) := h
  have HH : Hid (ClasOwn Bh w had hv) := hh
  have HTX : Hid (_ ∧ True) := ⟨ht, trivial⟩
  clear h hR hh hL hnt ht
  go_enter Tryd.func74, Tryd.ntmps74
  go_wp2_with fail
  refine (CN.out _ s (H.out.alloc _)).mono ?_
  rw [← HT.out]
  rintro e w1 ⟨rfl, hb1⟩
  have B1 : Below w.heap.size w w1 := ((Below.refl _ _).alloc (Nat.le_refl _) _).trans (hb1.mono (by simp))
  have z1 : w.heap.size < w1.heap.size := by have := hb1.size; simp at this; omega
  have C0 : Cst W0 w ((w1.alloc (.cells (encT t) 90)).alloc (.cells (claV ⟨t.text, (t.pos : Int), [], false, false⟩ (.slice none 0 0)) 54)) g E Lv w1.heap.size t ⟨t.text, (t.pos : Int), [], false, false⟩ (.slice none 0 0) s :=
    ⟨((H.out.below B1).alloc _).alloc _, gb_alloc (gb_alloc (grown_below B1) _) _, heap_past _ _ _ _ (heap_new _ _ _ rfl), heap_new _ _ _ (by simp), heap_past _ _ _ _ (heap_past _ _ _ _ ((hb1.block _ (by simp)).trans (heap_new _ _ _ rfl))), World.ownsRow_nil _ _ _ _, z1, hgl⟩
  have q1 := tok_cells (heap_new w1 (.cells (encT t) 90) _ rfl)
  have q2 := fun x => tok_cells (heap_past _ x _ _ (heap_new w1 (.cells (encT t) 90) _ rfl))
  have t1 := q1.2.1
  have t2 := q1.2.2.1
  have t5 := fun x => (q2 x).2.1
  have t6 := fun x => (q2 x).2.2.1
  obtain ⟨k, hk⟩ : ∃ k, k = w1.heap.size := ⟨_, rfl⟩
  obtain ⟨WA, hWA⟩ : ∃ WA, WA = ((w1.alloc (.cells (encT t) 90)).alloc (.cells (claV ⟨t.text, (t.pos : Int), [], false, false⟩ (.slice none 0 0)) 54)) := ⟨_, rfl⟩
  rw [← hWA] at C0
  have HWA : Hid (WA = ((w1.alloc (.cells (encT t) 90)).alloc (.cells (claV ⟨t.text, (t.pos : Int), [], false, false⟩ (.slice none 0 0)) 54)) ∧ k = w1.heap.size) := ⟨hWA, hk⟩
  have CS : Hid (Cst W0 w WA g E Lv k t ⟨t.text, (t.pos : Int), [], false, false⟩ (.slice none 0 0) s) := by rw [hk]; exact C0
  have hbw : Below w.heap.size w w1 := B1
  have HHA : Hid (ClasOwn Bh WA had hv) := by show ClasOwn _ _ _ _; rw [hWA]; exact ((HH.out.below hbw).below ((Below.refl _ _).alloc (Nat.le_refl _) _)).below ((Below.refl _ _).alloc (Nat.le_refl _) _)
  clear q1 q2 hb1 B1 C0 hWA hk hbw
  go_wp2_with (first
    | (refine wl_storeE (E := TokE) TokOk rfl _ _ rfl w1.heap.size (encT t) (tv_fits _ _ _ _) rfl rfl _ (heap_new _ _ _ rfl) rfl _ (setRow_new _ _ _ _ _ rfl) ?_)
    | (refine wl_storeE (E := ClaE) ClaOk rfl _ _ rfl (w1.heap.size + 1) (claV ⟨t.text, (t.pos : Int), [], false, false⟩ (.slice none 0 0)) (cla_fits _ _ ⟨_, _, _, rfl⟩) rfl rfl _ (heap_new _ _ _ (by simp)) rfl _ (setRow_new _ _ _ _ _ (by simp)) ?_))
  rw [← HWA.out.1, ← HWA.out.2]
  clear t1 t2 t5 t6
  obtain ⟨oh, caph, rfl, hch, hcm⟩ := NSl.slice (NOwn.sl (fun _ _ => rfl) HHA.out)
  unfold maxLen at hcm
  obtain ⟨nh, hnh⟩ : ∃ nh, nh = had.length := ⟨_, rfl⟩
  have HNH : Hid (nh = had.length) := hnh
  rw [← hnh] at hhl hch HHA ⊢
  clear hnh
  have hsi : (s).i = s.i := by first | rfl | exact wrong_i E T 8 s
  go_loopw [9] (fun x wr => ∃ j : Nat, j ≤ nh ∧ x = .int .i64 (j : Int) ∧ Cst W0 w wr g E Lv k t ⟨t.text, (t.pos : Int), [], false, false⟩ (.slice none 0 0) (hadS E T (had.take j) t.text s) ∧ ClasOwn Bh wr had (.slice oh nh caph)) (fun x _ => nh - (intOf x).toNat)
  case atStart => exact ⟨0, Nat.zero_le _, rfl, CS.out, HHA.out⟩
  case round =>
    obtain ⟨j, hj, rfl, C1, hcl⟩ := hrel
    clear CS HHA
    by_cases hlt : j < nh
    · obtain ⟨g2, off2, cur2, ty2, fr2, c2, u2, rfl, hg2, hc2, hCj, _⟩ := NSl.at (NOwn.sl (fun _ _ => rfl) hcl) j hlt
      have l0 : ∀ u : Later wr, u.world.cell? ⟨g2, off2 + j * 5, none⟩ = some (.string ⟨c2.word.toArray⟩) := later_cell6 hg2 (hc2 0 (by decide))
      have l1 : ∀ u : Later wr, u.world.cell? ⟨k, 2, none⟩ = some (.string ⟨t.text.toArray⟩) := later_cell6 C1.tok rfl
      have CS : Hid (Cst W0 w wr g E Lv k t ⟨t.text, (t.pos : Int), [], false, false⟩ (.slice none 0 0) (hadS E T (had.take j) t.text s)) := C1
      have HCL : Hid (ClasOwn Bh wr had (.slice (some ⟨g2, off2, none⟩) nh caph)) := hcl
      have HCJ : Hid (had[j]? = some c2) := hCj
      have hlt' : (j : Int) < (nh : Int) := by omega
      clear C1 hcl hg2 hc2 hCj
      go_wp2_with fail
      have ne1 := Later.ne wr
      refine wp_region_later (by kernel_rfl) (by kernel_rfl) ?_
      repeat first | (go_big_quiet_step (rfl)) | (refine q_nil rfl _ rfl _ rfl ?_; simp only [Act.put, List.setIfInBounds_toArray, List.set_cons_succ, List.set_cons_zero])
      refine wpQuiet_nil ?_
      rintro w' ⟨u, rfl⟩
      have CS2 := CS.out.below u.below
      have HCL2 := HCL.out.below u.below
      obtain ⟨W1, hW1⟩ : ∃ W1, W1 = u.world := ⟨_, rfl⟩
      rw [← hW1] at CS2 HCL2 ⊢
      clear l0 l1 ne1 hW1 CS HCL
      have CS : Hid (Cst W0 w W1 g E Lv k t ⟨t.text, (t.pos : Int), [], false, false⟩ (.slice none 0 0) (hadS E T (had.take j) t.text s)) := CS2
      have HCL : Hid (ClasOwn Bh W1 had (.slice (some ⟨g2, off2, none⟩) nh caph)) := HCL2
      clear CS2 HCL2
      by_cases hq : (c2.word == t.text) = true
      · have HS : Hid (hadS E T (had.take (j + 1)) t.text s = wrong E T 9 (hadS E T (had.take j) t.text s)) := hadS_yes HCJ.out hq
        rw [hq]
        clear hq
        go_wp2_with fail
        refine (CW9.out _ _ CS.out.wk).mono ?_
        rintro e W2 ⟨rfl, hg9, hw9⟩
        have CS2 : Hid (Cst W0 w W2 g E Lv k t ⟨t.text, (t.pos : Int), [], false, false⟩ (.slice none 0 0) (hadS E T (had.take (j + 1)) t.text s)) := by show Cst _ _ _ _ _ _ _ _ _ _ _; rw [HS.out]; exact CS.out.by hg9 hw9
        have HCL2 : Hid (ClasOwn Bh W2 had (.slice (some ⟨g2, off2, none⟩) nh caph)) := HCL.out.by hg9 hBh
        clear hg9 hw9
        go_wp2_with fail
        go_roundw
        case rel => exact ⟨j + 1, by omega, by go_num, CS2.out, HCL2.out⟩
        case measure => simp [intOf]; omega
      · have hq' : (c2.word == t.text) = false := by simpa using hq
        have HS : Hid (hadS E T (had.take (j + 1)) t.text s = hadS E T (had.take j) t.text s) := hadS_no HCJ.out hq'
        rw [hq']
        clear hq hq'
        go_wp2_with fail
        go_roundw
        case rel => exact ⟨j + 1, by omega, by go_num, by rw [HS.out]; exact CS.out, HCL.out⟩
        case measure => simp [intOf]; omega
    · have hlt' : (nh : Int) ≤ (j : Int) := by omega
      have hjl : had.take j = had := List.take_of_length_le (by have := HNH.out; omega)
      rw [hjl] at C1
      obtain ⟨s2, hs2⟩ : ∃ s2, s2 = hadS E T had t.text s := ⟨_, rfl⟩
      rw [← hs2] at C1
      have HHD : Hid (headW E T had s = stepW s2) := by
        show _ = _
        rw [hs2, HT.out]
        exact head_ok (by rw [← HT.out]; rw [HTX.out.1]; rfl)
      have h2i : s2.i ≤ 5900 := by rw [hs2, hadS_i, hsi]; exact hi
      obtain ⟨_, c1, _, _, _, fz⟩ := wk_cells C1.wk
      have f1 := fz 1
      have CS : Hid (Cst W0 w wr g E Lv k t ⟨t.text, (t.pos : Int), [], false, false⟩ (.slice none 0 0) s2) := C1
      clear C1 hcl hlt hjl hs2 fz
      go_wp2_with fail
      have CX := CS.out.step
      obtain ⟨WC, hWC⟩ : ∃ W', W' = wr.setCell ⟨g, 1, none⟩ (.int .i64 ((s2.i : Int) + 1)) := ⟨_, rfl⟩
      rw [← hWC] at CX ⊢
      replace CS : Hid (Cst W0 w WC g E Lv k t ⟨t.text, (t.pos : Int), [], false, false⟩ (.slice none 0 0) (stepW s2)) := CX
      obtain ⟨s3, hs3⟩ : ∃ s3, s3 = stepW s2 := ⟨_, rfl⟩
      rw [← hs3] at CS HHD
      have h3i : s3.i ≤ 5901 := by rw [hs3]; show s2.i + 1 ≤ _; omega
      clear CX hWC hs3 c1 f1
      refine ref13_region (Nat.le_of_ble_eq_true rfl) g (k + 1) rfl rfl _ CS.out.cl (.slice none 0 0) rfl (by have := CS.out.hk; have := CS.out.hg; omega) ([]) w.heap.size CS.out.own (by simp; try omega) (Nat.le_of_lt (Nat.lt_trans CS.out.hk (Nat.lt_of_succ_lt CS.out.size))) CS.out.hg.2 (figW E T s3).1 (fun w' => Wk W0 w' g E Lv (figW E T s3).2) ?_ ?_
      · refine (CF.out _ s3 (by omega) (CS.out.wk.below (Below.refl _ _).drew)).mono ?_
        rintro e w' ⟨rfl, hg', hw'⟩
        exact ⟨rfl, hg', hw'⟩
      rintro a' w5 w6 v' ⟨y0, y1, y2, y3, y4, y5, y6, rfl⟩ hD hg5 hgr6 hown6 hp6
      simp only [Act.put, List.setIfInBounds_toArray, List.set_cons_succ, List.set_cons_zero]
      have CX := CS.out.app hg5 hD hgr6 hown6 hp6
      obtain ⟨d_o, d_n, d_m, rfl⟩ := CX.slice
      obtain ⟨WD, hWnew⟩ : ∃ W', W' = w6.setCell ⟨k + 1, 2, none⟩ (.slice d_o d_n d_m) := ⟨_, rfl⟩
      rw [← hWnew] at CX ⊢
      replace CS : Hid (Cst W0 w WD g E Lv k t ⟨t.text, (t.pos : Int), [] ++ [(figW E T s3).1], false, false⟩ (.slice d_o d_n d_m) (figW E T s3).2) := CX
      clear CX hWnew hD hg5 hgr6 hown6 hp6
      replace CS : Hid (Cst W0 w WD g E Lv k t ⟨t.text, (t.pos : Int), [(figW E T s3).1], false, false⟩ (.slice d_o d_n d_m) (figW E T s3).2) := CS.out
      obtain ⟨f, s4, hF⟩ : ∃ f s4, figW E T s3 = (f, s4) := ⟨_, _, rfl⟩
      have h4i : s4.i ≤ 5902 := by have := fig_i E T s3; rw [hF] at this; show s4.i ≤ _; have h' : s4.i = s3.i + 1 := this; omega
      rw [hF] at CS
      have HF : Hid (figW E T (headW E T had s) = (f, s4)) := by show _ = _; rw [HHD.out]; exact hF
      replace CS : Hid (Cst W0 w WD g E Lv k t ⟨t.text, (t.pos : Int), [f], false, false⟩ (.slice d_o d_n d_m) s4) := CS.out
      have HAD : Hid (isAddrW (nx E T s).text = true ∧ isPortW (nx E T s).text = false) := by show _ ∧ _; rw [← HT.out]; rw [HTX.out.1]; exact ⟨rfl, rfl⟩
      clear hF HHD HNH h2i h3i hsi e0 e1 e2 e3 e4 e5
      go_wp2_with fail
      go_loopw [10] (fun x wr => ∃ j : Nat, j ≤ 3 ∧ x = .int .i64 (j : Int) ∧ ∃ o n m, Cst W0 w wr g E Lv k t ⟨t.text, (t.pos : Int), (dotsA E T j ([f], s4)).1, false, false⟩ (.slice o n m) (dotsA E T j ([f], s4)).2) (fun x _ => 3 - (intOf x).toNat)
      case atStart => exact ⟨0, by omega, rfl, _, _, _, CS.out⟩
      case round =>
        obtain ⟨j, hj, rfl, jo, jn, jm, C2⟩ := hrel
        clear CS
        have hdi := dotsA_i E T j [f] s4
        obtain ⟨lj, sj, hlj⟩ : ∃ lj sj, dotsA E T j ([f], s4) = (lj, sj) := ⟨_, _, rfl⟩
        have HLJ : Hid (dotsA E T j ([f], s4) = (lj, sj)) := hlj
        rw [hlj] at C2 hdi
        simp only [List.length_cons, List.length_nil] at hdi
        have CS : Hid (Cst W0 w wr g E Lv k t ⟨t.text, (t.pos : Int), lj, false, false⟩ (.slice jo jn jm) sj) := C2
        have hji : sj.i ≤ 5910 := by omega
        have hjl : lj.length ≤ 1000 := by omega
        clear C2 hlj hdi
        by_cases hlt : j < 3
        · have hlt' : (j : Int) < 3 := by omega
          go_wp2_with fail
          refine (CK.out _ sj (by omega) CS.out.wk).mono ?_
          rintro e WE ⟨rfl, hgE, hwE⟩
          obtain ⟨s6, hs6⟩ : ∃ s6, s6 = (kindW E T 3 sj).2 := ⟨_, rfl⟩
          have h6i : s6.i ≤ 5911 := by rw [hs6, kind_i]; omega
          rw [← hs6] at hwE
          have HS6 : Hid (s6 = (kindW E T 3 sj).2) := hs6
          replace CS : Hid (Cst W0 w WE g E Lv k t ⟨t.text, (t.pos : Int), lj, false, false⟩ (.slice jo jn jm) s6) := CS.out.by hgE hwE
          clear hgE hwE hs6
          go_wp2_with fail
          refine ref18_region (Nat.le_of_ble_eq_true rfl) g (k + 1) rfl rfl _ CS.out.cl (.slice jo jn jm) rfl (by have := CS.out.hk; have := CS.out.hg; omega) (lj) w.heap.size CS.out.own hjl (Nat.le_of_lt (Nat.lt_trans CS.out.hk (Nat.lt_of_succ_lt CS.out.size))) CS.out.hg.2 (figW E T s6).1 (fun w' => Wk W0 w' g E Lv (figW E T s6).2) ?_ ?_
          · refine (CF.out _ s6 (by omega) (CS.out.wk.below (Below.refl _ _).drew)).mono ?_
            rintro e w' ⟨rfl, hg', hw'⟩
            exact ⟨rfl, hg', hw'⟩
          rintro a' w5 w6 v' ⟨y0, y1, y2, y3, y4, y5, y6, rfl⟩ hD hg5 hgr6 hown6 hp6
          simp only [Act.put, List.setIfInBounds_toArray, List.set_cons_succ, List.set_cons_zero]
          have CX := CS.out.app hg5 hD hgr6 hown6 hp6
          obtain ⟨x_o, x_n, x_m, rfl⟩ := CX.slice
          obtain ⟨WX, hWnew⟩ : ∃ W', W' = w6.setCell ⟨k + 1, 2, none⟩ (.slice x_o x_n x_m) := ⟨_, rfl⟩
          rw [← hWnew] at CX ⊢
          replace CS : Hid (Cst W0 w WX g E Lv k t ⟨t.text, (t.pos : Int), lj ++ [(figW E T s6).1], false, false⟩ (.slice x_o x_n x_m) (figW E T s6).2) := CX
          clear CX hWnew hD hg5 hgr6 hown6 hp6
          have HNX : Hid (dotsA E T (j + 1) ([f], s4) = (lj ++ [(figW E T s6).1], (figW E T s6).2)) := by show _ = _; rw [dotsA, HLJ.out, ← HS6.out]
          go_wp2_with fail
          go_roundw
          case rel => exact ⟨j + 1, by omega, by go_num, x_o, x_n, x_m, by rw [HNX.out]; exact CS.out⟩
          case measure => simp [intOf]; omega
        · obtain rfl : j = 3 := by omega
          have hlt' : ¬ ((3 : Nat) : Int) < 3 := by decide
          have HDW : Hid (dotsW E T 3 s4 = ((dotsW E T 3 s4).1, sj)) := by
            show _ = _
            have := dots_A E T 3 [f] s4
            rw [HLJ.out] at this
            rw [(Prod.mk.inj this).2]
          have HL3 : Hid ([f] ++ (dotsW E T 3 s4).1 = lj) := by
            show _ = _
            have := dots_A E T 3 [f] s4
            rw [HLJ.out] at this
            exact (Prod.mk.inj this).1.symm
          clear hlt
          go_wp2_with fail
          have f0 := tok_f0 (nx E T sj)
          refine (CN.out _ sj CS.out.wk).mono ?_
          rintro e WF ⟨rfl, hbF⟩
          replace CS : Hid (Cst W0 w WF g E Lv k t ⟨t.text, (t.pos : Int), lj, false, false⟩ (.slice jo jn jm) sj) := CS.out.below hbF
          clear hbF
          by_cases hk4 : (nx E T sj).kind = 4
          · have hk' : (((nx E T sj).kind : Int) == 4) = true := by simp; omega
            have KK : Hid ((nx E T sj).kind = 4) := hk4
            have CG := CS.out.flag 3 ⟨t.text, (t.pos : Int), lj, true, false⟩ rfl rfl
            have CH := CG.step
            obtain ⟨_, g1, _, _, _, gz⟩ := wk_cells CG.wk
            have gz1 := gz 1
            have c3 : WF.cell? ⟨k + 1, 3, none⟩ = some (.bool false) := by rw [cell_of_row _ _ _ _ _ _ CS.out.cl]; rfl
            have f3 : WF.frozen? ⟨k + 1, 3, none⟩ = false := tc_frozen CS.out.cl rfl
            have HCH : Hid (Cst W0 w ((WF.setCell ⟨k + 1, 3, none⟩ (.bool true)).setCell ⟨g, 1, none⟩ (.int .i64 ((sj.i : Int) + 1))) g E Lv k t ⟨t.text, (t.pos : Int), lj, true, false⟩ (.slice jo jn jm) (stepW sj)) := CH
            have hsi5 : (stepW sj).i ≤ 6000 := by show sj.i + 1 ≤ _; omega
            clear CG CH gz hk4
            go_wp2_with fail
            obtain ⟨WG, hWG⟩ : ∃ W', W' = ((WF.setCell ⟨k + 1, 3, none⟩ (.bool true)).setCell ⟨g, 1, none⟩ (.int .i64 ((sj.i : Int) + 1))) := ⟨_, rfl⟩
            rw [← hWG] at HCH ⊢
            replace CS : Hid (Cst W0 w WG g E Lv k t ⟨t.text, (t.pos : Int), lj, true, false⟩ (.slice jo jn jm) (stepW sj)) := HCH.out
            clear HCH hWG g1 gz1 c3 f3
            refine ref22_region (Nat.le_of_ble_eq_true rfl) g (k + 1) rfl rfl _ CS.out.cl (.slice jo jn jm) rfl (by have := CS.out.hk; have := CS.out.hg; omega) (lj) w.heap.size CS.out.own hjl (Nat.le_of_lt (Nat.lt_trans CS.out.hk (Nat.lt_of_succ_lt CS.out.size))) CS.out.hg.2 (figW E T (stepW sj)).1 (fun w' => Wk W0 w' g E Lv (figW E T (stepW sj)).2) ?_ ?_
            · refine (CF.out _ (stepW sj) (by omega) (CS.out.wk.below (Below.refl _ _).drew)).mono ?_
              rintro e w' ⟨rfl, hg', hw'⟩
              exact ⟨rfl, hg', hw'⟩
            rintro a' w5 w6 v' ⟨y0, y1, y2, y3, y4, y5, y6, rfl⟩ hD hg5 hgr6 hown6 hp6
            simp only [Act.put, List.setIfInBounds_toArray, List.set_cons_succ, List.set_cons_zero]
            have CX := CS.out.app hg5 hD hgr6 hown6 hp6
            obtain ⟨z_o, z_n, z_m, rfl⟩ := CX.slice
            obtain ⟨WH, hWnew⟩ : ∃ W', W' = w6.setCell ⟨k + 1, 2, none⟩ (.slice z_o z_n z_m) := ⟨_, rfl⟩
            rw [← hWnew] at CX ⊢
            replace CS : Hid (Cst W0 w WH g E Lv k t ⟨t.text, (t.pos : Int), lj ++ [(figW E T (stepW sj)).1], true, false⟩ (.slice z_o z_n z_m) (figW E T (stepW sj)).2) := CX
            clear CX hWnew hD hg5 hgr6 hown6 hp6
            go_wp2_with (first
              | (refine wl_loadE (E := ClaE) ClaOk rfl _ rfl (k + 1) 0 rfl _ _ _ (claV ⟨t.text, (t.pos : Int), lj ++ [(figW E T (stepW sj)).1], true, false⟩ (.slice z_o z_n z_m)) rfl CS.out.cl (own_cells _ _) ?_)
              | (refine wl_storeE (E := ClaE) ClaOk rfl _ _ rfl w.heap.size (claV ⟨t.text, (t.pos : Int), lj ++ [(figW E T (stepW sj)).1], true, false⟩ (.slice z_o z_n z_m)) (cla_fits _ _ ⟨_, _, _, rfl⟩) rfl rfl _ CS.out.r0 rfl _ rfl ?_))
            refine retE (E := ClaE) ClaOk rfl rfl w.heap.size rfl (claV ⟨t.text, (t.pos : Int), lj ++ [(figW E T (stepW sj)).1], true, false⟩ (.slice z_o z_n z_m)) rfl (setRow_heap _ _ _ _ _ _ CS.out.r0) ?_
            have HRR : Hid (R = (⟨t.text, (t.pos : Int), lj ++ [(figW E T (stepW sj)).1], true, false⟩, (figW E T (stepW sj)).2)) := by show _ = _; rw [HR.out, cw_addr4 HAD.out.1 HAD.out.2 (by rw [HF.out]; rw [HDW.out]; exact KK.out), HF.out, ← HT.out]; rw [HDW.out, HL3.out]
            rw [HRR.out]
            exact ⟨_, rfl, own_setRow CS.out.own CS.out.r0 (by decide) _, gb_setRow CS.out.gr (.inr (Nat.le_refl _)) _, wk_setRow CS.out.wk (by omega) (by omega) _⟩
          · have hk' : (((nx E T sj).kind : Int) == 4) = false := by simp; omega
            have KK : Hid (¬ (nx E T sj).kind = 4) := hk4
            clear hk4
            go_wp2_with (first
              | (refine wl_loadE (E := ClaE) ClaOk rfl _ rfl (k + 1) 0 rfl _ _ _ (claV ⟨t.text, (t.pos : Int), lj, false, false⟩ (.slice jo jn jm)) rfl CS.out.cl (own_cells _ _) ?_)
              | (refine wl_storeE (E := ClaE) ClaOk rfl _ _ rfl w.heap.size (claV ⟨t.text, (t.pos : Int), lj, false, false⟩ (.slice jo jn jm)) (cla_fits _ _ ⟨_, _, _, rfl⟩) rfl rfl _ CS.out.r0 rfl _ rfl ?_))
            refine retE (E := ClaE) ClaOk rfl rfl w.heap.size rfl (claV ⟨t.text, (t.pos : Int), lj, false, false⟩ (.slice jo jn jm)) rfl (setRow_heap _ _ _ _ _ _ CS.out.r0) ?_
            have HRR : Hid (R = (⟨t.text, (t.pos : Int), lj, false, false⟩, sj)) := by show _ = _; rw [HR.out, cw_addrN HAD.out.1 HAD.out.2 (by rw [HF.out]; rw [HDW.out]; exact KK.out), HF.out, ← HT.out]; rw [HDW.out, HL3.out]
            rw [HRR.out]
            exact ⟨_, rfl, own_setRow CS.out.own CS.out.r0 (by decide) _, gb_setRow CS.out.gr (.inr (Nat.le_refl _)) _, wk_setRow CS.out.wk (by omega) (by omega) _⟩

set_option maxHeartbeats 8000000 in
set_option maxRecDepth 10000 in
theorem rclause_dst (W0 w : World) (g E : Nat) (Lv : Value) (T : List Tok) (hL : GSl TokE encT W0 Lv T) (had : List Cla) (hv : Value) (Bh : Nat) (s : Ws) (hi : s.i ≤ 5900) (ht : (nx E T s).text = wDst) (hBh : g < Bh) (hh : ClasOwn Bh w had hv) (hhl : had.length ≤ 5000) (h : Wk W0 w g E Lv s) :
    Calls Tryd.prog 74 #[.pointer (some ⟨g, 0, none⟩), hv] w fun e w' => ∃ u, e = .returned (.agg (claV (clauseW E T had s).1 u)) ∧ w'.ownsRow w.heap.size 48 2 u (clauseW E T had s).1.nums.length (gcells figV (clauseW E T had s).1.nums) ∧ w.grownBy w' (some g) ∧ Wk W0 w' g E Lv (clauseW E T had s).2 := by
  have CN : Hid (∀ W s, Wk W0 W g E Lv s → Calls Tryd.prog 71 #[.pointer (some ⟨g, 0, none⟩)] W fun e w' => e = .returned (.agg (encT (nx E T s))) ∧ Below W.heap.size W w') := fun W s h => next_any W0 W g E Lv T hL s h
  have CW8 : Hid (∀ W s, Wk W0 W g E Lv s → Calls Tryd.prog 45 #[.pointer (some ⟨g, 0, none⟩), .int .i64 8] W fun e' w' => e' = .returned (.tuple #[]) ∧ W.grownBy w' (some g) ∧ Wk W0 w' g E Lv (wrong E T 8 s)) := fun W s h => wrong_any W0 W g E Lv T hL 8 s h
  have CW9 : Hid (∀ W s, Wk W0 W g E Lv s → Calls Tryd.prog 45 #[.pointer (some ⟨g, 0, none⟩), .int .i64 9] W fun e' w' => e' = .returned (.tuple #[]) ∧ W.grownBy w' (some g) ∧ Wk W0 w' g E Lv (wrong E T 9 s)) := fun W s h => wrong_any W0 W g E Lv T hL 9 s h
  have CF : Hid (∀ W s, s.i ≤ 6000 → Wk W0 W g E Lv s → Calls Tryd.prog 73 #[.pointer (some ⟨g, 0, none⟩)] W fun e' w' => e' = .returned (.agg (figV (figW E T s).1)) ∧ W.grownBy w' (some g) ∧ Wk W0 w' g E Lv (figW E T s).2) := fun W s hi h => figure_any6 W0 W g E Lv T hL s hi h
  have CK : Hid (∀ W s, s.i ≤ 6000 → Wk W0 W g E Lv s → Calls Tryd.prog 75 #[.pointer (some ⟨g, 0, none⟩), .int .i64 3] W fun e' w' => e' = .returned (.agg (encT (kindW E T 3 s).1)) ∧ W.grownBy w' (some g) ∧ Wk W0 w' g E Lv (kindW E T 3 s).2) := fun W s hi h => kind_any6 W0 W g E Lv T hL 3 s hi h
  have hgl := h.size
  obtain ⟨R, hR⟩ : ∃ R, R = clauseW E T had s := ⟨_, rfl⟩
  rw [← hR]
  have HR : Hid (R = clauseW E T had s) := hR
  obtain ⟨t, hnt⟩ : ∃ t, t = nx E T s := ⟨_, rfl⟩
  rw [← hnt] at ht
  have HT : Hid (t = nx E T s) := hnt
  have e0 : (t.text == [115, 114, 99]) = false := by rw [ht]; rfl
  have e1 : (t.text == [100, 115, 116]) = true := by rw [ht]; rfl
  have e2 : (t.text == [115, 112, 111, 114, 116]) = false := by rw [ht]; rfl
  have e3 : (t.text == [100, 112, 111, 114, 116]) = false := by rw [ht]; rfl
  have e4 : (t.text == [112, 114, 111, 116, 111]) = false := by rw [ht]; rfl
  have e5 : (t.text != [112, 114, 111, 116, 111]) = true := by rw [ht]; rfl
  have H : Hid (Wk W0 w g E Lv s) := h
  have HH : Hid (ClasOwn Bh w had hv) := hh
  have HTX : Hid (_ ∧ True) := ⟨ht, trivial⟩
  clear h hR hh hL hnt ht
  go_enter Tryd.func74, Tryd.ntmps74
  go_wp2_with fail
  refine (CN.out _ s (H.out.alloc _)).mono ?_
  rw [← HT.out]
  rintro e w1 ⟨rfl, hb1⟩
  have B1 : Below w.heap.size w w1 := ((Below.refl _ _).alloc (Nat.le_refl _) _).trans (hb1.mono (by simp))
  have z1 : w.heap.size < w1.heap.size := by have := hb1.size; simp at this; omega
  have C0 : Cst W0 w ((w1.alloc (.cells (encT t) 90)).alloc (.cells (claV ⟨t.text, (t.pos : Int), [], false, false⟩ (.slice none 0 0)) 54)) g E Lv w1.heap.size t ⟨t.text, (t.pos : Int), [], false, false⟩ (.slice none 0 0) s :=
    ⟨((H.out.below B1).alloc _).alloc _, gb_alloc (gb_alloc (grown_below B1) _) _, heap_past _ _ _ _ (heap_new _ _ _ rfl), heap_new _ _ _ (by simp), heap_past _ _ _ _ (heap_past _ _ _ _ ((hb1.block _ (by simp)).trans (heap_new _ _ _ rfl))), World.ownsRow_nil _ _ _ _, z1, hgl⟩
  have q1 := tok_cells (heap_new w1 (.cells (encT t) 90) _ rfl)
  have q2 := fun x => tok_cells (heap_past _ x _ _ (heap_new w1 (.cells (encT t) 90) _ rfl))
  have t1 := q1.2.1
  have t2 := q1.2.2.1
  have t5 := fun x => (q2 x).2.1
  have t6 := fun x => (q2 x).2.2.1
  obtain ⟨k, hk⟩ : ∃ k, k = w1.heap.size := ⟨_, rfl⟩
  obtain ⟨WA, hWA⟩ : ∃ WA, WA = ((w1.alloc (.cells (encT t) 90)).alloc (.cells (claV ⟨t.text, (t.pos : Int), [], false, false⟩ (.slice none 0 0)) 54)) := ⟨_, rfl⟩
  rw [← hWA] at C0
  have HWA : Hid (WA = ((w1.alloc (.cells (encT t) 90)).alloc (.cells (claV ⟨t.text, (t.pos : Int), [], false, false⟩ (.slice none 0 0)) 54)) ∧ k = w1.heap.size) := ⟨hWA, hk⟩
  have CS : Hid (Cst W0 w WA g E Lv k t ⟨t.text, (t.pos : Int), [], false, false⟩ (.slice none 0 0) s) := by rw [hk]; exact C0
  have hbw : Below w.heap.size w w1 := B1
  have HHA : Hid (ClasOwn Bh WA had hv) := by show ClasOwn _ _ _ _; rw [hWA]; exact ((HH.out.below hbw).below ((Below.refl _ _).alloc (Nat.le_refl _) _)).below ((Below.refl _ _).alloc (Nat.le_refl _) _)
  clear q1 q2 hb1 B1 C0 hWA hk hbw
  go_wp2_with (first
    | (refine wl_storeE (E := TokE) TokOk rfl _ _ rfl w1.heap.size (encT t) (tv_fits _ _ _ _) rfl rfl _ (heap_new _ _ _ rfl) rfl _ (setRow_new _ _ _ _ _ rfl) ?_)
    | (refine wl_storeE (E := ClaE) ClaOk rfl _ _ rfl (w1.heap.size + 1) (claV ⟨t.text, (t.pos : Int), [], false, false⟩ (.slice none 0 0)) (cla_fits _ _ ⟨_, _, _, rfl⟩) rfl rfl _ (heap_new _ _ _ (by simp)) rfl _ (setRow_new _ _ _ _ _ (by simp)) ?_))
  rw [← HWA.out.1, ← HWA.out.2]
  clear t1 t2 t5 t6
  obtain ⟨oh, caph, rfl, hch, hcm⟩ := NSl.slice (NOwn.sl (fun _ _ => rfl) HHA.out)
  unfold maxLen at hcm
  obtain ⟨nh, hnh⟩ : ∃ nh, nh = had.length := ⟨_, rfl⟩
  have HNH : Hid (nh = had.length) := hnh
  rw [← hnh] at hhl hch HHA ⊢
  clear hnh
  have hsi : (s).i = s.i := by first | rfl | exact wrong_i E T 8 s
  go_loopw [9] (fun x wr => ∃ j : Nat, j ≤ nh ∧ x = .int .i64 (j : Int) ∧ Cst W0 w wr g E Lv k t ⟨t.text, (t.pos : Int), [], false, false⟩ (.slice none 0 0) (hadS E T (had.take j) t.text s) ∧ ClasOwn Bh wr had (.slice oh nh caph)) (fun x _ => nh - (intOf x).toNat)
  case atStart => exact ⟨0, Nat.zero_le _, rfl, CS.out, HHA.out⟩
  case round =>
    obtain ⟨j, hj, rfl, C1, hcl⟩ := hrel
    clear CS HHA
    by_cases hlt : j < nh
    · obtain ⟨g2, off2, cur2, ty2, fr2, c2, u2, rfl, hg2, hc2, hCj, _⟩ := NSl.at (NOwn.sl (fun _ _ => rfl) hcl) j hlt
      have l0 : ∀ u : Later wr, u.world.cell? ⟨g2, off2 + j * 5, none⟩ = some (.string ⟨c2.word.toArray⟩) := later_cell6 hg2 (hc2 0 (by decide))
      have l1 : ∀ u : Later wr, u.world.cell? ⟨k, 2, none⟩ = some (.string ⟨t.text.toArray⟩) := later_cell6 C1.tok rfl
      have CS : Hid (Cst W0 w wr g E Lv k t ⟨t.text, (t.pos : Int), [], false, false⟩ (.slice none 0 0) (hadS E T (had.take j) t.text s)) := C1
      have HCL : Hid (ClasOwn Bh wr had (.slice (some ⟨g2, off2, none⟩) nh caph)) := hcl
      have HCJ : Hid (had[j]? = some c2) := hCj
      have hlt' : (j : Int) < (nh : Int) := by omega
      clear C1 hcl hg2 hc2 hCj
      go_wp2_with fail
      have ne1 := Later.ne wr
      refine wp_region_later (by kernel_rfl) (by kernel_rfl) ?_
      repeat first | (go_big_quiet_step (rfl)) | (refine q_nil rfl _ rfl _ rfl ?_; simp only [Act.put, List.setIfInBounds_toArray, List.set_cons_succ, List.set_cons_zero])
      refine wpQuiet_nil ?_
      rintro w' ⟨u, rfl⟩
      have CS2 := CS.out.below u.below
      have HCL2 := HCL.out.below u.below
      obtain ⟨W1, hW1⟩ : ∃ W1, W1 = u.world := ⟨_, rfl⟩
      rw [← hW1] at CS2 HCL2 ⊢
      clear l0 l1 ne1 hW1 CS HCL
      have CS : Hid (Cst W0 w W1 g E Lv k t ⟨t.text, (t.pos : Int), [], false, false⟩ (.slice none 0 0) (hadS E T (had.take j) t.text s)) := CS2
      have HCL : Hid (ClasOwn Bh W1 had (.slice (some ⟨g2, off2, none⟩) nh caph)) := HCL2
      clear CS2 HCL2
      by_cases hq : (c2.word == t.text) = true
      · have HS : Hid (hadS E T (had.take (j + 1)) t.text s = wrong E T 9 (hadS E T (had.take j) t.text s)) := hadS_yes HCJ.out hq
        rw [hq]
        clear hq
        go_wp2_with fail
        refine (CW9.out _ _ CS.out.wk).mono ?_
        rintro e W2 ⟨rfl, hg9, hw9⟩
        have CS2 : Hid (Cst W0 w W2 g E Lv k t ⟨t.text, (t.pos : Int), [], false, false⟩ (.slice none 0 0) (hadS E T (had.take (j + 1)) t.text s)) := by show Cst _ _ _ _ _ _ _ _ _ _ _; rw [HS.out]; exact CS.out.by hg9 hw9
        have HCL2 : Hid (ClasOwn Bh W2 had (.slice (some ⟨g2, off2, none⟩) nh caph)) := HCL.out.by hg9 hBh
        clear hg9 hw9
        go_wp2_with fail
        go_roundw
        case rel => exact ⟨j + 1, by omega, by go_num, CS2.out, HCL2.out⟩
        case measure => simp [intOf]; omega
      · have hq' : (c2.word == t.text) = false := by simpa using hq
        have HS : Hid (hadS E T (had.take (j + 1)) t.text s = hadS E T (had.take j) t.text s) := hadS_no HCJ.out hq'
        rw [hq']
        clear hq hq'
        go_wp2_with fail
        go_roundw
        case rel => exact ⟨j + 1, by omega, by go_num, by rw [HS.out]; exact CS.out, HCL.out⟩
        case measure => simp [intOf]; omega
    · have hlt' : (nh : Int) ≤ (j : Int) := by omega
      have hjl : had.take j = had := List.take_of_length_le (by have := HNH.out; omega)
      rw [hjl] at C1
      obtain ⟨s2, hs2⟩ : ∃ s2, s2 = hadS E T had t.text s := ⟨_, rfl⟩
      rw [← hs2] at C1
      have HHD : Hid (headW E T had s = stepW s2) := by
        show _ = _
        rw [hs2, HT.out]
        exact head_ok (by rw [← HT.out]; rw [HTX.out.1]; rfl)
      have h2i : s2.i ≤ 5900 := by rw [hs2, hadS_i, hsi]; exact hi
      obtain ⟨_, c1, _, _, _, fz⟩ := wk_cells C1.wk
      have f1 := fz 1
      have CS : Hid (Cst W0 w wr g E Lv k t ⟨t.text, (t.pos : Int), [], false, false⟩ (.slice none 0 0) s2) := C1
      clear C1 hcl hlt hjl hs2 fz
      go_wp2_with fail
      have CX := CS.out.step
      obtain ⟨WC, hWC⟩ : ∃ W', W' = wr.setCell ⟨g, 1, none⟩ (.int .i64 ((s2.i : Int) + 1)) := ⟨_, rfl⟩
      rw [← hWC] at CX ⊢
      replace CS : Hid (Cst W0 w WC g E Lv k t ⟨t.text, (t.pos : Int), [], false, false⟩ (.slice none 0 0) (stepW s2)) := CX
      obtain ⟨s3, hs3⟩ : ∃ s3, s3 = stepW s2 := ⟨_, rfl⟩
      rw [← hs3] at CS HHD
      have h3i : s3.i ≤ 5901 := by rw [hs3]; show s2.i + 1 ≤ _; omega
      clear CX hWC hs3 c1 f1
      refine ref13_region (Nat.le_of_ble_eq_true rfl) g (k + 1) rfl rfl _ CS.out.cl (.slice none 0 0) rfl (by have := CS.out.hk; have := CS.out.hg; omega) ([]) w.heap.size CS.out.own (by simp; try omega) (Nat.le_of_lt (Nat.lt_trans CS.out.hk (Nat.lt_of_succ_lt CS.out.size))) CS.out.hg.2 (figW E T s3).1 (fun w' => Wk W0 w' g E Lv (figW E T s3).2) ?_ ?_
      · refine (CF.out _ s3 (by omega) (CS.out.wk.below (Below.refl _ _).drew)).mono ?_
        rintro e w' ⟨rfl, hg', hw'⟩
        exact ⟨rfl, hg', hw'⟩
      rintro a' w5 w6 v' ⟨y0, y1, y2, y3, y4, y5, y6, rfl⟩ hD hg5 hgr6 hown6 hp6
      simp only [Act.put, List.setIfInBounds_toArray, List.set_cons_succ, List.set_cons_zero]
      have CX := CS.out.app hg5 hD hgr6 hown6 hp6
      obtain ⟨d_o, d_n, d_m, rfl⟩ := CX.slice
      obtain ⟨WD, hWnew⟩ : ∃ W', W' = w6.setCell ⟨k + 1, 2, none⟩ (.slice d_o d_n d_m) := ⟨_, rfl⟩
      rw [← hWnew] at CX ⊢
      replace CS : Hid (Cst W0 w WD g E Lv k t ⟨t.text, (t.pos : Int), [] ++ [(figW E T s3).1], false, false⟩ (.slice d_o d_n d_m) (figW E T s3).2) := CX
      clear CX hWnew hD hg5 hgr6 hown6 hp6
      replace CS : Hid (Cst W0 w WD g E Lv k t ⟨t.text, (t.pos : Int), [(figW E T s3).1], false, false⟩ (.slice d_o d_n d_m) (figW E T s3).2) := CS.out
      obtain ⟨f, s4, hF⟩ : ∃ f s4, figW E T s3 = (f, s4) := ⟨_, _, rfl⟩
      have h4i : s4.i ≤ 5902 := by have := fig_i E T s3; rw [hF] at this; show s4.i ≤ _; have h' : s4.i = s3.i + 1 := this; omega
      rw [hF] at CS
      have HF : Hid (figW E T (headW E T had s) = (f, s4)) := by show _ = _; rw [HHD.out]; exact hF
      replace CS : Hid (Cst W0 w WD g E Lv k t ⟨t.text, (t.pos : Int), [f], false, false⟩ (.slice d_o d_n d_m) s4) := CS.out
      have HAD : Hid (isAddrW (nx E T s).text = true ∧ isPortW (nx E T s).text = false) := by show _ ∧ _; rw [← HT.out]; rw [HTX.out.1]; exact ⟨rfl, rfl⟩
      clear hF HHD HNH h2i h3i hsi e0 e1 e2 e3 e4 e5
      go_wp2_with fail
      go_loopw [10] (fun x wr => ∃ j : Nat, j ≤ 3 ∧ x = .int .i64 (j : Int) ∧ ∃ o n m, Cst W0 w wr g E Lv k t ⟨t.text, (t.pos : Int), (dotsA E T j ([f], s4)).1, false, false⟩ (.slice o n m) (dotsA E T j ([f], s4)).2) (fun x _ => 3 - (intOf x).toNat)
      case atStart => exact ⟨0, by omega, rfl, _, _, _, CS.out⟩
      case round =>
        obtain ⟨j, hj, rfl, jo, jn, jm, C2⟩ := hrel
        clear CS
        have hdi := dotsA_i E T j [f] s4
        obtain ⟨lj, sj, hlj⟩ : ∃ lj sj, dotsA E T j ([f], s4) = (lj, sj) := ⟨_, _, rfl⟩
        have HLJ : Hid (dotsA E T j ([f], s4) = (lj, sj)) := hlj
        rw [hlj] at C2 hdi
        simp only [List.length_cons, List.length_nil] at hdi
        have CS : Hid (Cst W0 w wr g E Lv k t ⟨t.text, (t.pos : Int), lj, false, false⟩ (.slice jo jn jm) sj) := C2
        have hji : sj.i ≤ 5910 := by omega
        have hjl : lj.length ≤ 1000 := by omega
        clear C2 hlj hdi
        by_cases hlt : j < 3
        · have hlt' : (j : Int) < 3 := by omega
          go_wp2_with fail
          refine (CK.out _ sj (by omega) CS.out.wk).mono ?_
          rintro e WE ⟨rfl, hgE, hwE⟩
          obtain ⟨s6, hs6⟩ : ∃ s6, s6 = (kindW E T 3 sj).2 := ⟨_, rfl⟩
          have h6i : s6.i ≤ 5911 := by rw [hs6, kind_i]; omega
          rw [← hs6] at hwE
          have HS6 : Hid (s6 = (kindW E T 3 sj).2) := hs6
          replace CS : Hid (Cst W0 w WE g E Lv k t ⟨t.text, (t.pos : Int), lj, false, false⟩ (.slice jo jn jm) s6) := CS.out.by hgE hwE
          clear hgE hwE hs6
          go_wp2_with fail
          refine ref18_region (Nat.le_of_ble_eq_true rfl) g (k + 1) rfl rfl _ CS.out.cl (.slice jo jn jm) rfl (by have := CS.out.hk; have := CS.out.hg; omega) (lj) w.heap.size CS.out.own hjl (Nat.le_of_lt (Nat.lt_trans CS.out.hk (Nat.lt_of_succ_lt CS.out.size))) CS.out.hg.2 (figW E T s6).1 (fun w' => Wk W0 w' g E Lv (figW E T s6).2) ?_ ?_
          · refine (CF.out _ s6 (by omega) (CS.out.wk.below (Below.refl _ _).drew)).mono ?_
            rintro e w' ⟨rfl, hg', hw'⟩
            exact ⟨rfl, hg', hw'⟩
          rintro a' w5 w6 v' ⟨y0, y1, y2, y3, y4, y5, y6, rfl⟩ hD hg5 hgr6 hown6 hp6
          simp only [Act.put, List.setIfInBounds_toArray, List.set_cons_succ, List.set_cons_zero]
          have CX := CS.out.app hg5 hD hgr6 hown6 hp6
          obtain ⟨x_o, x_n, x_m, rfl⟩ := CX.slice
          obtain ⟨WX, hWnew⟩ : ∃ W', W' = w6.setCell ⟨k + 1, 2, none⟩ (.slice x_o x_n x_m) := ⟨_, rfl⟩
          rw [← hWnew] at CX ⊢
          replace CS : Hid (Cst W0 w WX g E Lv k t ⟨t.text, (t.pos : Int), lj ++ [(figW E T s6).1], false, false⟩ (.slice x_o x_n x_m) (figW E T s6).2) := CX
          clear CX hWnew hD hg5 hgr6 hown6 hp6
          have HNX : Hid (dotsA E T (j + 1) ([f], s4) = (lj ++ [(figW E T s6).1], (figW E T s6).2)) := by show _ = _; rw [dotsA, HLJ.out, ← HS6.out]
          go_wp2_with fail
          go_roundw
          case rel => exact ⟨j + 1, by omega, by go_num, x_o, x_n, x_m, by rw [HNX.out]; exact CS.out⟩
          case measure => simp [intOf]; omega
        · obtain rfl : j = 3 := by omega
          have hlt' : ¬ ((3 : Nat) : Int) < 3 := by decide
          have HDW : Hid (dotsW E T 3 s4 = ((dotsW E T 3 s4).1, sj)) := by
            show _ = _
            have := dots_A E T 3 [f] s4
            rw [HLJ.out] at this
            rw [(Prod.mk.inj this).2]
          have HL3 : Hid ([f] ++ (dotsW E T 3 s4).1 = lj) := by
            show _ = _
            have := dots_A E T 3 [f] s4
            rw [HLJ.out] at this
            exact (Prod.mk.inj this).1.symm
          clear hlt
          go_wp2_with fail
          have f0 := tok_f0 (nx E T sj)
          refine (CN.out _ sj CS.out.wk).mono ?_
          rintro e WF ⟨rfl, hbF⟩
          replace CS : Hid (Cst W0 w WF g E Lv k t ⟨t.text, (t.pos : Int), lj, false, false⟩ (.slice jo jn jm) sj) := CS.out.below hbF
          clear hbF
          by_cases hk4 : (nx E T sj).kind = 4
          · have hk' : (((nx E T sj).kind : Int) == 4) = true := by simp; omega
            have KK : Hid ((nx E T sj).kind = 4) := hk4
            have CG := CS.out.flag 3 ⟨t.text, (t.pos : Int), lj, true, false⟩ rfl rfl
            have CH := CG.step
            obtain ⟨_, g1, _, _, _, gz⟩ := wk_cells CG.wk
            have gz1 := gz 1
            have c3 : WF.cell? ⟨k + 1, 3, none⟩ = some (.bool false) := by rw [cell_of_row _ _ _ _ _ _ CS.out.cl]; rfl
            have f3 : WF.frozen? ⟨k + 1, 3, none⟩ = false := tc_frozen CS.out.cl rfl
            have HCH : Hid (Cst W0 w ((WF.setCell ⟨k + 1, 3, none⟩ (.bool true)).setCell ⟨g, 1, none⟩ (.int .i64 ((sj.i : Int) + 1))) g E Lv k t ⟨t.text, (t.pos : Int), lj, true, false⟩ (.slice jo jn jm) (stepW sj)) := CH
            have hsi5 : (stepW sj).i ≤ 6000 := by show sj.i + 1 ≤ _; omega
            clear CG CH gz hk4
            go_wp2_with fail
            obtain ⟨WG, hWG⟩ : ∃ W', W' = ((WF.setCell ⟨k + 1, 3, none⟩ (.bool true)).setCell ⟨g, 1, none⟩ (.int .i64 ((sj.i : Int) + 1))) := ⟨_, rfl⟩
            rw [← hWG] at HCH ⊢
            replace CS : Hid (Cst W0 w WG g E Lv k t ⟨t.text, (t.pos : Int), lj, true, false⟩ (.slice jo jn jm) (stepW sj)) := HCH.out
            clear HCH hWG g1 gz1 c3 f3
            refine ref22_region (Nat.le_of_ble_eq_true rfl) g (k + 1) rfl rfl _ CS.out.cl (.slice jo jn jm) rfl (by have := CS.out.hk; have := CS.out.hg; omega) (lj) w.heap.size CS.out.own hjl (Nat.le_of_lt (Nat.lt_trans CS.out.hk (Nat.lt_of_succ_lt CS.out.size))) CS.out.hg.2 (figW E T (stepW sj)).1 (fun w' => Wk W0 w' g E Lv (figW E T (stepW sj)).2) ?_ ?_
            · refine (CF.out _ (stepW sj) (by omega) (CS.out.wk.below (Below.refl _ _).drew)).mono ?_
              rintro e w' ⟨rfl, hg', hw'⟩
              exact ⟨rfl, hg', hw'⟩
            rintro a' w5 w6 v' ⟨y0, y1, y2, y3, y4, y5, y6, rfl⟩ hD hg5 hgr6 hown6 hp6
            simp only [Act.put, List.setIfInBounds_toArray, List.set_cons_succ, List.set_cons_zero]
            have CX := CS.out.app hg5 hD hgr6 hown6 hp6
            obtain ⟨z_o, z_n, z_m, rfl⟩ := CX.slice
            obtain ⟨WH, hWnew⟩ : ∃ W', W' = w6.setCell ⟨k + 1, 2, none⟩ (.slice z_o z_n z_m) := ⟨_, rfl⟩
            rw [← hWnew] at CX ⊢
            replace CS : Hid (Cst W0 w WH g E Lv k t ⟨t.text, (t.pos : Int), lj ++ [(figW E T (stepW sj)).1], true, false⟩ (.slice z_o z_n z_m) (figW E T (stepW sj)).2) := CX
            clear CX hWnew hD hg5 hgr6 hown6 hp6
            go_wp2_with (first
              | (refine wl_loadE (E := ClaE) ClaOk rfl _ rfl (k + 1) 0 rfl _ _ _ (claV ⟨t.text, (t.pos : Int), lj ++ [(figW E T (stepW sj)).1], true, false⟩ (.slice z_o z_n z_m)) rfl CS.out.cl (own_cells _ _) ?_)
              | (refine wl_storeE (E := ClaE) ClaOk rfl _ _ rfl w.heap.size (claV ⟨t.text, (t.pos : Int), lj ++ [(figW E T (stepW sj)).1], true, false⟩ (.slice z_o z_n z_m)) (cla_fits _ _ ⟨_, _, _, rfl⟩) rfl rfl _ CS.out.r0 rfl _ rfl ?_))
            refine retE (E := ClaE) ClaOk rfl rfl w.heap.size rfl (claV ⟨t.text, (t.pos : Int), lj ++ [(figW E T (stepW sj)).1], true, false⟩ (.slice z_o z_n z_m)) rfl (setRow_heap _ _ _ _ _ _ CS.out.r0) ?_
            have HRR : Hid (R = (⟨t.text, (t.pos : Int), lj ++ [(figW E T (stepW sj)).1], true, false⟩, (figW E T (stepW sj)).2)) := by show _ = _; rw [HR.out, cw_addr4 HAD.out.1 HAD.out.2 (by rw [HF.out]; rw [HDW.out]; exact KK.out), HF.out, ← HT.out]; rw [HDW.out, HL3.out]
            rw [HRR.out]
            exact ⟨_, rfl, own_setRow CS.out.own CS.out.r0 (by decide) _, gb_setRow CS.out.gr (.inr (Nat.le_refl _)) _, wk_setRow CS.out.wk (by omega) (by omega) _⟩
          · have hk' : (((nx E T sj).kind : Int) == 4) = false := by simp; omega
            have KK : Hid (¬ (nx E T sj).kind = 4) := hk4
            clear hk4
            go_wp2_with (first
              | (refine wl_loadE (E := ClaE) ClaOk rfl _ rfl (k + 1) 0 rfl _ _ _ (claV ⟨t.text, (t.pos : Int), lj, false, false⟩ (.slice jo jn jm)) rfl CS.out.cl (own_cells _ _) ?_)
              | (refine wl_storeE (E := ClaE) ClaOk rfl _ _ rfl w.heap.size (claV ⟨t.text, (t.pos : Int), lj, false, false⟩ (.slice jo jn jm)) (cla_fits _ _ ⟨_, _, _, rfl⟩) rfl rfl _ CS.out.r0 rfl _ rfl ?_))
            refine retE (E := ClaE) ClaOk rfl rfl w.heap.size rfl (claV ⟨t.text, (t.pos : Int), lj, false, false⟩ (.slice jo jn jm)) rfl (setRow_heap _ _ _ _ _ _ CS.out.r0) ?_
            have HRR : Hid (R = (⟨t.text, (t.pos : Int), lj, false, false⟩, sj)) := by show _ = _; rw [HR.out, cw_addrN HAD.out.1 HAD.out.2 (by rw [HF.out]; rw [HDW.out]; exact KK.out), HF.out, ← HT.out]; rw [HDW.out, HL3.out]
            rw [HRR.out]
            exact ⟨_, rfl, own_setRow CS.out.own CS.out.r0 (by decide) _, gb_setRow CS.out.gr (.inr (Nat.le_refl _)) _, wk_setRow CS.out.wk (by omega) (by omega) _⟩

set_option maxHeartbeats 8000000 in
set_option maxRecDepth 10000 in
theorem rclause_sport (W0 w : World) (g E : Nat) (Lv : Value) (T : List Tok) (hL : GSl TokE encT W0 Lv T) (had : List Cla) (hv : Value) (Bh : Nat) (s : Ws) (hi : s.i ≤ 5900) (ht : (nx E T s).text = wSport) (hBh : g < Bh) (hh : ClasOwn Bh w had hv) (hhl : had.length ≤ 5000) (h : Wk W0 w g E Lv s) :
    Calls Tryd.prog 74 #[.pointer (some ⟨g, 0, none⟩), hv] w fun e w' => ∃ u, e = .returned (.agg (claV (clauseW E T had s).1 u)) ∧ w'.ownsRow w.heap.size 48 2 u (clauseW E T had s).1.nums.length (gcells figV (clauseW E T had s).1.nums) ∧ w.grownBy w' (some g) ∧ Wk W0 w' g E Lv (clauseW E T had s).2 := by
  have CN : Hid (∀ W s, Wk W0 W g E Lv s → Calls Tryd.prog 71 #[.pointer (some ⟨g, 0, none⟩)] W fun e w' => e = .returned (.agg (encT (nx E T s))) ∧ Below W.heap.size W w') := fun W s h => next_any W0 W g E Lv T hL s h
  have CW8 : Hid (∀ W s, Wk W0 W g E Lv s → Calls Tryd.prog 45 #[.pointer (some ⟨g, 0, none⟩), .int .i64 8] W fun e' w' => e' = .returned (.tuple #[]) ∧ W.grownBy w' (some g) ∧ Wk W0 w' g E Lv (wrong E T 8 s)) := fun W s h => wrong_any W0 W g E Lv T hL 8 s h
  have CW9 : Hid (∀ W s, Wk W0 W g E Lv s → Calls Tryd.prog 45 #[.pointer (some ⟨g, 0, none⟩), .int .i64 9] W fun e' w' => e' = .returned (.tuple #[]) ∧ W.grownBy w' (some g) ∧ Wk W0 w' g E Lv (wrong E T 9 s)) := fun W s h => wrong_any W0 W g E Lv T hL 9 s h
  have CF : Hid (∀ W s, s.i ≤ 6000 → Wk W0 W g E Lv s → Calls Tryd.prog 73 #[.pointer (some ⟨g, 0, none⟩)] W fun e' w' => e' = .returned (.agg (figV (figW E T s).1)) ∧ W.grownBy w' (some g) ∧ Wk W0 w' g E Lv (figW E T s).2) := fun W s hi h => figure_any6 W0 W g E Lv T hL s hi h
  have CK : Hid (∀ W s, s.i ≤ 6000 → Wk W0 W g E Lv s → Calls Tryd.prog 75 #[.pointer (some ⟨g, 0, none⟩), .int .i64 3] W fun e' w' => e' = .returned (.agg (encT (kindW E T 3 s).1)) ∧ W.grownBy w' (some g) ∧ Wk W0 w' g E Lv (kindW E T 3 s).2) := fun W s hi h => kind_any6 W0 W g E Lv T hL 3 s hi h
  have hgl := h.size
  obtain ⟨R, hR⟩ : ∃ R, R = clauseW E T had s := ⟨_, rfl⟩
  rw [← hR]
  have HR : Hid (R = clauseW E T had s) := hR
  obtain ⟨t, hnt⟩ : ∃ t, t = nx E T s := ⟨_, rfl⟩
  rw [← hnt] at ht
  have HT : Hid (t = nx E T s) := hnt
  have e0 : (t.text == [115, 114, 99]) = false := by rw [ht]; rfl
  have e1 : (t.text == [100, 115, 116]) = false := by rw [ht]; rfl
  have e2 : (t.text == [115, 112, 111, 114, 116]) = true := by rw [ht]; rfl
  have e3 : (t.text == [100, 112, 111, 114, 116]) = false := by rw [ht]; rfl
  have e4 : (t.text == [112, 114, 111, 116, 111]) = false := by rw [ht]; rfl
  have e5 : (t.text != [112, 114, 111, 116, 111]) = true := by rw [ht]; rfl
  have H : Hid (Wk W0 w g E Lv s) := h
  have HH : Hid (ClasOwn Bh w had hv) := hh
  have HTX : Hid (_ ∧ True) := ⟨ht, trivial⟩
  clear h hR hh hL hnt ht
  go_enter Tryd.func74, Tryd.ntmps74
  go_wp2_with fail
  refine (CN.out _ s (H.out.alloc _)).mono ?_
  rw [← HT.out]
  rintro e w1 ⟨rfl, hb1⟩
  have B1 : Below w.heap.size w w1 := ((Below.refl _ _).alloc (Nat.le_refl _) _).trans (hb1.mono (by simp))
  have z1 : w.heap.size < w1.heap.size := by have := hb1.size; simp at this; omega
  have C0 : Cst W0 w ((w1.alloc (.cells (encT t) 90)).alloc (.cells (claV ⟨t.text, (t.pos : Int), [], false, false⟩ (.slice none 0 0)) 54)) g E Lv w1.heap.size t ⟨t.text, (t.pos : Int), [], false, false⟩ (.slice none 0 0) s :=
    ⟨((H.out.below B1).alloc _).alloc _, gb_alloc (gb_alloc (grown_below B1) _) _, heap_past _ _ _ _ (heap_new _ _ _ rfl), heap_new _ _ _ (by simp), heap_past _ _ _ _ (heap_past _ _ _ _ ((hb1.block _ (by simp)).trans (heap_new _ _ _ rfl))), World.ownsRow_nil _ _ _ _, z1, hgl⟩
  have q1 := tok_cells (heap_new w1 (.cells (encT t) 90) _ rfl)
  have q2 := fun x => tok_cells (heap_past _ x _ _ (heap_new w1 (.cells (encT t) 90) _ rfl))
  have t1 := q1.2.1
  have t2 := q1.2.2.1
  have t5 := fun x => (q2 x).2.1
  have t6 := fun x => (q2 x).2.2.1
  obtain ⟨k, hk⟩ : ∃ k, k = w1.heap.size := ⟨_, rfl⟩
  obtain ⟨WA, hWA⟩ : ∃ WA, WA = ((w1.alloc (.cells (encT t) 90)).alloc (.cells (claV ⟨t.text, (t.pos : Int), [], false, false⟩ (.slice none 0 0)) 54)) := ⟨_, rfl⟩
  rw [← hWA] at C0
  have HWA : Hid (WA = ((w1.alloc (.cells (encT t) 90)).alloc (.cells (claV ⟨t.text, (t.pos : Int), [], false, false⟩ (.slice none 0 0)) 54)) ∧ k = w1.heap.size) := ⟨hWA, hk⟩
  have CS : Hid (Cst W0 w WA g E Lv k t ⟨t.text, (t.pos : Int), [], false, false⟩ (.slice none 0 0) s) := by rw [hk]; exact C0
  have hbw : Below w.heap.size w w1 := B1
  have HHA : Hid (ClasOwn Bh WA had hv) := by show ClasOwn _ _ _ _; rw [hWA]; exact ((HH.out.below hbw).below ((Below.refl _ _).alloc (Nat.le_refl _) _)).below ((Below.refl _ _).alloc (Nat.le_refl _) _)
  clear q1 q2 hb1 B1 C0 hWA hk hbw
  go_wp2_with (first
    | (refine wl_storeE (E := TokE) TokOk rfl _ _ rfl w1.heap.size (encT t) (tv_fits _ _ _ _) rfl rfl _ (heap_new _ _ _ rfl) rfl _ (setRow_new _ _ _ _ _ rfl) ?_)
    | (refine wl_storeE (E := ClaE) ClaOk rfl _ _ rfl (w1.heap.size + 1) (claV ⟨t.text, (t.pos : Int), [], false, false⟩ (.slice none 0 0)) (cla_fits _ _ ⟨_, _, _, rfl⟩) rfl rfl _ (heap_new _ _ _ (by simp)) rfl _ (setRow_new _ _ _ _ _ (by simp)) ?_))
  rw [← HWA.out.1, ← HWA.out.2]
  clear t1 t2 t5 t6
  obtain ⟨oh, caph, rfl, hch, hcm⟩ := NSl.slice (NOwn.sl (fun _ _ => rfl) HHA.out)
  unfold maxLen at hcm
  obtain ⟨nh, hnh⟩ : ∃ nh, nh = had.length := ⟨_, rfl⟩
  have HNH : Hid (nh = had.length) := hnh
  rw [← hnh] at hhl hch HHA ⊢
  clear hnh
  have hsi : (s).i = s.i := by first | rfl | exact wrong_i E T 8 s
  go_loopw [9] (fun x wr => ∃ j : Nat, j ≤ nh ∧ x = .int .i64 (j : Int) ∧ Cst W0 w wr g E Lv k t ⟨t.text, (t.pos : Int), [], false, false⟩ (.slice none 0 0) (hadS E T (had.take j) t.text s) ∧ ClasOwn Bh wr had (.slice oh nh caph)) (fun x _ => nh - (intOf x).toNat)
  case atStart => exact ⟨0, Nat.zero_le _, rfl, CS.out, HHA.out⟩
  case round =>
    obtain ⟨j, hj, rfl, C1, hcl⟩ := hrel
    clear CS HHA
    by_cases hlt : j < nh
    · obtain ⟨g2, off2, cur2, ty2, fr2, c2, u2, rfl, hg2, hc2, hCj, _⟩ := NSl.at (NOwn.sl (fun _ _ => rfl) hcl) j hlt
      have l0 : ∀ u : Later wr, u.world.cell? ⟨g2, off2 + j * 5, none⟩ = some (.string ⟨c2.word.toArray⟩) := later_cell6 hg2 (hc2 0 (by decide))
      have l1 : ∀ u : Later wr, u.world.cell? ⟨k, 2, none⟩ = some (.string ⟨t.text.toArray⟩) := later_cell6 C1.tok rfl
      have CS : Hid (Cst W0 w wr g E Lv k t ⟨t.text, (t.pos : Int), [], false, false⟩ (.slice none 0 0) (hadS E T (had.take j) t.text s)) := C1
      have HCL : Hid (ClasOwn Bh wr had (.slice (some ⟨g2, off2, none⟩) nh caph)) := hcl
      have HCJ : Hid (had[j]? = some c2) := hCj
      have hlt' : (j : Int) < (nh : Int) := by omega
      clear C1 hcl hg2 hc2 hCj
      go_wp2_with fail
      have ne1 := Later.ne wr
      refine wp_region_later (by kernel_rfl) (by kernel_rfl) ?_
      repeat first | (go_big_quiet_step (rfl)) | (refine q_nil rfl _ rfl _ rfl ?_; simp only [Act.put, List.setIfInBounds_toArray, List.set_cons_succ, List.set_cons_zero])
      refine wpQuiet_nil ?_
      rintro w' ⟨u, rfl⟩
      have CS2 := CS.out.below u.below
      have HCL2 := HCL.out.below u.below
      obtain ⟨W1, hW1⟩ : ∃ W1, W1 = u.world := ⟨_, rfl⟩
      rw [← hW1] at CS2 HCL2 ⊢
      clear l0 l1 ne1 hW1 CS HCL
      have CS : Hid (Cst W0 w W1 g E Lv k t ⟨t.text, (t.pos : Int), [], false, false⟩ (.slice none 0 0) (hadS E T (had.take j) t.text s)) := CS2
      have HCL : Hid (ClasOwn Bh W1 had (.slice (some ⟨g2, off2, none⟩) nh caph)) := HCL2
      clear CS2 HCL2
      by_cases hq : (c2.word == t.text) = true
      · have HS : Hid (hadS E T (had.take (j + 1)) t.text s = wrong E T 9 (hadS E T (had.take j) t.text s)) := hadS_yes HCJ.out hq
        rw [hq]
        clear hq
        go_wp2_with fail
        refine (CW9.out _ _ CS.out.wk).mono ?_
        rintro e W2 ⟨rfl, hg9, hw9⟩
        have CS2 : Hid (Cst W0 w W2 g E Lv k t ⟨t.text, (t.pos : Int), [], false, false⟩ (.slice none 0 0) (hadS E T (had.take (j + 1)) t.text s)) := by show Cst _ _ _ _ _ _ _ _ _ _ _; rw [HS.out]; exact CS.out.by hg9 hw9
        have HCL2 : Hid (ClasOwn Bh W2 had (.slice (some ⟨g2, off2, none⟩) nh caph)) := HCL.out.by hg9 hBh
        clear hg9 hw9
        go_wp2_with fail
        go_roundw
        case rel => exact ⟨j + 1, by omega, by go_num, CS2.out, HCL2.out⟩
        case measure => simp [intOf]; omega
      · have hq' : (c2.word == t.text) = false := by simpa using hq
        have HS : Hid (hadS E T (had.take (j + 1)) t.text s = hadS E T (had.take j) t.text s) := hadS_no HCJ.out hq'
        rw [hq']
        clear hq hq'
        go_wp2_with fail
        go_roundw
        case rel => exact ⟨j + 1, by omega, by go_num, by rw [HS.out]; exact CS.out, HCL.out⟩
        case measure => simp [intOf]; omega
    · have hlt' : (nh : Int) ≤ (j : Int) := by omega
      have hjl : had.take j = had := List.take_of_length_le (by have := HNH.out; omega)
      rw [hjl] at C1
      obtain ⟨s2, hs2⟩ : ∃ s2, s2 = hadS E T had t.text s := ⟨_, rfl⟩
      rw [← hs2] at C1
      have HHD : Hid (headW E T had s = stepW s2) := by
        show _ = _
        rw [hs2, HT.out]
        exact head_ok (by rw [← HT.out]; rw [HTX.out.1]; rfl)
      have h2i : s2.i ≤ 5900 := by rw [hs2, hadS_i, hsi]; exact hi
      obtain ⟨_, c1, _, _, _, fz⟩ := wk_cells C1.wk
      have f1 := fz 1
      have CS : Hid (Cst W0 w wr g E Lv k t ⟨t.text, (t.pos : Int), [], false, false⟩ (.slice none 0 0) s2) := C1
      clear C1 hcl hlt hjl hs2 fz
      go_wp2_with fail
      have CX := CS.out.step
      obtain ⟨WC, hWC⟩ : ∃ W', W' = wr.setCell ⟨g, 1, none⟩ (.int .i64 ((s2.i : Int) + 1)) := ⟨_, rfl⟩
      rw [← hWC] at CX ⊢
      replace CS : Hid (Cst W0 w WC g E Lv k t ⟨t.text, (t.pos : Int), [], false, false⟩ (.slice none 0 0) (stepW s2)) := CX
      obtain ⟨s3, hs3⟩ : ∃ s3, s3 = stepW s2 := ⟨_, rfl⟩
      rw [← hs3] at CS HHD
      have h3i : s3.i ≤ 5901 := by rw [hs3]; show s2.i + 1 ≤ _; omega
      clear CX hWC hs3 c1 f1
      refine ref13_region (Nat.le_of_ble_eq_true rfl) g (k + 1) rfl rfl _ CS.out.cl (.slice none 0 0) rfl (by have := CS.out.hk; have := CS.out.hg; omega) ([]) w.heap.size CS.out.own (by simp; try omega) (Nat.le_of_lt (Nat.lt_trans CS.out.hk (Nat.lt_of_succ_lt CS.out.size))) CS.out.hg.2 (figW E T s3).1 (fun w' => Wk W0 w' g E Lv (figW E T s3).2) ?_ ?_
      · refine (CF.out _ s3 (by omega) (CS.out.wk.below (Below.refl _ _).drew)).mono ?_
        rintro e w' ⟨rfl, hg', hw'⟩
        exact ⟨rfl, hg', hw'⟩
      rintro a' w5 w6 v' ⟨y0, y1, y2, y3, y4, y5, y6, rfl⟩ hD hg5 hgr6 hown6 hp6
      simp only [Act.put, List.setIfInBounds_toArray, List.set_cons_succ, List.set_cons_zero]
      have CX := CS.out.app hg5 hD hgr6 hown6 hp6
      obtain ⟨d_o, d_n, d_m, rfl⟩ := CX.slice
      obtain ⟨WD, hWnew⟩ : ∃ W', W' = w6.setCell ⟨k + 1, 2, none⟩ (.slice d_o d_n d_m) := ⟨_, rfl⟩
      rw [← hWnew] at CX ⊢
      replace CS : Hid (Cst W0 w WD g E Lv k t ⟨t.text, (t.pos : Int), [] ++ [(figW E T s3).1], false, false⟩ (.slice d_o d_n d_m) (figW E T s3).2) := CX
      clear CX hWnew hD hg5 hgr6 hown6 hp6
      replace CS : Hid (Cst W0 w WD g E Lv k t ⟨t.text, (t.pos : Int), [(figW E T s3).1], false, false⟩ (.slice d_o d_n d_m) (figW E T s3).2) := CS.out
      obtain ⟨f, s4, hF⟩ : ∃ f s4, figW E T s3 = (f, s4) := ⟨_, _, rfl⟩
      have h4i : s4.i ≤ 5902 := by have := fig_i E T s3; rw [hF] at this; show s4.i ≤ _; have h' : s4.i = s3.i + 1 := this; omega
      rw [hF] at CS
      have HF : Hid (figW E T (headW E T had s) = (f, s4)) := by show _ = _; rw [HHD.out]; exact hF
      replace CS : Hid (Cst W0 w WD g E Lv k t ⟨t.text, (t.pos : Int), [f], false, false⟩ (.slice d_o d_n d_m) s4) := CS.out
      have HAD : Hid (isAddrW (nx E T s).text = false ∧ isPortW (nx E T s).text = true) := by show _ ∧ _; rw [← HT.out]; rw [HTX.out.1]; exact ⟨rfl, rfl⟩
      clear hF HHD HNH h2i h3i hsi e0 e1 e2 e3 e4 e5
      go_wp2_with fail
      go_loop [10] (fun x => x = .int .i64 0) (fun _ => 0)
      case atStart => rfl
      case round =>
        subst hrel
        go_wp2_with fail
        have f0 := tok_f0 (nx E T s4)
        refine (CN.out _ s4 CS.out.wk).mono ?_
        rintro e WF ⟨rfl, hbF⟩
        replace CS : Hid (Cst W0 w WF g E Lv k t ⟨t.text, (t.pos : Int), [f], false, false⟩ (.slice d_o d_n d_m) s4) := CS.out.below hbF
        clear hbF
        by_cases hk4 : (nx E T s4).kind = 5
        · have hk' : (((nx E T s4).kind : Int) == 5) = true := by simp; omega
          have KK : Hid ((nx E T s4).kind = 5) := hk4
          have CG := CS.out.flag 4 ⟨t.text, (t.pos : Int), [f], false, true⟩ rfl rfl
          have CH := CG.step
          obtain ⟨_, g1, _, _, _, gz⟩ := wk_cells CG.wk
          have gz1 := gz 1
          have c3 : WF.cell? ⟨k + 1, 4, none⟩ = some (.bool false) := by rw [cell_of_row _ _ _ _ _ _ CS.out.cl]; rfl
          have f3 : WF.frozen? ⟨k + 1, 4, none⟩ = false := tc_frozen CS.out.cl rfl
          have HCH : Hid (Cst W0 w ((WF.setCell ⟨k + 1, 4, none⟩ (.bool true)).setCell ⟨g, 1, none⟩ (.int .i64 ((s4.i : Int) + 1))) g E Lv k t ⟨t.text, (t.pos : Int), [f], false, true⟩ (.slice d_o d_n d_m) (stepW s4)) := CH
          have hsi5 : (stepW s4).i ≤ 6000 := by show s4.i + 1 ≤ _; omega
          clear CG CH gz hk4
          go_wp2_with fail
          obtain ⟨WG, hWG⟩ : ∃ W', W' = ((WF.setCell ⟨k + 1, 4, none⟩ (.bool true)).setCell ⟨g, 1, none⟩ (.int .i64 ((s4.i : Int) + 1))) := ⟨_, rfl⟩
          rw [← hWG] at HCH ⊢
          replace CS : Hid (Cst W0 w WG g E Lv k t ⟨t.text, (t.pos : Int), [f], false, true⟩ (.slice d_o d_n d_m) (stepW s4)) := HCH.out
          clear HCH hWG g1 gz1 c3 f3
          refine ref26_region (Nat.le_of_ble_eq_true rfl) g (k + 1) rfl rfl _ CS.out.cl (.slice d_o d_n d_m) rfl (by have := CS.out.hk; have := CS.out.hg; omega) ([f]) w.heap.size CS.out.own (by simp; try omega) (Nat.le_of_lt (Nat.lt_trans CS.out.hk (Nat.lt_of_succ_lt CS.out.size))) CS.out.hg.2 (figW E T (stepW s4)).1 (fun w' => Wk W0 w' g E Lv (figW E T (stepW s4)).2) ?_ ?_
          · refine (CF.out _ (stepW s4) (by omega) (CS.out.wk.below (Below.refl _ _).drew)).mono ?_
            rintro e w' ⟨rfl, hg', hw'⟩
            exact ⟨rfl, hg', hw'⟩
          rintro a' w5 w6 v' ⟨y0, y1, y2, y3, y4, y5, y6, rfl⟩ hD hg5 hgr6 hown6 hp6
          simp only [Act.put, List.setIfInBounds_toArray, List.set_cons_succ, List.set_cons_zero]
          have CX := CS.out.app hg5 hD hgr6 hown6 hp6
          obtain ⟨z_o, z_n, z_m, rfl⟩ := CX.slice
          obtain ⟨WH, hWnew⟩ : ∃ W', W' = w6.setCell ⟨k + 1, 2, none⟩ (.slice z_o z_n z_m) := ⟨_, rfl⟩
          rw [← hWnew] at CX ⊢
          replace CS : Hid (Cst W0 w WH g E Lv k t ⟨t.text, (t.pos : Int), [f] ++ [(figW E T (stepW s4)).1], false, true⟩ (.slice z_o z_n z_m) (figW E T (stepW s4)).2) := CX
          clear CX hWnew hD hg5 hgr6 hown6 hp6
          go_wp2_with (first
            | (refine wl_loadE (E := ClaE) ClaOk rfl _ rfl (k + 1) 0 rfl _ _ _ (claV ⟨t.text, (t.pos : Int), [f] ++ [(figW E T (stepW s4)).1], false, true⟩ (.slice z_o z_n z_m)) rfl CS.out.cl (own_cells _ _) ?_)
            | (refine wl_storeE (E := ClaE) ClaOk rfl _ _ rfl w.heap.size (claV ⟨t.text, (t.pos : Int), [f] ++ [(figW E T (stepW s4)).1], false, true⟩ (.slice z_o z_n z_m)) (cla_fits _ _ ⟨_, _, _, rfl⟩) rfl rfl _ CS.out.r0 rfl _ rfl ?_))
          refine retE (E := ClaE) ClaOk rfl rfl w.heap.size rfl (claV ⟨t.text, (t.pos : Int), [f] ++ [(figW E T (stepW s4)).1], false, true⟩ (.slice z_o z_n z_m)) rfl (setRow_heap _ _ _ _ _ _ CS.out.r0) ?_
          have HRR : Hid (R = (⟨t.text, (t.pos : Int), [f] ++ [(figW E T (stepW s4)).1], false, true⟩, (figW E T (stepW s4)).2)) := by show _ = _; rw [HR.out, cw_port5 HAD.out.1 HAD.out.2 (by rw [HF.out]; exact KK.out), HF.out, ← HT.out]; 
          rw [HRR.out]
          exact ⟨_, rfl, own_setRow CS.out.own CS.out.r0 (by decide) _, gb_setRow CS.out.gr (.inr (Nat.le_refl _)) _, wk_setRow CS.out.wk (by omega) (by omega) _⟩
        · have hk' : (((nx E T s4).kind : Int) == 5) = false := by simp; omega
          have KK : Hid (¬ (nx E T s4).kind = 5) := hk4
          clear hk4
          go_wp2_with (first
            | (refine wl_loadE (E := ClaE) ClaOk rfl _ rfl (k + 1) 0 rfl _ _ _ (claV ⟨t.text, (t.pos : Int), [f], false, false⟩ (.slice d_o d_n d_m)) rfl CS.out.cl (own_cells _ _) ?_)
            | (refine wl_storeE (E := ClaE) ClaOk rfl _ _ rfl w.heap.size (claV ⟨t.text, (t.pos : Int), [f], false, false⟩ (.slice d_o d_n d_m)) (cla_fits _ _ ⟨_, _, _, rfl⟩) rfl rfl _ CS.out.r0 rfl _ rfl ?_))
          refine retE (E := ClaE) ClaOk rfl rfl w.heap.size rfl (claV ⟨t.text, (t.pos : Int), [f], false, false⟩ (.slice d_o d_n d_m)) rfl (setRow_heap _ _ _ _ _ _ CS.out.r0) ?_
          have HRR : Hid (R = (⟨t.text, (t.pos : Int), [f], false, false⟩, s4)) := by show _ = _; rw [HR.out, cw_portN HAD.out.1 HAD.out.2 (by rw [HF.out]; exact KK.out), HF.out, ← HT.out]; 
          rw [HRR.out]
          exact ⟨_, rfl, own_setRow CS.out.own CS.out.r0 (by decide) _, gb_setRow CS.out.gr (.inr (Nat.le_refl _)) _, wk_setRow CS.out.wk (by omega) (by omega) _⟩

set_option maxHeartbeats 8000000 in
set_option maxRecDepth 10000 in
theorem rclause_dport (W0 w : World) (g E : Nat) (Lv : Value) (T : List Tok) (hL : GSl TokE encT W0 Lv T) (had : List Cla) (hv : Value) (Bh : Nat) (s : Ws) (hi : s.i ≤ 5900) (ht : (nx E T s).text = wDport) (hBh : g < Bh) (hh : ClasOwn Bh w had hv) (hhl : had.length ≤ 5000) (h : Wk W0 w g E Lv s) :
    Calls Tryd.prog 74 #[.pointer (some ⟨g, 0, none⟩), hv] w fun e w' => ∃ u, e = .returned (.agg (claV (clauseW E T had s).1 u)) ∧ w'.ownsRow w.heap.size 48 2 u (clauseW E T had s).1.nums.length (gcells figV (clauseW E T had s).1.nums) ∧ w.grownBy w' (some g) ∧ Wk W0 w' g E Lv (clauseW E T had s).2 := by
  have CN : Hid (∀ W s, Wk W0 W g E Lv s → Calls Tryd.prog 71 #[.pointer (some ⟨g, 0, none⟩)] W fun e w' => e = .returned (.agg (encT (nx E T s))) ∧ Below W.heap.size W w') := fun W s h => next_any W0 W g E Lv T hL s h
  have CW8 : Hid (∀ W s, Wk W0 W g E Lv s → Calls Tryd.prog 45 #[.pointer (some ⟨g, 0, none⟩), .int .i64 8] W fun e' w' => e' = .returned (.tuple #[]) ∧ W.grownBy w' (some g) ∧ Wk W0 w' g E Lv (wrong E T 8 s)) := fun W s h => wrong_any W0 W g E Lv T hL 8 s h
  have CW9 : Hid (∀ W s, Wk W0 W g E Lv s → Calls Tryd.prog 45 #[.pointer (some ⟨g, 0, none⟩), .int .i64 9] W fun e' w' => e' = .returned (.tuple #[]) ∧ W.grownBy w' (some g) ∧ Wk W0 w' g E Lv (wrong E T 9 s)) := fun W s h => wrong_any W0 W g E Lv T hL 9 s h
  have CF : Hid (∀ W s, s.i ≤ 6000 → Wk W0 W g E Lv s → Calls Tryd.prog 73 #[.pointer (some ⟨g, 0, none⟩)] W fun e' w' => e' = .returned (.agg (figV (figW E T s).1)) ∧ W.grownBy w' (some g) ∧ Wk W0 w' g E Lv (figW E T s).2) := fun W s hi h => figure_any6 W0 W g E Lv T hL s hi h
  have CK : Hid (∀ W s, s.i ≤ 6000 → Wk W0 W g E Lv s → Calls Tryd.prog 75 #[.pointer (some ⟨g, 0, none⟩), .int .i64 3] W fun e' w' => e' = .returned (.agg (encT (kindW E T 3 s).1)) ∧ W.grownBy w' (some g) ∧ Wk W0 w' g E Lv (kindW E T 3 s).2) := fun W s hi h => kind_any6 W0 W g E Lv T hL 3 s hi h
  have hgl := h.size
  obtain ⟨R, hR⟩ : ∃ R, R = clauseW E T had s := ⟨_, rfl⟩
  rw [← hR]
  have HR : Hid (R = clauseW E T had s) := hR
  obtain ⟨t, hnt⟩ : ∃ t, t = nx E T s := ⟨_, rfl⟩
  rw [← hnt] at ht
  have HT : Hid (t = nx E T s) := hnt
  have e0 : (t.text == [115, 114, 99]) = false := by rw [ht]; rfl
  have e1 : (t.text == [100, 115, 116]) = false := by rw [ht]; rfl
  have e2 : (t.text == [115, 112, 111, 114, 116]) = false := by rw [ht]; rfl
  have e3 : (t.text == [100, 112, 111, 114, 116]) = true := by rw [ht]; rfl
  have e4 : (t.text == [112, 114, 111, 116, 111]) = false := by rw [ht]; rfl
  have e5 : (t.text != [112, 114, 111, 116, 111]) = true := by rw [ht]; rfl
  have H : Hid (Wk W0 w g E Lv s) := h
  have HH : Hid (ClasOwn Bh w had hv) := hh
  have HTX : Hid (_ ∧ True) := ⟨ht, trivial⟩
  clear h hR hh hL hnt ht
  go_enter Tryd.func74, Tryd.ntmps74
  go_wp2_with fail
  refine (CN.out _ s (H.out.alloc _)).mono ?_
  rw [← HT.out]
  rintro e w1 ⟨rfl, hb1⟩
  have B1 : Below w.heap.size w w1 := ((Below.refl _ _).alloc (Nat.le_refl _) _).trans (hb1.mono (by simp))
  have z1 : w.heap.size < w1.heap.size := by have := hb1.size; simp at this; omega
  have C0 : Cst W0 w ((w1.alloc (.cells (encT t) 90)).alloc (.cells (claV ⟨t.text, (t.pos : Int), [], false, false⟩ (.slice none 0 0)) 54)) g E Lv w1.heap.size t ⟨t.text, (t.pos : Int), [], false, false⟩ (.slice none 0 0) s :=
    ⟨((H.out.below B1).alloc _).alloc _, gb_alloc (gb_alloc (grown_below B1) _) _, heap_past _ _ _ _ (heap_new _ _ _ rfl), heap_new _ _ _ (by simp), heap_past _ _ _ _ (heap_past _ _ _ _ ((hb1.block _ (by simp)).trans (heap_new _ _ _ rfl))), World.ownsRow_nil _ _ _ _, z1, hgl⟩
  have q1 := tok_cells (heap_new w1 (.cells (encT t) 90) _ rfl)
  have q2 := fun x => tok_cells (heap_past _ x _ _ (heap_new w1 (.cells (encT t) 90) _ rfl))
  have t1 := q1.2.1
  have t2 := q1.2.2.1
  have t5 := fun x => (q2 x).2.1
  have t6 := fun x => (q2 x).2.2.1
  obtain ⟨k, hk⟩ : ∃ k, k = w1.heap.size := ⟨_, rfl⟩
  obtain ⟨WA, hWA⟩ : ∃ WA, WA = ((w1.alloc (.cells (encT t) 90)).alloc (.cells (claV ⟨t.text, (t.pos : Int), [], false, false⟩ (.slice none 0 0)) 54)) := ⟨_, rfl⟩
  rw [← hWA] at C0
  have HWA : Hid (WA = ((w1.alloc (.cells (encT t) 90)).alloc (.cells (claV ⟨t.text, (t.pos : Int), [], false, false⟩ (.slice none 0 0)) 54)) ∧ k = w1.heap.size) := ⟨hWA, hk⟩
  have CS : Hid (Cst W0 w WA g E Lv k t ⟨t.text, (t.pos : Int), [], false, false⟩ (.slice none 0 0) s) := by rw [hk]; exact C0
  have hbw : Below w.heap.size w w1 := B1
  have HHA : Hid (ClasOwn Bh WA had hv) := by show ClasOwn _ _ _ _; rw [hWA]; exact ((HH.out.below hbw).below ((Below.refl _ _).alloc (Nat.le_refl _) _)).below ((Below.refl _ _).alloc (Nat.le_refl _) _)
  clear q1 q2 hb1 B1 C0 hWA hk hbw
  go_wp2_with (first
    | (refine wl_storeE (E := TokE) TokOk rfl _ _ rfl w1.heap.size (encT t) (tv_fits _ _ _ _) rfl rfl _ (heap_new _ _ _ rfl) rfl _ (setRow_new _ _ _ _ _ rfl) ?_)
    | (refine wl_storeE (E := ClaE) ClaOk rfl _ _ rfl (w1.heap.size + 1) (claV ⟨t.text, (t.pos : Int), [], false, false⟩ (.slice none 0 0)) (cla_fits _ _ ⟨_, _, _, rfl⟩) rfl rfl _ (heap_new _ _ _ (by simp)) rfl _ (setRow_new _ _ _ _ _ (by simp)) ?_))
  rw [← HWA.out.1, ← HWA.out.2]
  clear t1 t2 t5 t6
  obtain ⟨oh, caph, rfl, hch, hcm⟩ := NSl.slice (NOwn.sl (fun _ _ => rfl) HHA.out)
  unfold maxLen at hcm
  obtain ⟨nh, hnh⟩ : ∃ nh, nh = had.length := ⟨_, rfl⟩
  have HNH : Hid (nh = had.length) := hnh
  rw [← hnh] at hhl hch HHA ⊢
  clear hnh
  have hsi : (s).i = s.i := by first | rfl | exact wrong_i E T 8 s
  go_loopw [9] (fun x wr => ∃ j : Nat, j ≤ nh ∧ x = .int .i64 (j : Int) ∧ Cst W0 w wr g E Lv k t ⟨t.text, (t.pos : Int), [], false, false⟩ (.slice none 0 0) (hadS E T (had.take j) t.text s) ∧ ClasOwn Bh wr had (.slice oh nh caph)) (fun x _ => nh - (intOf x).toNat)
  case atStart => exact ⟨0, Nat.zero_le _, rfl, CS.out, HHA.out⟩
  case round =>
    obtain ⟨j, hj, rfl, C1, hcl⟩ := hrel
    clear CS HHA
    by_cases hlt : j < nh
    · obtain ⟨g2, off2, cur2, ty2, fr2, c2, u2, rfl, hg2, hc2, hCj, _⟩ := NSl.at (NOwn.sl (fun _ _ => rfl) hcl) j hlt
      have l0 : ∀ u : Later wr, u.world.cell? ⟨g2, off2 + j * 5, none⟩ = some (.string ⟨c2.word.toArray⟩) := later_cell6 hg2 (hc2 0 (by decide))
      have l1 : ∀ u : Later wr, u.world.cell? ⟨k, 2, none⟩ = some (.string ⟨t.text.toArray⟩) := later_cell6 C1.tok rfl
      have CS : Hid (Cst W0 w wr g E Lv k t ⟨t.text, (t.pos : Int), [], false, false⟩ (.slice none 0 0) (hadS E T (had.take j) t.text s)) := C1
      have HCL : Hid (ClasOwn Bh wr had (.slice (some ⟨g2, off2, none⟩) nh caph)) := hcl
      have HCJ : Hid (had[j]? = some c2) := hCj
      have hlt' : (j : Int) < (nh : Int) := by omega
      clear C1 hcl hg2 hc2 hCj
      go_wp2_with fail
      have ne1 := Later.ne wr
      refine wp_region_later (by kernel_rfl) (by kernel_rfl) ?_
      repeat first | (go_big_quiet_step (rfl)) | (refine q_nil rfl _ rfl _ rfl ?_; simp only [Act.put, List.setIfInBounds_toArray, List.set_cons_succ, List.set_cons_zero])
      refine wpQuiet_nil ?_
      rintro w' ⟨u, rfl⟩
      have CS2 := CS.out.below u.below
      have HCL2 := HCL.out.below u.below
      obtain ⟨W1, hW1⟩ : ∃ W1, W1 = u.world := ⟨_, rfl⟩
      rw [← hW1] at CS2 HCL2 ⊢
      clear l0 l1 ne1 hW1 CS HCL
      have CS : Hid (Cst W0 w W1 g E Lv k t ⟨t.text, (t.pos : Int), [], false, false⟩ (.slice none 0 0) (hadS E T (had.take j) t.text s)) := CS2
      have HCL : Hid (ClasOwn Bh W1 had (.slice (some ⟨g2, off2, none⟩) nh caph)) := HCL2
      clear CS2 HCL2
      by_cases hq : (c2.word == t.text) = true
      · have HS : Hid (hadS E T (had.take (j + 1)) t.text s = wrong E T 9 (hadS E T (had.take j) t.text s)) := hadS_yes HCJ.out hq
        rw [hq]
        clear hq
        go_wp2_with fail
        refine (CW9.out _ _ CS.out.wk).mono ?_
        rintro e W2 ⟨rfl, hg9, hw9⟩
        have CS2 : Hid (Cst W0 w W2 g E Lv k t ⟨t.text, (t.pos : Int), [], false, false⟩ (.slice none 0 0) (hadS E T (had.take (j + 1)) t.text s)) := by show Cst _ _ _ _ _ _ _ _ _ _ _; rw [HS.out]; exact CS.out.by hg9 hw9
        have HCL2 : Hid (ClasOwn Bh W2 had (.slice (some ⟨g2, off2, none⟩) nh caph)) := HCL.out.by hg9 hBh
        clear hg9 hw9
        go_wp2_with fail
        go_roundw
        case rel => exact ⟨j + 1, by omega, by go_num, CS2.out, HCL2.out⟩
        case measure => simp [intOf]; omega
      · have hq' : (c2.word == t.text) = false := by simpa using hq
        have HS : Hid (hadS E T (had.take (j + 1)) t.text s = hadS E T (had.take j) t.text s) := hadS_no HCJ.out hq'
        rw [hq']
        clear hq hq'
        go_wp2_with fail
        go_roundw
        case rel => exact ⟨j + 1, by omega, by go_num, by rw [HS.out]; exact CS.out, HCL.out⟩
        case measure => simp [intOf]; omega
    · have hlt' : (nh : Int) ≤ (j : Int) := by omega
      have hjl : had.take j = had := List.take_of_length_le (by have := HNH.out; omega)
      rw [hjl] at C1
      obtain ⟨s2, hs2⟩ : ∃ s2, s2 = hadS E T had t.text s := ⟨_, rfl⟩
      rw [← hs2] at C1
      have HHD : Hid (headW E T had s = stepW s2) := by
        show _ = _
        rw [hs2, HT.out]
        exact head_ok (by rw [← HT.out]; rw [HTX.out.1]; rfl)
      have h2i : s2.i ≤ 5900 := by rw [hs2, hadS_i, hsi]; exact hi
      obtain ⟨_, c1, _, _, _, fz⟩ := wk_cells C1.wk
      have f1 := fz 1
      have CS : Hid (Cst W0 w wr g E Lv k t ⟨t.text, (t.pos : Int), [], false, false⟩ (.slice none 0 0) s2) := C1
      clear C1 hcl hlt hjl hs2 fz
      go_wp2_with fail
      have CX := CS.out.step
      obtain ⟨WC, hWC⟩ : ∃ W', W' = wr.setCell ⟨g, 1, none⟩ (.int .i64 ((s2.i : Int) + 1)) := ⟨_, rfl⟩
      rw [← hWC] at CX ⊢
      replace CS : Hid (Cst W0 w WC g E Lv k t ⟨t.text, (t.pos : Int), [], false, false⟩ (.slice none 0 0) (stepW s2)) := CX
      obtain ⟨s3, hs3⟩ : ∃ s3, s3 = stepW s2 := ⟨_, rfl⟩
      rw [← hs3] at CS HHD
      have h3i : s3.i ≤ 5901 := by rw [hs3]; show s2.i + 1 ≤ _; omega
      clear CX hWC hs3 c1 f1
      refine ref13_region (Nat.le_of_ble_eq_true rfl) g (k + 1) rfl rfl _ CS.out.cl (.slice none 0 0) rfl (by have := CS.out.hk; have := CS.out.hg; omega) ([]) w.heap.size CS.out.own (by simp; try omega) (Nat.le_of_lt (Nat.lt_trans CS.out.hk (Nat.lt_of_succ_lt CS.out.size))) CS.out.hg.2 (figW E T s3).1 (fun w' => Wk W0 w' g E Lv (figW E T s3).2) ?_ ?_
      · refine (CF.out _ s3 (by omega) (CS.out.wk.below (Below.refl _ _).drew)).mono ?_
        rintro e w' ⟨rfl, hg', hw'⟩
        exact ⟨rfl, hg', hw'⟩
      rintro a' w5 w6 v' ⟨y0, y1, y2, y3, y4, y5, y6, rfl⟩ hD hg5 hgr6 hown6 hp6
      simp only [Act.put, List.setIfInBounds_toArray, List.set_cons_succ, List.set_cons_zero]
      have CX := CS.out.app hg5 hD hgr6 hown6 hp6
      obtain ⟨d_o, d_n, d_m, rfl⟩ := CX.slice
      obtain ⟨WD, hWnew⟩ : ∃ W', W' = w6.setCell ⟨k + 1, 2, none⟩ (.slice d_o d_n d_m) := ⟨_, rfl⟩
      rw [← hWnew] at CX ⊢
      replace CS : Hid (Cst W0 w WD g E Lv k t ⟨t.text, (t.pos : Int), [] ++ [(figW E T s3).1], false, false⟩ (.slice d_o d_n d_m) (figW E T s3).2) := CX
      clear CX hWnew hD hg5 hgr6 hown6 hp6
      replace CS : Hid (Cst W0 w WD g E Lv k t ⟨t.text, (t.pos : Int), [(figW E T s3).1], false, false⟩ (.slice d_o d_n d_m) (figW E T s3).2) := CS.out
      obtain ⟨f, s4, hF⟩ : ∃ f s4, figW E T s3 = (f, s4) := ⟨_, _, rfl⟩
      have h4i : s4.i ≤ 5902 := by have := fig_i E T s3; rw [hF] at this; show s4.i ≤ _; have h' : s4.i = s3.i + 1 := this; omega
      rw [hF] at CS
      have HF : Hid (figW E T (headW E T had s) = (f, s4)) := by show _ = _; rw [HHD.out]; exact hF
      replace CS : Hid (Cst W0 w WD g E Lv k t ⟨t.text, (t.pos : Int), [f], false, false⟩ (.slice d_o d_n d_m) s4) := CS.out
      have HAD : Hid (isAddrW (nx E T s).text = false ∧ isPortW (nx E T s).text = true) := by show _ ∧ _; rw [← HT.out]; rw [HTX.out.1]; exact ⟨rfl, rfl⟩
      clear hF HHD HNH h2i h3i hsi e0 e1 e2 e3 e4 e5
      go_wp2_with fail
      go_loop [10] (fun x => x = .int .i64 0) (fun _ => 0)
      case atStart => rfl
      case round =>
        subst hrel
        go_wp2_with fail
        have f0 := tok_f0 (nx E T s4)
        refine (CN.out _ s4 CS.out.wk).mono ?_
        rintro e WF ⟨rfl, hbF⟩
        replace CS : Hid (Cst W0 w WF g E Lv k t ⟨t.text, (t.pos : Int), [f], false, false⟩ (.slice d_o d_n d_m) s4) := CS.out.below hbF
        clear hbF
        by_cases hk4 : (nx E T s4).kind = 5
        · have hk' : (((nx E T s4).kind : Int) == 5) = true := by simp; omega
          have KK : Hid ((nx E T s4).kind = 5) := hk4
          have CG := CS.out.flag 4 ⟨t.text, (t.pos : Int), [f], false, true⟩ rfl rfl
          have CH := CG.step
          obtain ⟨_, g1, _, _, _, gz⟩ := wk_cells CG.wk
          have gz1 := gz 1
          have c3 : WF.cell? ⟨k + 1, 4, none⟩ = some (.bool false) := by rw [cell_of_row _ _ _ _ _ _ CS.out.cl]; rfl
          have f3 : WF.frozen? ⟨k + 1, 4, none⟩ = false := tc_frozen CS.out.cl rfl
          have HCH : Hid (Cst W0 w ((WF.setCell ⟨k + 1, 4, none⟩ (.bool true)).setCell ⟨g, 1, none⟩ (.int .i64 ((s4.i : Int) + 1))) g E Lv k t ⟨t.text, (t.pos : Int), [f], false, true⟩ (.slice d_o d_n d_m) (stepW s4)) := CH
          have hsi5 : (stepW s4).i ≤ 6000 := by show s4.i + 1 ≤ _; omega
          clear CG CH gz hk4
          go_wp2_with fail
          obtain ⟨WG, hWG⟩ : ∃ W', W' = ((WF.setCell ⟨k + 1, 4, none⟩ (.bool true)).setCell ⟨g, 1, none⟩ (.int .i64 ((s4.i : Int) + 1))) := ⟨_, rfl⟩
          rw [← hWG] at HCH ⊢
          replace CS : Hid (Cst W0 w WG g E Lv k t ⟨t.text, (t.pos : Int), [f], false, true⟩ (.slice d_o d_n d_m) (stepW s4)) := HCH.out
          clear HCH hWG g1 gz1 c3 f3
          refine ref26_region (Nat.le_of_ble_eq_true rfl) g (k + 1) rfl rfl _ CS.out.cl (.slice d_o d_n d_m) rfl (by have := CS.out.hk; have := CS.out.hg; omega) ([f]) w.heap.size CS.out.own (by simp; try omega) (Nat.le_of_lt (Nat.lt_trans CS.out.hk (Nat.lt_of_succ_lt CS.out.size))) CS.out.hg.2 (figW E T (stepW s4)).1 (fun w' => Wk W0 w' g E Lv (figW E T (stepW s4)).2) ?_ ?_
          · refine (CF.out _ (stepW s4) (by omega) (CS.out.wk.below (Below.refl _ _).drew)).mono ?_
            rintro e w' ⟨rfl, hg', hw'⟩
            exact ⟨rfl, hg', hw'⟩
          rintro a' w5 w6 v' ⟨y0, y1, y2, y3, y4, y5, y6, rfl⟩ hD hg5 hgr6 hown6 hp6
          simp only [Act.put, List.setIfInBounds_toArray, List.set_cons_succ, List.set_cons_zero]
          have CX := CS.out.app hg5 hD hgr6 hown6 hp6
          obtain ⟨z_o, z_n, z_m, rfl⟩ := CX.slice
          obtain ⟨WH, hWnew⟩ : ∃ W', W' = w6.setCell ⟨k + 1, 2, none⟩ (.slice z_o z_n z_m) := ⟨_, rfl⟩
          rw [← hWnew] at CX ⊢
          replace CS : Hid (Cst W0 w WH g E Lv k t ⟨t.text, (t.pos : Int), [f] ++ [(figW E T (stepW s4)).1], false, true⟩ (.slice z_o z_n z_m) (figW E T (stepW s4)).2) := CX
          clear CX hWnew hD hg5 hgr6 hown6 hp6
          go_wp2_with (first
            | (refine wl_loadE (E := ClaE) ClaOk rfl _ rfl (k + 1) 0 rfl _ _ _ (claV ⟨t.text, (t.pos : Int), [f] ++ [(figW E T (stepW s4)).1], false, true⟩ (.slice z_o z_n z_m)) rfl CS.out.cl (own_cells _ _) ?_)
            | (refine wl_storeE (E := ClaE) ClaOk rfl _ _ rfl w.heap.size (claV ⟨t.text, (t.pos : Int), [f] ++ [(figW E T (stepW s4)).1], false, true⟩ (.slice z_o z_n z_m)) (cla_fits _ _ ⟨_, _, _, rfl⟩) rfl rfl _ CS.out.r0 rfl _ rfl ?_))
          refine retE (E := ClaE) ClaOk rfl rfl w.heap.size rfl (claV ⟨t.text, (t.pos : Int), [f] ++ [(figW E T (stepW s4)).1], false, true⟩ (.slice z_o z_n z_m)) rfl (setRow_heap _ _ _ _ _ _ CS.out.r0) ?_
          have HRR : Hid (R = (⟨t.text, (t.pos : Int), [f] ++ [(figW E T (stepW s4)).1], false, true⟩, (figW E T (stepW s4)).2)) := by show _ = _; rw [HR.out, cw_port5 HAD.out.1 HAD.out.2 (by rw [HF.out]; exact KK.out), HF.out, ← HT.out]; 
          rw [HRR.out]
          exact ⟨_, rfl, own_setRow CS.out.own CS.out.r0 (by decide) _, gb_setRow CS.out.gr (.inr (Nat.le_refl _)) _, wk_setRow CS.out.wk (by omega) (by omega) _⟩
        · have hk' : (((nx E T s4).kind : Int) == 5) = false := by simp; omega
          have KK : Hid (¬ (nx E T s4).kind = 5) := hk4
          clear hk4
          go_wp2_with (first
            | (refine wl_loadE (E := ClaE) ClaOk rfl _ rfl (k + 1) 0 rfl _ _ _ (claV ⟨t.text, (t.pos : Int), [f], false, false⟩ (.slice d_o d_n d_m)) rfl CS.out.cl (own_cells _ _) ?_)
            | (refine wl_storeE (E := ClaE) ClaOk rfl _ _ rfl w.heap.size (claV ⟨t.text, (t.pos : Int), [f], false, false⟩ (.slice d_o d_n d_m)) (cla_fits _ _ ⟨_, _, _, rfl⟩) rfl rfl _ CS.out.r0 rfl _ rfl ?_))
          refine retE (E := ClaE) ClaOk rfl rfl w.heap.size rfl (claV ⟨t.text, (t.pos : Int), [f], false, false⟩ (.slice d_o d_n d_m)) rfl (setRow_heap _ _ _ _ _ _ CS.out.r0) ?_
          have HRR : Hid (R = (⟨t.text, (t.pos : Int), [f], false, false⟩, s4)) := by show _ = _; rw [HR.out, cw_portN HAD.out.1 HAD.out.2 (by rw [HF.out]; exact KK.out), HF.out, ← HT.out]; 
          rw [HRR.out]
          exact ⟨_, rfl, own_setRow CS.out.own CS.out.r0 (by decide) _, gb_setRow CS.out.gr (.inr (Nat.le_refl _)) _, wk_setRow CS.out.wk (by omega) (by omega) _⟩

set_option maxHeartbeats 8000000 in
set_option maxRecDepth 10000 in
theorem rclause_proto (W0 w : World) (g E : Nat) (Lv : Value) (T : List Tok) (hL : GSl TokE encT W0 Lv T) (had : List Cla) (hv : Value) (Bh : Nat) (s : Ws) (hi : s.i ≤ 5900) (ht : (nx E T s).text = wProto) (hBh : g < Bh) (hh : ClasOwn Bh w had hv) (hhl : had.length ≤ 5000) (h : Wk W0 w g E Lv s) :
    Calls Tryd.prog 74 #[.pointer (some ⟨g, 0, none⟩), hv] w fun e w' => ∃ u, e = .returned (.agg (claV (clauseW E T had s).1 u)) ∧ w'.ownsRow w.heap.size 48 2 u (clauseW E T had s).1.nums.length (gcells figV (clauseW E T had s).1.nums) ∧ w.grownBy w' (some g) ∧ Wk W0 w' g E Lv (clauseW E T had s).2 := by
  have CN : Hid (∀ W s, Wk W0 W g E Lv s → Calls Tryd.prog 71 #[.pointer (some ⟨g, 0, none⟩)] W fun e w' => e = .returned (.agg (encT (nx E T s))) ∧ Below W.heap.size W w') := fun W s h => next_any W0 W g E Lv T hL s h
  have CW8 : Hid (∀ W s, Wk W0 W g E Lv s → Calls Tryd.prog 45 #[.pointer (some ⟨g, 0, none⟩), .int .i64 8] W fun e' w' => e' = .returned (.tuple #[]) ∧ W.grownBy w' (some g) ∧ Wk W0 w' g E Lv (wrong E T 8 s)) := fun W s h => wrong_any W0 W g E Lv T hL 8 s h
  have CW9 : Hid (∀ W s, Wk W0 W g E Lv s → Calls Tryd.prog 45 #[.pointer (some ⟨g, 0, none⟩), .int .i64 9] W fun e' w' => e' = .returned (.tuple #[]) ∧ W.grownBy w' (some g) ∧ Wk W0 w' g E Lv (wrong E T 9 s)) := fun W s h => wrong_any W0 W g E Lv T hL 9 s h
  have CF : Hid (∀ W s, s.i ≤ 6000 → Wk W0 W g E Lv s → Calls Tryd.prog 73 #[.pointer (some ⟨g, 0, none⟩)] W fun e' w' => e' = .returned (.agg (figV (figW E T s).1)) ∧ W.grownBy w' (some g) ∧ Wk W0 w' g E Lv (figW E T s).2) := fun W s hi h => figure_any6 W0 W g E Lv T hL s hi h
  have CK : Hid (∀ W s, s.i ≤ 6000 → Wk W0 W g E Lv s → Calls Tryd.prog 75 #[.pointer (some ⟨g, 0, none⟩), .int .i64 3] W fun e' w' => e' = .returned (.agg (encT (kindW E T 3 s).1)) ∧ W.grownBy w' (some g) ∧ Wk W0 w' g E Lv (kindW E T 3 s).2) := fun W s hi h => kind_any6 W0 W g E Lv T hL 3 s hi h
  have hgl := h.size
  obtain ⟨R, hR⟩ : ∃ R, R = clauseW E T had s := ⟨_, rfl⟩
  rw [← hR]
  have HR : Hid (R = clauseW E T had s) := hR
  obtain ⟨t, hnt⟩ : ∃ t, t = nx E T s := ⟨_, rfl⟩
  rw [← hnt] at ht
  have HT : Hid (t = nx E T s) := hnt
  have e0 : (t.text == [115, 114, 99]) = false := by rw [ht]; rfl
  have e1 : (t.text == [100, 115, 116]) = false := by rw [ht]; rfl
  have e2 : (t.text == [115, 112, 111, 114, 116]) = false := by rw [ht]; rfl
  have e3 : (t.text == [100, 112, 111, 114, 116]) = false := by rw [ht]; rfl
  have e4 : (t.text == [112, 114, 111, 116, 111]) = true := by rw [ht]; rfl
  have e5 : (t.text != [112, 114, 111, 116, 111]) = false := by rw [ht]; rfl
  have H : Hid (Wk W0 w g E Lv s) := h
  have HH : Hid (ClasOwn Bh w had hv) := hh
  have HTX : Hid (_ ∧ True) := ⟨ht, trivial⟩
  clear h hR hh hL hnt ht
  go_enter Tryd.func74, Tryd.ntmps74
  go_wp2_with fail
  refine (CN.out _ s (H.out.alloc _)).mono ?_
  rw [← HT.out]
  rintro e w1 ⟨rfl, hb1⟩
  have B1 : Below w.heap.size w w1 := ((Below.refl _ _).alloc (Nat.le_refl _) _).trans (hb1.mono (by simp))
  have z1 : w.heap.size < w1.heap.size := by have := hb1.size; simp at this; omega
  have C0 : Cst W0 w ((w1.alloc (.cells (encT t) 90)).alloc (.cells (claV ⟨t.text, (t.pos : Int), [], false, false⟩ (.slice none 0 0)) 54)) g E Lv w1.heap.size t ⟨t.text, (t.pos : Int), [], false, false⟩ (.slice none 0 0) s :=
    ⟨((H.out.below B1).alloc _).alloc _, gb_alloc (gb_alloc (grown_below B1) _) _, heap_past _ _ _ _ (heap_new _ _ _ rfl), heap_new _ _ _ (by simp), heap_past _ _ _ _ (heap_past _ _ _ _ ((hb1.block _ (by simp)).trans (heap_new _ _ _ rfl))), World.ownsRow_nil _ _ _ _, z1, hgl⟩
  have q1 := tok_cells (heap_new w1 (.cells (encT t) 90) _ rfl)
  have q2 := fun x => tok_cells (heap_past _ x _ _ (heap_new w1 (.cells (encT t) 90) _ rfl))
  have t1 := q1.2.1
  have t2 := q1.2.2.1
  have t5 := fun x => (q2 x).2.1
  have t6 := fun x => (q2 x).2.2.1
  obtain ⟨k, hk⟩ : ∃ k, k = w1.heap.size := ⟨_, rfl⟩
  obtain ⟨WA, hWA⟩ : ∃ WA, WA = ((w1.alloc (.cells (encT t) 90)).alloc (.cells (claV ⟨t.text, (t.pos : Int), [], false, false⟩ (.slice none 0 0)) 54)) := ⟨_, rfl⟩
  rw [← hWA] at C0
  have HWA : Hid (WA = ((w1.alloc (.cells (encT t) 90)).alloc (.cells (claV ⟨t.text, (t.pos : Int), [], false, false⟩ (.slice none 0 0)) 54)) ∧ k = w1.heap.size) := ⟨hWA, hk⟩
  have CS : Hid (Cst W0 w WA g E Lv k t ⟨t.text, (t.pos : Int), [], false, false⟩ (.slice none 0 0) s) := by rw [hk]; exact C0
  have hbw : Below w.heap.size w w1 := B1
  have HHA : Hid (ClasOwn Bh WA had hv) := by show ClasOwn _ _ _ _; rw [hWA]; exact ((HH.out.below hbw).below ((Below.refl _ _).alloc (Nat.le_refl _) _)).below ((Below.refl _ _).alloc (Nat.le_refl _) _)
  clear q1 q2 hb1 B1 C0 hWA hk hbw
  go_wp2_with (first
    | (refine wl_storeE (E := TokE) TokOk rfl _ _ rfl w1.heap.size (encT t) (tv_fits _ _ _ _) rfl rfl _ (heap_new _ _ _ rfl) rfl _ (setRow_new _ _ _ _ _ rfl) ?_)
    | (refine wl_storeE (E := ClaE) ClaOk rfl _ _ rfl (w1.heap.size + 1) (claV ⟨t.text, (t.pos : Int), [], false, false⟩ (.slice none 0 0)) (cla_fits _ _ ⟨_, _, _, rfl⟩) rfl rfl _ (heap_new _ _ _ (by simp)) rfl _ (setRow_new _ _ _ _ _ (by simp)) ?_))
  rw [← HWA.out.1, ← HWA.out.2]
  clear t1 t2 t5 t6
  obtain ⟨oh, caph, rfl, hch, hcm⟩ := NSl.slice (NOwn.sl (fun _ _ => rfl) HHA.out)
  unfold maxLen at hcm
  obtain ⟨nh, hnh⟩ : ∃ nh, nh = had.length := ⟨_, rfl⟩
  have HNH : Hid (nh = had.length) := hnh
  rw [← hnh] at hhl hch HHA ⊢
  clear hnh
  have hsi : (s).i = s.i := by first | rfl | exact wrong_i E T 8 s
  go_loopw [9] (fun x wr => ∃ j : Nat, j ≤ nh ∧ x = .int .i64 (j : Int) ∧ Cst W0 w wr g E Lv k t ⟨t.text, (t.pos : Int), [], false, false⟩ (.slice none 0 0) (hadS E T (had.take j) t.text s) ∧ ClasOwn Bh wr had (.slice oh nh caph)) (fun x _ => nh - (intOf x).toNat)
  case atStart => exact ⟨0, Nat.zero_le _, rfl, CS.out, HHA.out⟩
  case round =>
    obtain ⟨j, hj, rfl, C1, hcl⟩ := hrel
    clear CS HHA
    by_cases hlt : j < nh
    · obtain ⟨g2, off2, cur2, ty2, fr2, c2, u2, rfl, hg2, hc2, hCj, _⟩ := NSl.at (NOwn.sl (fun _ _ => rfl) hcl) j hlt
      have l0 : ∀ u : Later wr, u.world.cell? ⟨g2, off2 + j * 5, none⟩ = some (.string ⟨c2.word.toArray⟩) := later_cell6 hg2 (hc2 0 (by decide))
      have l1 : ∀ u : Later wr, u.world.cell? ⟨k, 2, none⟩ = some (.string ⟨t.text.toArray⟩) := later_cell6 C1.tok rfl
      have CS : Hid (Cst W0 w wr g E Lv k t ⟨t.text, (t.pos : Int), [], false, false⟩ (.slice none 0 0) (hadS E T (had.take j) t.text s)) := C1
      have HCL : Hid (ClasOwn Bh wr had (.slice (some ⟨g2, off2, none⟩) nh caph)) := hcl
      have HCJ : Hid (had[j]? = some c2) := hCj
      have hlt' : (j : Int) < (nh : Int) := by omega
      clear C1 hcl hg2 hc2 hCj
      go_wp2_with fail
      have ne1 := Later.ne wr
      refine wp_region_later (by kernel_rfl) (by kernel_rfl) ?_
      repeat first | (go_big_quiet_step (rfl)) | (refine q_nil rfl _ rfl _ rfl ?_; simp only [Act.put, List.setIfInBounds_toArray, List.set_cons_succ, List.set_cons_zero])
      refine wpQuiet_nil ?_
      rintro w' ⟨u, rfl⟩
      have CS2 := CS.out.below u.below
      have HCL2 := HCL.out.below u.below
      obtain ⟨W1, hW1⟩ : ∃ W1, W1 = u.world := ⟨_, rfl⟩
      rw [← hW1] at CS2 HCL2 ⊢
      clear l0 l1 ne1 hW1 CS HCL
      have CS : Hid (Cst W0 w W1 g E Lv k t ⟨t.text, (t.pos : Int), [], false, false⟩ (.slice none 0 0) (hadS E T (had.take j) t.text s)) := CS2
      have HCL : Hid (ClasOwn Bh W1 had (.slice (some ⟨g2, off2, none⟩) nh caph)) := HCL2
      clear CS2 HCL2
      by_cases hq : (c2.word == t.text) = true
      · have HS : Hid (hadS E T (had.take (j + 1)) t.text s = wrong E T 9 (hadS E T (had.take j) t.text s)) := hadS_yes HCJ.out hq
        rw [hq]
        clear hq
        go_wp2_with fail
        refine (CW9.out _ _ CS.out.wk).mono ?_
        rintro e W2 ⟨rfl, hg9, hw9⟩
        have CS2 : Hid (Cst W0 w W2 g E Lv k t ⟨t.text, (t.pos : Int), [], false, false⟩ (.slice none 0 0) (hadS E T (had.take (j + 1)) t.text s)) := by show Cst _ _ _ _ _ _ _ _ _ _ _; rw [HS.out]; exact CS.out.by hg9 hw9
        have HCL2 : Hid (ClasOwn Bh W2 had (.slice (some ⟨g2, off2, none⟩) nh caph)) := HCL.out.by hg9 hBh
        clear hg9 hw9
        go_wp2_with fail
        go_roundw
        case rel => exact ⟨j + 1, by omega, by go_num, CS2.out, HCL2.out⟩
        case measure => simp [intOf]; omega
      · have hq' : (c2.word == t.text) = false := by simpa using hq
        have HS : Hid (hadS E T (had.take (j + 1)) t.text s = hadS E T (had.take j) t.text s) := hadS_no HCJ.out hq'
        rw [hq']
        clear hq hq'
        go_wp2_with fail
        go_roundw
        case rel => exact ⟨j + 1, by omega, by go_num, by rw [HS.out]; exact CS.out, HCL.out⟩
        case measure => simp [intOf]; omega
    · have hlt' : (nh : Int) ≤ (j : Int) := by omega
      have hjl : had.take j = had := List.take_of_length_le (by have := HNH.out; omega)
      rw [hjl] at C1
      obtain ⟨s2, hs2⟩ : ∃ s2, s2 = hadS E T had t.text s := ⟨_, rfl⟩
      rw [← hs2] at C1
      have HHD : Hid (headW E T had s = stepW s2) := by
        show _ = _
        rw [hs2, HT.out]
        exact head_ok (by rw [← HT.out]; rw [HTX.out.1]; rfl)
      have h2i : s2.i ≤ 5900 := by rw [hs2, hadS_i, hsi]; exact hi
      obtain ⟨_, c1, _, _, _, fz⟩ := wk_cells C1.wk
      have f1 := fz 1
      have CS : Hid (Cst W0 w wr g E Lv k t ⟨t.text, (t.pos : Int), [], false, false⟩ (.slice none 0 0) s2) := C1
      clear C1 hcl hlt hjl hs2 fz
      go_wp2_with fail
      have CX := CS.out.step
      obtain ⟨WC, hWC⟩ : ∃ W', W' = wr.setCell ⟨g, 1, none⟩ (.int .i64 ((s2.i : Int) + 1)) := ⟨_, rfl⟩
      rw [← hWC] at CX ⊢
      replace CS : Hid (Cst W0 w WC g E Lv k t ⟨t.text, (t.pos : Int), [], false, false⟩ (.slice none 0 0) (stepW s2)) := CX
      obtain ⟨s3, hs3⟩ : ∃ s3, s3 = stepW s2 := ⟨_, rfl⟩
      rw [← hs3] at CS HHD
      have h3i : s3.i ≤ 5901 := by rw [hs3]; show s2.i + 1 ≤ _; omega
      clear CX hWC hs3 c1 f1
      refine ref13_region (Nat.le_of_ble_eq_true rfl) g (k + 1) rfl rfl _ CS.out.cl (.slice none 0 0) rfl (by have := CS.out.hk; have := CS.out.hg; omega) ([]) w.heap.size CS.out.own (by simp; try omega) (Nat.le_of_lt (Nat.lt_trans CS.out.hk (Nat.lt_of_succ_lt CS.out.size))) CS.out.hg.2 (figW E T s3).1 (fun w' => Wk W0 w' g E Lv (figW E T s3).2) ?_ ?_
      · refine (CF.out _ s3 (by omega) (CS.out.wk.below (Below.refl _ _).drew)).mono ?_
        rintro e w' ⟨rfl, hg', hw'⟩
        exact ⟨rfl, hg', hw'⟩
      rintro a' w5 w6 v' ⟨y0, y1, y2, y3, y4, y5, y6, rfl⟩ hD hg5 hgr6 hown6 hp6
      simp only [Act.put, List.setIfInBounds_toArray, List.set_cons_succ, List.set_cons_zero]
      have CX := CS.out.app hg5 hD hgr6 hown6 hp6
      obtain ⟨d_o, d_n, d_m, rfl⟩ := CX.slice
      obtain ⟨WD, hWnew⟩ : ∃ W', W' = w6.setCell ⟨k + 1, 2, none⟩ (.slice d_o d_n d_m) := ⟨_, rfl⟩
      rw [← hWnew] at CX ⊢
      replace CS : Hid (Cst W0 w WD g E Lv k t ⟨t.text, (t.pos : Int), [] ++ [(figW E T s3).1], false, false⟩ (.slice d_o d_n d_m) (figW E T s3).2) := CX
      clear CX hWnew hD hg5 hgr6 hown6 hp6
      replace CS : Hid (Cst W0 w WD g E Lv k t ⟨t.text, (t.pos : Int), [(figW E T s3).1], false, false⟩ (.slice d_o d_n d_m) (figW E T s3).2) := CS.out
      obtain ⟨f, s4, hF⟩ : ∃ f s4, figW E T s3 = (f, s4) := ⟨_, _, rfl⟩
      have h4i : s4.i ≤ 5902 := by have := fig_i E T s3; rw [hF] at this; show s4.i ≤ _; have h' : s4.i = s3.i + 1 := this; omega
      rw [hF] at CS
      have HF : Hid (figW E T (headW E T had s) = (f, s4)) := by show _ = _; rw [HHD.out]; exact hF
      replace CS : Hid (Cst W0 w WD g E Lv k t ⟨t.text, (t.pos : Int), [f], false, false⟩ (.slice d_o d_n d_m) s4) := CS.out
      have HAD : Hid (isAddrW (nx E T s).text = false ∧ isPortW (nx E T s).text = false) := by show _ ∧ _; rw [← HT.out]; rw [HTX.out.1]; exact ⟨rfl, rfl⟩
      clear hF HHD HNH h2i h3i hsi e0 e1 e2 e3 e4 e5
      go_wp2_with fail
      go_loop [10] (fun x => x = .int .i64 0) (fun _ => 0)
      case atStart => rfl
      case round =>
        subst hrel
        go_wp2_with (first
          | (refine wl_loadE (E := ClaE) ClaOk rfl _ rfl (k + 1) 0 rfl _ _ _ (claV ⟨t.text, (t.pos : Int), [f], false, false⟩ (.slice d_o d_n d_m)) rfl CS.out.cl (own_cells _ _) ?_)
          | (refine wl_storeE (E := ClaE) ClaOk rfl _ _ rfl w.heap.size (claV ⟨t.text, (t.pos : Int), [f], false, false⟩ (.slice d_o d_n d_m)) (cla_fits _ _ ⟨_, _, _, rfl⟩) rfl rfl _ CS.out.r0 rfl _ rfl ?_))
        refine retE (E := ClaE) ClaOk rfl rfl w.heap.size rfl (claV ⟨t.text, (t.pos : Int), [f], false, false⟩ (.slice d_o d_n d_m)) rfl (setRow_heap _ _ _ _ _ _ CS.out.r0) ?_
        have HRR : Hid (R = (⟨t.text, (t.pos : Int), [f], false, false⟩, s4)) := by show _ = _; rw [HR.out, cw_none HAD.out.1 HAD.out.2, HF.out, ← HT.out]
        rw [HRR.out]
        exact ⟨_, rfl, own_setRow CS.out.own CS.out.r0 (by decide) _, gb_setRow CS.out.gr (.inr (Nat.le_refl _)) _, wk_setRow CS.out.wk (by omega) (by omega) _⟩

set_option maxHeartbeats 8000000 in
set_option maxRecDepth 10000 in
theorem rclause_other (W0 w : World) (g E : Nat) (Lv : Value) (T : List Tok) (hL : GSl TokE encT W0 Lv T) (had : List Cla) (hv : Value) (Bh : Nat) (s : Ws) (hi : s.i ≤ 5900) (ht : (nx E T s).text ≠ wSrc ∧ (nx E T s).text ≠ wDst ∧ (nx E T s).text ≠ wSport ∧ (nx E T s).text ≠ wDport ∧ (nx E T s).text ≠ wProto) (hBh : g < Bh) (hh : ClasOwn Bh w had hv) (hhl : had.length ≤ 5000) (h : Wk W0 w g E Lv s) :
    Calls Tryd.prog 74 #[.pointer (some ⟨g, 0, none⟩), hv] w fun e w' => ∃ u, e = .returned (.agg (claV (clauseW E T had s).1 u)) ∧ w'.ownsRow w.heap.size 48 2 u (clauseW E T had s).1.nums.length (gcells figV (clauseW E T had s).1.nums) ∧ w.grownBy w' (some g) ∧ Wk W0 w' g E Lv (clauseW E T had s).2 := by
  have CN : Hid (∀ W s, Wk W0 W g E Lv s → Calls Tryd.prog 71 #[.pointer (some ⟨g, 0, none⟩)] W fun e w' => e = .returned (.agg (encT (nx E T s))) ∧ Below W.heap.size W w') := fun W s h => next_any W0 W g E Lv T hL s h
  have CW8 : Hid (∀ W s, Wk W0 W g E Lv s → Calls Tryd.prog 45 #[.pointer (some ⟨g, 0, none⟩), .int .i64 8] W fun e' w' => e' = .returned (.tuple #[]) ∧ W.grownBy w' (some g) ∧ Wk W0 w' g E Lv (wrong E T 8 s)) := fun W s h => wrong_any W0 W g E Lv T hL 8 s h
  have CW9 : Hid (∀ W s, Wk W0 W g E Lv s → Calls Tryd.prog 45 #[.pointer (some ⟨g, 0, none⟩), .int .i64 9] W fun e' w' => e' = .returned (.tuple #[]) ∧ W.grownBy w' (some g) ∧ Wk W0 w' g E Lv (wrong E T 9 s)) := fun W s h => wrong_any W0 W g E Lv T hL 9 s h
  have CF : Hid (∀ W s, s.i ≤ 6000 → Wk W0 W g E Lv s → Calls Tryd.prog 73 #[.pointer (some ⟨g, 0, none⟩)] W fun e' w' => e' = .returned (.agg (figV (figW E T s).1)) ∧ W.grownBy w' (some g) ∧ Wk W0 w' g E Lv (figW E T s).2) := fun W s hi h => figure_any6 W0 W g E Lv T hL s hi h
  have CK : Hid (∀ W s, s.i ≤ 6000 → Wk W0 W g E Lv s → Calls Tryd.prog 75 #[.pointer (some ⟨g, 0, none⟩), .int .i64 3] W fun e' w' => e' = .returned (.agg (encT (kindW E T 3 s).1)) ∧ W.grownBy w' (some g) ∧ Wk W0 w' g E Lv (kindW E T 3 s).2) := fun W s hi h => kind_any6 W0 W g E Lv T hL 3 s hi h
  have hgl := h.size
  obtain ⟨R, hR⟩ : ∃ R, R = clauseW E T had s := ⟨_, rfl⟩
  rw [← hR]
  have HR : Hid (R = clauseW E T had s) := hR
  obtain ⟨t, hnt⟩ : ∃ t, t = nx E T s := ⟨_, rfl⟩
  rw [← hnt] at ht
  have HT : Hid (t = nx E T s) := hnt
  have e0 : (t.text == [115, 114, 99]) = false := by rw [beq_eq_false_iff_ne]; exact ht.1
  have e1 : (t.text == [100, 115, 116]) = false := by rw [beq_eq_false_iff_ne]; exact ht.2.1
  have e2 : (t.text == [115, 112, 111, 114, 116]) = false := by rw [beq_eq_false_iff_ne]; exact ht.2.2.1
  have e3 : (t.text == [100, 112, 111, 114, 116]) = false := by rw [beq_eq_false_iff_ne]; exact ht.2.2.2.1
  have e4 : (t.text == [112, 114, 111, 116, 111]) = false := by rw [beq_eq_false_iff_ne]; exact ht.2.2.2.2
  have e5 : (t.text != [112, 114, 111, 116, 111]) = true := by rw [bne, e4]; rfl
  have H : Hid (Wk W0 w g E Lv s) := h
  have HH : Hid (ClasOwn Bh w had hv) := hh
  have HTX : Hid (_ ∧ True) := ⟨ht, trivial⟩
  clear h hR hh hL hnt ht
  go_enter Tryd.func74, Tryd.ntmps74
  go_wp2_with fail
  refine (CN.out _ s (H.out.alloc _)).mono ?_
  rw [← HT.out]
  rintro e w1 ⟨rfl, hb1⟩
  have B1 : Below w.heap.size w w1 := ((Below.refl _ _).alloc (Nat.le_refl _) _).trans (hb1.mono (by simp))
  have z1 : w.heap.size < w1.heap.size := by have := hb1.size; simp at this; omega
  have C0 : Cst W0 w ((w1.alloc (.cells (encT t) 90)).alloc (.cells (claV ⟨t.text, (t.pos : Int), [], false, false⟩ (.slice none 0 0)) 54)) g E Lv w1.heap.size t ⟨t.text, (t.pos : Int), [], false, false⟩ (.slice none 0 0) s :=
    ⟨((H.out.below B1).alloc _).alloc _, gb_alloc (gb_alloc (grown_below B1) _) _, heap_past _ _ _ _ (heap_new _ _ _ rfl), heap_new _ _ _ (by simp), heap_past _ _ _ _ (heap_past _ _ _ _ ((hb1.block _ (by simp)).trans (heap_new _ _ _ rfl))), World.ownsRow_nil _ _ _ _, z1, hgl⟩
  have q1 := tok_cells (heap_new w1 (.cells (encT t) 90) _ rfl)
  have q2 := fun x => tok_cells (heap_past _ x _ _ (heap_new w1 (.cells (encT t) 90) _ rfl))
  have t1 := q1.2.1
  have t2 := q1.2.2.1
  have t5 := fun x => (q2 x).2.1
  have t6 := fun x => (q2 x).2.2.1
  obtain ⟨k, hk⟩ : ∃ k, k = w1.heap.size := ⟨_, rfl⟩
  obtain ⟨WA, hWA⟩ : ∃ WA, WA = ((w1.alloc (.cells (encT t) 90)).alloc (.cells (claV ⟨t.text, (t.pos : Int), [], false, false⟩ (.slice none 0 0)) 54)) := ⟨_, rfl⟩
  rw [← hWA] at C0
  have HWA : Hid (WA = ((w1.alloc (.cells (encT t) 90)).alloc (.cells (claV ⟨t.text, (t.pos : Int), [], false, false⟩ (.slice none 0 0)) 54)) ∧ k = w1.heap.size) := ⟨hWA, hk⟩
  have CS : Hid (Cst W0 w WA g E Lv k t ⟨t.text, (t.pos : Int), [], false, false⟩ (.slice none 0 0) s) := by rw [hk]; exact C0
  have hbw : Below w.heap.size w w1 := B1
  have HHA : Hid (ClasOwn Bh WA had hv) := by show ClasOwn _ _ _ _; rw [hWA]; exact ((HH.out.below hbw).below ((Below.refl _ _).alloc (Nat.le_refl _) _)).below ((Below.refl _ _).alloc (Nat.le_refl _) _)
  clear q1 q2 hb1 B1 C0 hWA hk hbw
  go_wp2_with (first
    | (refine wl_storeE (E := TokE) TokOk rfl _ _ rfl w1.heap.size (encT t) (tv_fits _ _ _ _) rfl rfl _ (heap_new _ _ _ rfl) rfl _ (setRow_new _ _ _ _ _ rfl) ?_)
    | (refine wl_storeE (E := ClaE) ClaOk rfl _ _ rfl (w1.heap.size + 1) (claV ⟨t.text, (t.pos : Int), [], false, false⟩ (.slice none 0 0)) (cla_fits _ _ ⟨_, _, _, rfl⟩) rfl rfl _ (heap_new _ _ _ (by simp)) rfl _ (setRow_new _ _ _ _ _ (by simp)) ?_))
  rw [← HWA.out.1, ← HWA.out.2]
  clear t1 t2 t5 t6
  refine (CW8.out _ s CS.out.wk).mono ?_
  rintro e WB ⟨rfl, hgB, hwB⟩
  replace CS : Hid (Cst W0 w WB g E Lv k t ⟨t.text, (t.pos : Int), [], false, false⟩ (.slice none 0 0) (wrong E T 8 s)) := CS.out.by hgB hwB
  replace HHA : Hid (ClasOwn Bh WB had hv) := HHA.out.by hgB hBh
  clear hgB hwB
  go_wp2_with fail
  obtain ⟨oh, caph, rfl, hch, hcm⟩ := NSl.slice (NOwn.sl (fun _ _ => rfl) HHA.out)
  unfold maxLen at hcm
  obtain ⟨nh, hnh⟩ : ∃ nh, nh = had.length := ⟨_, rfl⟩
  have HNH : Hid (nh = had.length) := hnh
  rw [← hnh] at hhl hch HHA ⊢
  clear hnh
  have hsi : ((wrong E T 8 s)).i = s.i := by first | rfl | exact wrong_i E T 8 s
  go_loopw [9] (fun x wr => ∃ j : Nat, j ≤ nh ∧ x = .int .i64 (j : Int) ∧ Cst W0 w wr g E Lv k t ⟨t.text, (t.pos : Int), [], false, false⟩ (.slice none 0 0) (hadS E T (had.take j) t.text (wrong E T 8 s)) ∧ ClasOwn Bh wr had (.slice oh nh caph)) (fun x _ => nh - (intOf x).toNat)
  case atStart => exact ⟨0, Nat.zero_le _, rfl, CS.out, HHA.out⟩
  case round =>
    obtain ⟨j, hj, rfl, C1, hcl⟩ := hrel
    clear CS HHA
    by_cases hlt : j < nh
    · obtain ⟨g2, off2, cur2, ty2, fr2, c2, u2, rfl, hg2, hc2, hCj, _⟩ := NSl.at (NOwn.sl (fun _ _ => rfl) hcl) j hlt
      have l0 : ∀ u : Later wr, u.world.cell? ⟨g2, off2 + j * 5, none⟩ = some (.string ⟨c2.word.toArray⟩) := later_cell6 hg2 (hc2 0 (by decide))
      have l1 : ∀ u : Later wr, u.world.cell? ⟨k, 2, none⟩ = some (.string ⟨t.text.toArray⟩) := later_cell6 C1.tok rfl
      have CS : Hid (Cst W0 w wr g E Lv k t ⟨t.text, (t.pos : Int), [], false, false⟩ (.slice none 0 0) (hadS E T (had.take j) t.text (wrong E T 8 s))) := C1
      have HCL : Hid (ClasOwn Bh wr had (.slice (some ⟨g2, off2, none⟩) nh caph)) := hcl
      have HCJ : Hid (had[j]? = some c2) := hCj
      have hlt' : (j : Int) < (nh : Int) := by omega
      clear C1 hcl hg2 hc2 hCj
      go_wp2_with fail
      have ne1 := Later.ne wr
      refine wp_region_later (by kernel_rfl) (by kernel_rfl) ?_
      repeat first | (go_big_quiet_step (rfl)) | (refine q_nil rfl _ rfl _ rfl ?_; simp only [Act.put, List.setIfInBounds_toArray, List.set_cons_succ, List.set_cons_zero])
      refine wpQuiet_nil ?_
      rintro w' ⟨u, rfl⟩
      have CS2 := CS.out.below u.below
      have HCL2 := HCL.out.below u.below
      obtain ⟨W1, hW1⟩ : ∃ W1, W1 = u.world := ⟨_, rfl⟩
      rw [← hW1] at CS2 HCL2 ⊢
      clear l0 l1 ne1 hW1 CS HCL
      have CS : Hid (Cst W0 w W1 g E Lv k t ⟨t.text, (t.pos : Int), [], false, false⟩ (.slice none 0 0) (hadS E T (had.take j) t.text (wrong E T 8 s))) := CS2
      have HCL : Hid (ClasOwn Bh W1 had (.slice (some ⟨g2, off2, none⟩) nh caph)) := HCL2
      clear CS2 HCL2
      by_cases hq : (c2.word == t.text) = true
      · have HS : Hid (hadS E T (had.take (j + 1)) t.text (wrong E T 8 s) = wrong E T 9 (hadS E T (had.take j) t.text (wrong E T 8 s))) := hadS_yes HCJ.out hq
        rw [hq]
        clear hq
        go_wp2_with fail
        refine (CW9.out _ _ CS.out.wk).mono ?_
        rintro e W2 ⟨rfl, hg9, hw9⟩
        have CS2 : Hid (Cst W0 w W2 g E Lv k t ⟨t.text, (t.pos : Int), [], false, false⟩ (.slice none 0 0) (hadS E T (had.take (j + 1)) t.text (wrong E T 8 s))) := by show Cst _ _ _ _ _ _ _ _ _ _ _; rw [HS.out]; exact CS.out.by hg9 hw9
        have HCL2 : Hid (ClasOwn Bh W2 had (.slice (some ⟨g2, off2, none⟩) nh caph)) := HCL.out.by hg9 hBh
        clear hg9 hw9
        go_wp2_with fail
        go_roundw
        case rel => exact ⟨j + 1, by omega, by go_num, CS2.out, HCL2.out⟩
        case measure => simp [intOf]; omega
      · have hq' : (c2.word == t.text) = false := by simpa using hq
        have HS : Hid (hadS E T (had.take (j + 1)) t.text (wrong E T 8 s) = hadS E T (had.take j) t.text (wrong E T 8 s)) := hadS_no HCJ.out hq'
        rw [hq']
        clear hq hq'
        go_wp2_with fail
        go_roundw
        case rel => exact ⟨j + 1, by omega, by go_num, by rw [HS.out]; exact CS.out, HCL.out⟩
        case measure => simp [intOf]; omega
    · have hlt' : (nh : Int) ≤ (j : Int) := by omega
      have hjl : had.take j = had := List.take_of_length_le (by have := HNH.out; omega)
      rw [hjl] at C1
      obtain ⟨s2, hs2⟩ : ∃ s2, s2 = hadS E T had t.text (wrong E T 8 s) := ⟨_, rfl⟩
      rw [← hs2] at C1
      have HHD : Hid (headW E T had s = stepW s2) := by
        show _ = _
        rw [hs2, HT.out]
        exact head_bad (by rw [← HT.out]; unfold okW isAddrW isPortW; rw [show (t.text == wSrc) = false from e0, show (t.text == wDst) = false from e1, show (t.text == wSport) = false from e2, show (t.text == wDport) = false from e3, show (t.text == wProto) = false from e4]; rfl)
      have h2i : s2.i ≤ 5900 := by rw [hs2, hadS_i, hsi]; exact hi
      obtain ⟨_, c1, _, _, _, fz⟩ := wk_cells C1.wk
      have f1 := fz 1
      have CS : Hid (Cst W0 w wr g E Lv k t ⟨t.text, (t.pos : Int), [], false, false⟩ (.slice none 0 0) s2) := C1
      clear C1 hcl hlt hjl hs2 fz
      go_wp2_with fail
      have CX := CS.out.step
      obtain ⟨WC, hWC⟩ : ∃ W', W' = wr.setCell ⟨g, 1, none⟩ (.int .i64 ((s2.i : Int) + 1)) := ⟨_, rfl⟩
      rw [← hWC] at CX ⊢
      replace CS : Hid (Cst W0 w WC g E Lv k t ⟨t.text, (t.pos : Int), [], false, false⟩ (.slice none 0 0) (stepW s2)) := CX
      obtain ⟨s3, hs3⟩ : ∃ s3, s3 = stepW s2 := ⟨_, rfl⟩
      rw [← hs3] at CS HHD
      have h3i : s3.i ≤ 5901 := by rw [hs3]; show s2.i + 1 ≤ _; omega
      clear CX hWC hs3 c1 f1
      refine ref13_region (Nat.le_of_ble_eq_true rfl) g (k + 1) rfl rfl _ CS.out.cl (.slice none 0 0) rfl (by have := CS.out.hk; have := CS.out.hg; omega) ([]) w.heap.size CS.out.own (by simp; try omega) (Nat.le_of_lt (Nat.lt_trans CS.out.hk (Nat.lt_of_succ_lt CS.out.size))) CS.out.hg.2 (figW E T s3).1 (fun w' => Wk W0 w' g E Lv (figW E T s3).2) ?_ ?_
      · refine (CF.out _ s3 (by omega) (CS.out.wk.below (Below.refl _ _).drew)).mono ?_
        rintro e w' ⟨rfl, hg', hw'⟩
        exact ⟨rfl, hg', hw'⟩
      rintro a' w5 w6 v' ⟨y0, y1, y2, y3, y4, y5, y6, rfl⟩ hD hg5 hgr6 hown6 hp6
      simp only [Act.put, List.setIfInBounds_toArray, List.set_cons_succ, List.set_cons_zero]
      have CX := CS.out.app hg5 hD hgr6 hown6 hp6
      obtain ⟨d_o, d_n, d_m, rfl⟩ := CX.slice
      obtain ⟨WD, hWnew⟩ : ∃ W', W' = w6.setCell ⟨k + 1, 2, none⟩ (.slice d_o d_n d_m) := ⟨_, rfl⟩
      rw [← hWnew] at CX ⊢
      replace CS : Hid (Cst W0 w WD g E Lv k t ⟨t.text, (t.pos : Int), [] ++ [(figW E T s3).1], false, false⟩ (.slice d_o d_n d_m) (figW E T s3).2) := CX
      clear CX hWnew hD hg5 hgr6 hown6 hp6
      replace CS : Hid (Cst W0 w WD g E Lv k t ⟨t.text, (t.pos : Int), [(figW E T s3).1], false, false⟩ (.slice d_o d_n d_m) (figW E T s3).2) := CS.out
      obtain ⟨f, s4, hF⟩ : ∃ f s4, figW E T s3 = (f, s4) := ⟨_, _, rfl⟩
      have h4i : s4.i ≤ 5902 := by have := fig_i E T s3; rw [hF] at this; show s4.i ≤ _; have h' : s4.i = s3.i + 1 := this; omega
      rw [hF] at CS
      have HF : Hid (figW E T (headW E T had s) = (f, s4)) := by show _ = _; rw [HHD.out]; exact hF
      replace CS : Hid (Cst W0 w WD g E Lv k t ⟨t.text, (t.pos : Int), [f], false, false⟩ (.slice d_o d_n d_m) s4) := CS.out
      have HAD : Hid (isAddrW (nx E T s).text = false ∧ isPortW (nx E T s).text = false) := by show _ ∧ _; rw [← HT.out]; unfold isAddrW isPortW; rw [show (t.text == wSrc) = false from e0, show (t.text == wDst) = false from e1, show (t.text == wSport) = false from e2, show (t.text == wDport) = false from e3]; exact ⟨rfl, rfl⟩
      clear hF HHD HNH h2i h3i hsi e0 e1 e2 e3 e4 e5
      go_wp2_with fail
      go_loop [10] (fun x => x = .int .i64 0) (fun _ => 0)
      case atStart => rfl
      case round =>
        subst hrel
        go_wp2_with (first
          | (refine wl_loadE (E := ClaE) ClaOk rfl _ rfl (k + 1) 0 rfl _ _ _ (claV ⟨t.text, (t.pos : Int), [f], false, false⟩ (.slice d_o d_n d_m)) rfl CS.out.cl (own_cells _ _) ?_)
          | (refine wl_storeE (E := ClaE) ClaOk rfl _ _ rfl w.heap.size (claV ⟨t.text, (t.pos : Int), [f], false, false⟩ (.slice d_o d_n d_m)) (cla_fits _ _ ⟨_, _, _, rfl⟩) rfl rfl _ CS.out.r0 rfl _ rfl ?_))
        refine retE (E := ClaE) ClaOk rfl rfl w.heap.size rfl (claV ⟨t.text, (t.pos : Int), [f], false, false⟩ (.slice d_o d_n d_m)) rfl (setRow_heap _ _ _ _ _ _ CS.out.r0) ?_
        have HRR : Hid (R = (⟨t.text, (t.pos : Int), [f], false, false⟩, s4)) := by show _ = _; rw [HR.out, cw_none HAD.out.1 HAD.out.2, HF.out, ← HT.out]
        rw [HRR.out]
        exact ⟨_, rfl, own_setRow CS.out.own CS.out.r0 (by decide) _, gb_setRow CS.out.gr (.inr (Nat.le_refl _)) _, wk_setRow CS.out.wk (by omega) (by omega) _⟩
end Go.Proofs.YtfamnloobmdhdaaDoor
