import Derived.Test.YtanmbaleadcfgaaRwBase
namespace Go.Proofs.Ytanmbaleadcfgaa
open Go Go.RowKit

theorem nx_i (E : Nat) (T : List Tok) (i b p b' p' : Nat) : nx E T ⟨i, b, p⟩ = nx E T ⟨i, b', p'⟩ := rfl

set_option maxHeartbeats 4000000 in
theorem wrong_any (W0 w : World) (g E : Nat) (Lv : Value) (T : List Tok) (hL : GSl TokE encT W0 Lv T) (e : Nat) (s : Ws) (h : Wk W0 w g E Lv s) :
    Calls Try.prog 14 #[.pointer (some ⟨g, 0, none⟩), .int .i64 (e : Int)] w fun e' w' => e' = .returned (.tuple #[]) ∧ w.grownBy w' (some g) ∧ Wk W0 w' g E Lv (wrong E T e s) := by
  have CN : Hid (∀ W s, Wk W0 W g E Lv s → Calls Try.prog 24 #[.pointer (some ⟨g, 0, none⟩)] W fun e w' => e = .returned (.agg (encT (nx E T s))) ∧ Below W.heap.size W w') := fun W s h => next_any W0 W g E Lv T hL s h
  obtain ⟨c0, c1, c2, c3, c4, fz⟩ := wk_cells h
  have H : Hid (Wk W0 w g E Lv s) := h
  clear hL h
  by_cases hb : s.bad = 0
  · have HW : Hid (wrong E T e s = ⟨s.i, e, (nx E T s).pos⟩) := wrong_is hb
    have c3' : ((s.bad : Int) == 0) = true := by simp; omega
    have H2 : Hid (Wk W0 (w.setCell ⟨g, 3, none⟩ (.int .i64 (e : Int))) g E Lv ⟨s.i, e, s.pos⟩) := wk_set H.out 3 _ _ rfl
    clear hb
    go_enter Try.func14, Try.ntmps14
    go_wp2_with fail
    refine (CN.out _ _ H2.out).mono ?_
    rintro e1 w1 ⟨rfl, hb1⟩
    have hf := tok_f1 (nx E T ⟨s.i, e, s.pos⟩)
    have H3 := H2.out.below hb1
    obtain ⟨d0, d1, d2, d3, d4, dz⟩ := wk_cells H3
    have HK : Hid (_ ∧ _) := ⟨H3, hb1⟩
    clear H3 hb1 c0 c1 c2 c3 c4 fz d0 d1 d2 d3
    go_wp2_with fail
    go_end0
    rw [HW.out]
    refine ⟨rfl, gb_setCell (grown_trans (gb_setCell (gb_refl w g) (.inl rfl) _ _) (grown_below HK.out.2)) (.inl rfl) _ _, ?_⟩
    exact wk_set HK.out.1 4 _ _ rfl
  · have HW : Hid (wrong E T e s = s) := if_neg hb
    have c3' : ((s.bad : Int) == 0) = false := by simp; omega
    clear hb
    go_enter Try.func14, Try.ntmps14
    go_wp2_with fail
    go_end0
    rw [HW.out]
    exact ⟨rfl, gb_refl _ _, H.out⟩

theorem kindW_1 (E : Nat) (T : List Tok) (k : Nat) (s : Ws) : (kindW E T k s).1 = nx E T s := rfl
theorem kindW_yes {E : Nat} {T : List Tok} {k : Nat} {s : Ws} (h : (nx E T s).kind = k) : (kindW E T k s).2 = stepW s := by unfold kindW; simp only [h, if_true]
theorem kindW_no {E : Nat} {T : List Tok} {k : Nat} {s : Ws} (h : ¬ (nx E T s).kind = k) : (kindW E T k s).2 = stepW (wrong E T 8 s) := by unfold kindW; simp only [h, if_false]

set_option maxHeartbeats 4000000 in
theorem kind_any6 (W0 w : World) (g E : Nat) (Lv : Value) (T : List Tok) (hL : GSl TokE encT W0 Lv T) (k : Nat) (s : Ws) (hi : s.i ≤ 6000) (h : Wk W0 w g E Lv s) :
    Calls Try.prog 28 #[.pointer (some ⟨g, 0, none⟩), .int .i64 (k : Int)] w fun e' w' => e' = .returned (.agg (encT (kindW E T k s).1)) ∧ w.grownBy w' (some g) ∧ Wk W0 w' g E Lv (kindW E T k s).2 := by
  have CN : Hid (∀ W s, Wk W0 W g E Lv s → Calls Try.prog 24 #[.pointer (some ⟨g, 0, none⟩)] W fun e w' => e = .returned (.agg (encT (nx E T s))) ∧ Below W.heap.size W w') := fun W s h => next_any W0 W g E Lv T hL s h
  have CW : Hid (∀ W s, Wk W0 W g E Lv s → Calls Try.prog 14 #[.pointer (some ⟨g, 0, none⟩), .int .i64 8] W fun e' w' => e' = .returned (.tuple #[]) ∧ W.grownBy w' (some g) ∧ Wk W0 w' g E Lv (wrong E T 8 s)) := fun W s h => wrong_any W0 W g E Lv T hL 8 s h
  have hgl := h.size
  have H : Hid (Wk W0 w g E Lv s) := h
  rw [kindW_1]
  clear hL h
  by_cases hk : (nx E T s).kind = k
  · have HW : Hid ((kindW E T k s).2 = ⟨s.i + 1, s.bad, s.pos⟩) := kindW_yes hk
    have hk' : (((nx E T s).kind : Int) != (k : Int)) = false := by simp; omega
    obtain ⟨t, ht⟩ : ∃ t, t = nx E T s := ⟨_, rfl⟩
    rw [← ht] at hk' ⊢
    have HT : Hid (t = nx E T s) := ht
    clear hk ht
    go_enter Try.func28, Try.ntmps28
    go_wp2_with fail
    refine (CN.out _ s (H.out.alloc _)).mono ?_
    rw [← HT.out]
    rintro e w1 ⟨rfl, hb1⟩
    have B1 : Below w.heap.size w w1 := ((Below.refl _ _).alloc (Nat.le_refl _) _).trans (hb1.mono (by simp))
    have z1 : w.heap.size < w1.heap.size := by have := hb1.size; simp at this; omega
    have H1 := H.out.below B1
    have hr1 : w1.heap[w.heap.size]? = some (.cells (tv 0 0 ⟨#[]⟩ 0) 33 (0, 0)) := (hb1.block _ (by simp)).trans (heap_new _ _ _ rfl)
    have H2 := H1.alloc (.cells (encT t) 33)
    obtain ⟨_, c1, _, _, _, fz⟩ := wk_cells H2
    have f1 := fz 1
    obtain ⟨t0, t1, t2, t3⟩ := tok_cells (heap_new w1 (.cells (encT t) 33) _ rfl)
    have H3 : Hid (Wk W0 ((w1.alloc (.cells (encT t) 33)).setCell ⟨g, 1, none⟩ (.int .i64 ((s.i : Int) + 1))) g E Lv ⟨s.i + 1, s.bad, s.pos⟩) := wk_set H2 1 _ _ rfl
    have hrr : Hid (((w1.alloc (.cells (encT t) 33)).setCell ⟨g, 1, none⟩ (.int .i64 ((s.i : Int) + 1))).heap[w.heap.size]? = some (.cells (tv 0 0 ⟨#[]⟩ 0) 33 (0, 0))) := (tc_far (by omega) _).trans (heap_past _ _ _ _ hr1)
    have hrt : Hid (((w1.alloc (.cells (encT t) 33)).setCell ⟨g, 1, none⟩ (.int .i64 ((s.i : Int) + 1))).heap[w1.heap.size]? = some (.cells (encT t) 33 (0, 0))) := (tc_far (by omega) _).trans (heap_new _ _ _ rfl)
    have HG : Hid (w.grownBy ((w1.alloc (.cells (encT t) 33)).setCell ⟨g, 1, none⟩ (.int .i64 ((s.i : Int) + 1))) (some g)) := gb_setCell (gb_alloc (grown_below B1) _) (.inl rfl) _ _
    clear hb1 B1 H1 hr1 H2 fz
    go_wp2_with (first
      | (refine wl_storeE (E := TokE) TokOk rfl _ _ rfl w1.heap.size (encT t) (tv_fits _ _ _ _) rfl rfl _ (heap_new _ _ _ rfl) rfl _ (setRow_new _ _ _ _ _ rfl) ?_)
      | (refine wl_loadE (E := TokE) TokOk rfl _ rfl w1.heap.size 0 rfl _ _ _ (encT t) rfl hrt.out (own_cells _ _) ?_)
      | (refine wl_storeE (E := TokE) TokOk rfl _ _ rfl w.heap.size (encT t) (tv_fits _ _ _ _) rfl rfl _ hrr.out rfl _ rfl ?_))
    refine retE (E := TokE) TokOk rfl rfl w.heap.size rfl (encT t) rfl (setRow_heap _ _ _ _ _ _ hrr.out) ?_
    rw [HW.out]
    exact ⟨rfl, gb_setRow HG.out (.inr (Nat.le_refl _)) _, wk_setRow H3.out (by omega) (by omega) _⟩
  · have HW : Hid ((kindW E T k s).2 = stepW (wrong E T 8 s)) := kindW_no hk
    have hk' : (((nx E T s).kind : Int) != (k : Int)) = true := by simp; omega
    obtain ⟨t, ht⟩ : ∃ t, t = nx E T s := ⟨_, rfl⟩
    rw [← ht] at hk' ⊢
    have HT : Hid (t = nx E T s) := ht
    obtain ⟨s', hs'⟩ : ∃ s', s' = wrong E T 8 s := ⟨_, rfl⟩
    have hsi : s'.i = s.i := by rw [hs', wrong_i]
    have hs6 : s'.i ≤ 6000 := by omega
    rw [← hs'] at HW
    have HS : Hid (s' = wrong E T 8 s) := hs'
    clear hk ht hs' hsi
    go_enter Try.func28, Try.ntmps28
    go_wp2_with fail
    refine (CN.out _ s (H.out.alloc _)).mono ?_
    rw [← HT.out]
    rintro e w1 ⟨rfl, hb1⟩
    have B1 : Below w.heap.size w w1 := ((Below.refl _ _).alloc (Nat.le_refl _) _).trans (hb1.mono (by simp))
    have z1 : w.heap.size < w1.heap.size := by have := hb1.size; simp at this; omega
    have hr1 : Hid (w1.heap[w.heap.size]? = some (.cells (tv 0 0 ⟨#[]⟩ 0) 33 (0, 0))) := (hb1.block _ (by simp)).trans (heap_new _ _ _ rfl)
    have H2 : Hid (Wk W0 (w1.alloc (.cells (encT t) 33)) g E Lv s) := (H.out.below B1).alloc _
    have HB1 : Hid (Below w.heap.size w w1) := B1
    obtain ⟨t0, t1, t2, t3⟩ := tok_cells (heap_new w1 (.cells (encT t) 33) _ rfl)
    clear hb1 B1
    go_wp2_with (first
      | (refine wl_storeE (E := TokE) TokOk rfl _ _ rfl w1.heap.size (encT t) (tv_fits _ _ _ _) rfl rfl _ (heap_new _ _ _ rfl) rfl _ (setRow_new _ _ _ _ _ rfl) ?_))
    refine (CW.out _ s H2.out).mono ?_
    rw [← HS.out]
    rintro e w2 ⟨rfl, hg2, H3⟩
    have z2 : w1.heap.size < w2.heap.size := by have := hg2.size; simp at this; omega
    obtain ⟨_, c1, _, _, _, fz⟩ := wk_cells H3
    have f1 := fz 1
    have hr2 : w2.heap[w.heap.size]? = some (.cells (tv 0 0 ⟨#[]⟩ 0) 33 (0, 0)) := (hg2.block _ (by simp; omega) (by simp; omega)).trans (heap_past _ _ _ _ hr1.out)
    have ht2 : w2.heap[w1.heap.size]? = some (.cells (encT t) 33 (0, 0)) := (hg2.block _ (by simp) (by simp; omega)).trans (heap_new _ _ _ rfl)
    have H4 : Hid (Wk W0 (w2.setCell ⟨g, 1, none⟩ (.int .i64 ((s'.i : Int) + 1))) g E Lv ⟨s'.i + 1, s'.bad, s'.pos⟩) := wk_set H3 1 _ _ rfl
    have hrr : Hid ((w2.setCell ⟨g, 1, none⟩ (.int .i64 ((s'.i : Int) + 1))).heap[w.heap.size]? = some (.cells (tv 0 0 ⟨#[]⟩ 0) 33 (0, 0))) := (tc_far (by omega) _).trans hr2
    have hrt : Hid ((w2.setCell ⟨g, 1, none⟩ (.int .i64 ((s'.i : Int) + 1))).heap[w1.heap.size]? = some (.cells (encT t) 33 (0, 0))) := (tc_far (by omega) _).trans ht2
    have HG : Hid (w.grownBy (w2.setCell ⟨g, 1, none⟩ (.int .i64 ((s'.i : Int) + 1))) (some g)) := gb_setCell (grown_trans (gb_alloc (grown_below HB1.out) _) hg2) (.inl rfl) _ _
    clear hg2 H3 hr2 ht2 fz t0 t1 t2 t3
    go_wp2_with (first
      | (refine wl_loadE (E := TokE) TokOk rfl _ rfl w1.heap.size 0 rfl _ _ _ (encT t) rfl hrt.out (own_cells _ _) ?_)
      | (refine wl_storeE (E := TokE) TokOk rfl _ _ rfl w.heap.size (encT t) (tv_fits _ _ _ _) rfl rfl _ hrr.out rfl _ rfl ?_))
    refine retE (E := TokE) TokOk rfl rfl w.heap.size rfl (encT t) rfl (setRow_heap _ _ _ _ _ _ hrr.out) ?_
    rw [HW.out]
    exact ⟨rfl, gb_setRow HG.out (.inr (Nat.le_refl _)) _, wk_setRow H4.out (by omega) (by omega) _⟩

set_option maxHeartbeats 4000000 in
theorem figure_any6 (W0 w : World) (g E : Nat) (Lv : Value) (T : List Tok) (hL : GSl TokE encT W0 Lv T) (s : Ws) (hi : s.i ≤ 6000) (h : Wk W0 w g E Lv s) :
    Calls Try.prog 26 #[.pointer (some ⟨g, 0, none⟩)] w fun e' w' => e' = .returned (.agg (figV (figW E T s).1)) ∧ w.grownBy w' (some g) ∧ Wk W0 w' g E Lv (figW E T s).2 := by
  have CK : Hid (∀ W, Wk W0 W g E Lv s → Calls Try.prog 28 #[.pointer (some ⟨g, 0, none⟩), .int .i64 2] W fun e' w' => e' = .returned (.agg (encT (kindW E T 2 s).1)) ∧ W.grownBy w' (some g) ∧ Wk W0 w' g E Lv (kindW E T 2 s).2) := fun W h => kind_any6 W0 W g E Lv T hL 2 s hi h
  have hgl := h.size
  have H : Hid (Wk W0 w g E Lv s) := h
  unfold figW
  obtain ⟨x, hx⟩ : ∃ x, x = kindW E T 2 s := ⟨_, rfl⟩
  rw [← hx] at CK ⊢
  obtain ⟨t, s'⟩ := x
  clear hL h hx
  simp only at CK ⊢
  go_enter Try.func26, Try.ntmps26
  go_wp2_with fail
  refine (CK.out _ (H.out.alloc _)).mono ?_
  rintro e w1 ⟨rfl, hg1, H1⟩
  have z1 : w.heap.size < w1.heap.size := by have := hg1.size; simp at this; omega
  have G1 := grown_trans (gb_alloc (gb_refl w g) _) hg1
  obtain ⟨t0, t1, t2, t3⟩ := tok_cells (heap_new w1 (.cells (encT t) 33) _ rfl)
  have hr1 : Hid ((w1.alloc (.cells (encT t) 33)).heap[w.heap.size]? = some (.cells (figV ⟨0, 0⟩) 36 (0, 0))) := (heap_past _ _ _ _ ((hg1.block _ (by simp) (by simp; omega)).trans (heap_new _ _ _ rfl)))
  have HK : Hid (_ ∧ _) := ⟨H1, G1⟩
  clear hg1 H1 G1
  go_wp2_with (first
    | (refine wl_storeE (E := TokE) TokOk rfl _ _ rfl w1.heap.size (encT t) (tv_fits _ _ _ _) rfl rfl _ (heap_new _ _ _ rfl) rfl _ (setRow_new _ _ _ _ _ rfl) ?_)
    | (refine wl_storeE (E := FigE) FigOk rfl _ _ rfl w.heap.size (figV ⟨(t.num : Int), (t.pos : Int)⟩) (fig_fits _) rfl rfl _ hr1.out rfl _ rfl ?_))
  refine retE (E := FigE) FigOk rfl rfl w.heap.size rfl (figV ⟨(t.num : Int), (t.pos : Int)⟩) rfl (setRow_heap _ _ _ _ _ _ hr1.out) ?_
  exact ⟨rfl, gb_setRow (gb_alloc HK.out.2 _) (.inr (Nat.le_refl _)) _, wk_setRow (HK.out.1.alloc _) (by omega) (by omega) _⟩

set_option maxHeartbeats 4000000 in
theorem word_any6 (W0 w : World) (g E : Nat) (Lv : Value) (T : List Tok) (hL : GSl TokE encT W0 Lv T) (x : List UInt8) (s : Ws) (h : Wk W0 w g E Lv s) :
    Calls Try.prog 25 #[.pointer (some ⟨g, 0, none⟩), .string ⟨x.toArray⟩] w fun e' w' => e' = .returned (.bool (wordW E T x s)) ∧ Below w.heap.size w w' := by
  have CN : Hid (∀ W, Wk W0 W g E Lv s → Calls Try.prog 24 #[.pointer (some ⟨g, 0, none⟩)] W fun e w' => e = .returned (.agg (encT (nx E T s))) ∧ Below W.heap.size W w') := fun W h => next_any W0 W g E Lv T hL s h
  have H : Hid (Wk W0 w g E Lv s) := h
  have HW : Hid (wordW E T x s = (decide ((nx E T s).kind = 1) && (nx E T s).text == x)) := rfl
  obtain ⟨t, ht⟩ : ∃ t, t = nx E T s := ⟨_, rfl⟩
  obtain ⟨b, hb⟩ : ∃ b, b = wordW E T x s := ⟨_, rfl⟩
  rw [← hb] at HW ⊢
  rw [← ht] at CN HW
  have f0 := tok_f0 t
  have f2 := tok_f2 t
  clear hL h ht hb
  by_cases hk : t.kind = 1
  · have hk' : ((t.kind : Int) == 1) = true := by simp; omega
    have HB : Hid (b = (t.text == x)) := by show _ = _; rw [HW.out, hk]; simp
    clear hk
    go_enter Try.func25, Try.ntmps25
    go_wp2_with fail
    refine (CN.out _ H.out).mono ?_
    rintro e w1 ⟨rfl, hb1⟩
    go_wp2_with fail
    refine (CN.out _ (H.out.below hb1)).mono ?_
    rintro e w2 ⟨rfl, hb2⟩
    go_wp2_with fail
    go_ret
    exact ⟨by rw [HB.out]; rfl, hb1.trans (hb2.mono hb1.size)⟩
  · have hk' : ((t.kind : Int) == 1) = false := by simp; omega
    have HB : Hid (b = false) := by show _ = _; rw [HW.out]; simp [hk]
    clear hk
    go_enter Try.func25, Try.ntmps25
    go_wp2_with fail
    refine (CN.out _ H.out).mono ?_
    rintro e w1 ⟨rfl, hb1⟩
    go_wp2_with fail
    go_ret
    exact ⟨by rw [HB.out]; rfl, hb1⟩
end Go.Proofs.Ytanmbaleadcfgaa
