import Derived.Test.YtfamnloobmdhdaaDoorJ20
import Derived.Test.YtfamnloobmdhdaaDoorJ21
import Derived.Test.YtfamnloobmdhdaaDoorJ15
import Derived.Test.YtfamnloobmdhdaaDoorJ17
import Derived.Test.YtfamnloobmdhdaaDoorJ6
import Derived.BigQuiet
namespace Go.Proofs.YtfamnloobmdhdaaDoor
open Go Go.RowKit
set_option maxRecDepth 20000

/-- Some truth value, told without a word of which. -/
def YesNo (e : Ending) : Prop := ∃ b : Bool, e = .returned (.bool b)
theorem YesNo.mk (b : Bool) : YesNo (.returned (.bool b)) := ⟨b, rfl⟩

end Go.Proofs.YtfamnloobmdhdaaDoor
namespace Go.Proofs.YtfamnloobmdhdaaDoor
open Go Go.RowKit
set_option maxRecDepth 20000

/-- The reference's walk at block g, in a state; its tokens lie in memory that was there ahead of it. -/
def wkV (Lv : Value) (E : Nat) (s : Ws) : Array Value := #[Lv, .int .i64 (s.i : Int), .int .i64 (E : Int), .int .i64 (s.bad : Int), .int .i64 (s.pos : Int)]
def Wk (W0 w : World) (g E : Nat) (Lv : Value) (s : Ws) : Prop := Below W0.heap.size W0 w ∧ W0.heap.size ≤ g ∧ w.heap[g]? = some (.cells (wkV Lv E s) 88 (0, 0))
theorem Wk.size {W0 w : World} {g E : Nat} {Lv : Value} {s : Ws} (h : Wk W0 w g E Lv s) : W0.heap.size ≤ g ∧ g < w.heap.size := ⟨h.2.1, (Array.getElem?_eq_some_iff.1 h.2.2).1⟩
theorem Wk.below {W0 w w' : World} {g E : Nat} {Lv : Value} {s : Ws} (h : Wk W0 w g E Lv s) (hb : Below w.heap.size w w') : Wk W0 w' g E Lv s :=
  ⟨h.1.trans (hb.mono h.1.size), h.2.1, (hb.block g h.size.2).trans h.2.2⟩
theorem Wk.alloc {W0 w : World} {g E : Nat} {Lv : Value} {s : Ws} (h : Wk W0 w g E Lv s) (o : Obj) : Wk W0 (w.alloc o) g E Lv s := h.below ((Below.refl _ _).alloc (Nat.le_refl _) o)
theorem wk_setRow {W0 w : World} {g E : Nat} {Lv : Value} {s : Ws} (h : Wk W0 w g E Lv s) {k : Nat} (hk : k ≠ g) (hk2 : W0.heap.size ≤ k) (cs : Array Value) : Wk W0 (w.setRow k cs) g E Lv s :=
  ⟨below_setRow h.1 hk2 _, h.2.1, (setRow_other _ _ _ _ (Ne.symm hk)).trans h.2.2⟩
theorem wk_setCell {W0 w : World} {g E : Nat} {Lv : Value} {s : Ws} (h : Wk W0 w g E Lv s) {k : Nat} (hk : k ≠ g) (hk2 : W0.heap.size ≤ k) (i : Nat) (v : Value) : Wk W0 (w.setCell ⟨k, i, none⟩ v) g E Lv s :=
  ⟨tc_below h.1 hk2 _ _, h.2.1, (tc_far hk _).trans h.2.2⟩
theorem wk_own {W0 w1 w2 : World} {g E : Nat} {Lv : Value} {s : Ws} {b : Option Nat} (h : Wk W0 w1 g E Lv s) (h' : w1.grownBy w2 b) (hb : ∀ k, b = some k → g < k) : Wk W0 w2 g E Lv s := by
  obtain ⟨h0, h1, h2⟩ := h
  refine ⟨⟨h'.os.trans h0.os, h'.tape.trans h0.tape, h'.output.trans h0.output, Nat.le_trans h0.size h'.size, fun k hk => (h'.block k (by have := h0.size; omega) (fun hq => by have := hb k hq.symm; omega)).trans (h0.block k hk)⟩, h1, ?_⟩
  exact (h'.block g (Array.getElem?_eq_some_iff.1 h2).1 (fun hq => by have := hb g hq.symm; omega)).trans h2
/-- A field of the walk that is stored. -/
theorem wk_set {W0 w : World} {g E : Nat} {Lv : Value} {s : Ws} (h : Wk W0 w g E Lv s) (i : Nat) (v : Value) (s' : Ws) (hs : (wkV Lv E s).setIfInBounds i v = wkV Lv E s') : Wk W0 (w.setCell ⟨g, i, none⟩ v) g E Lv s' := by
  refine ⟨tc_below h.1 h.2.1 _ _, h.2.1, ?_⟩
  rw [tc_row h.2.2, hs]
theorem wk_cells {W0 w : World} {g E : Nat} {Lv : Value} {s : Ws} (h : Wk W0 w g E Lv s) : w.cell? ⟨g, 0, none⟩ = some Lv ∧ w.cell? ⟨g, 1, none⟩ = some (.int .i64 (s.i : Int)) ∧ w.cell? ⟨g, 2, none⟩ = some (.int .i64 (E : Int)) ∧ w.cell? ⟨g, 3, none⟩ = some (.int .i64 (s.bad : Int)) ∧ w.cell? ⟨g, 4, none⟩ = some (.int .i64 (s.pos : Int)) ∧ ∀ i, w.frozen? ⟨g, i, none⟩ = false := by
  refine ⟨?_, ?_, ?_, ?_, ?_, fun i => tc_frozen h.2.2 rfl⟩ <;> (rw [cell_of_row _ _ _ _ _ _ h.2.2]; rfl)
theorem later_cell6 {W : World} {g k : Nat} {cs : Array Value} {t : TypeId} {fr : Nat × Nat} {v : Value} (hg : W.heap[g]? = some (.cells cs t fr)) (hk : cs[k]? = some v) : ∀ u : Later W, u.world.cell? ⟨g, k, none⟩ = some v := fun u => by
  rw [cell_of_row _ _ _ _ _ _ (later_block hg _ ⟨u, rfl⟩), hk]

theorem q_val {C : World → Prop} {ops : Array Oper} {Q : Act → Prop} {rest : List Oper} {o : Oper} {a : Act} (hw : Region.wanted o (yielded ops a.tmps) = true) (v : Value) (hx : ∀ w, C w → (execOp a.eval o).run Tryd.prog w = .ok (.value v) w) (h : wpQuiet Tryd.prog ops C Q rest (a.put o.dst v)) : wpQuiet Tryd.prog ops C Q (o :: rest) a := by
  refine BigFrame.wpQuiet_want hw fun K hK => ⟨v, fun w hC => ?_, hK _ h⟩
  unfold Oper.quietAt
  rw [hx w hC]
  exact ⟨rfl, rfl⟩
theorem q_nil {C : World → Prop} {ops : Array Oper} {Q : Act → Prop} {rest : List Oper} {o : Oper} {a : Act} (hw : Region.wanted o (yielded ops a.tmps) = true) (x : Operand) (ho : o.op = .nilCheck x) (ad : Addr) (hx : a.eval x = .pointer (some ad)) (h : wpQuiet Tryd.prog ops C Q rest (a.put o.dst (.pointer (some ad)))) : wpQuiet Tryd.prog ops C Q (o :: rest) a := by
  refine q_val hw _ (fun w _ => ?_) h
  unfold execOp
  simp only [ho, hx]
  simp [go_sem]

set_option maxHeartbeats 4000000 in
theorem next_any (W0 w : World) (g E : Nat) (Lv : Value) (T : List Tok) (hL : GSl TokE encT W0 Lv T) (s : Ws) (h : Wk W0 w g E Lv s) :
    Calls Tryd.prog 71 #[.pointer (some ⟨g, 0, none⟩)] w fun e w' => e = .returned (.agg (encT (nx E T s))) ∧ Below w.heap.size w w' := by
  have hL' := hL.below h.1
  obtain ⟨o, cap, rfl, hcap, hm⟩ := hL'.slice
  have hgl := h.size
  obtain ⟨Wa, hWa⟩ : ∃ Wa, Wa = w.alloc (.cells (tv 0 0 ⟨#[]⟩ 0) 90) := ⟨_, rfl⟩
  have ha : Wk W0 Wa g E (.slice o T.length cap) s := by rw [hWa]; exact h.alloc _
  have l0 : ∀ u : Later Wa, u.world.cell? ⟨g, 0, none⟩ = some (.slice o T.length cap) := later_cell6 (k := 0) ha.2.2 rfl
  have l1 : ∀ u : Later Wa, u.world.cell? ⟨g, 1, none⟩ = some (.int .i64 (s.i : Int)) := later_cell6 (k := 1) ha.2.2 rfl
  have rr : Wa.heap[w.heap.size]? = some (.cells (tv 0 0 ⟨#[]⟩ 0) 90 (0, 0)) := by rw [hWa]; exact heap_new _ _ _ rfl
  have BA : Below w.heap.size w Wa := by rw [hWa]; exact (Below.refl _ _).alloc (Nat.le_refl _) _
  unfold maxLen at hm
  by_cases hi : s.i < T.length
  · obtain ⟨b, off, cur, ty, fr, c, rfl, hb, hc, hck⟩ := hL'.at s.i hi
    have hnx : nx E T s = c := by unfold nx; rw [List.getD, hck]; rfl
    rw [hnx]
    have hi' : (s.i : Int) < (T.length : Int) := by omega
    have kb : Wa.heap[b]? = some (.cells cur ty fr) := by rw [hWa]; exact heap_past _ _ _ _ hb
    have HC : Hid (∀ j, j < 4 → cur[off + s.i * 4 + j]? = (encT c)[j]?) := hc
    have ka := ha.2.2
    clear hL hL' hb hc hck hnx h ha
    go_enter Tryd.func71, Tryd.ntmps71
    go_wp2_with fail
    rw [show w.alloc (.cells #[.int .i64 0, .int .i64 0, .string ⟨#[]⟩, .int .i64 0] 90) = Wa from hWa.symm]
    have ne1 := Later.ne Wa
    refine wp_region_later (by kernel_rfl) (by kernel_rfl) ?_
    repeat first | (go_big_quiet_step (rfl)) | (refine q_nil rfl _ rfl _ rfl ?_; simp only [Act.put, List.setIfInBounds_toArray, List.set_cons_succ, List.set_cons_zero])
    refine wpQuiet_nil ?_
    rintro w' ⟨u, rfl⟩
    have kbu := later_block kb _ ⟨u, rfl⟩
    have rru := later_block rr _ ⟨u, rfl⟩
    have kau := later_block ka _ ⟨u, rfl⟩
    have bu := BA.trans (u.below.mono BA.size)
    obtain ⟨W1, hW1⟩ : ∃ W1, W1 = u.world := ⟨_, rfl⟩
    rw [← hW1] at kbu rru kau bu ⊢
    clear hW1 l0 l1 ne1 kb rr ka BA hWa
    have m0 : ∀ u : Later W1, u.world.cell? ⟨g, 0, none⟩ = some (.slice (some ⟨b, off, none⟩) T.length cap) := later_cell6 kau rfl
    have m1 : ∀ u : Later W1, u.world.cell? ⟨g, 1, none⟩ = some (.int .i64 (s.i : Int)) := later_cell6 kau rfl
    go_wp2_with fail
    have ne2 := Later.ne W1
    refine wp_region_latertail 10 (by kernel_rfl) (by kernel_rfl) ?_
    simp only [List.take_succ_cons, List.take_zero, List.drop_succ_cons, List.drop_zero]
    repeat first | (go_big_quiet_step (rfl)) | (refine q_nil rfl _ rfl _ rfl ?_; simp only [Act.put, List.setIfInBounds_toArray, List.set_cons_succ, List.set_cons_zero])
    refine qlE (E := TokE) TokOk rfl _ rfl b (off + s.i * 4) rfl cur ty fr (encT c) rfl (later_block kbu) HC.out ?_
    simp only [Act.put, List.setIfInBounds_toArray, List.set_cons_succ, List.set_cons_zero]
    refine wpQuiet_nil ?_
    rintro w' ⟨u2, rfl⟩
    have rr2 := later_block rru _ ⟨u2, rfl⟩
    have b2 := bu.trans (u2.below.mono bu.size)
    obtain ⟨W2, hW2⟩ : ∃ W2, W2 = u2.world := ⟨_, rfl⟩
    rw [← hW2] at rr2 b2 ⊢
    clear hW2 m0 m1 ne2 kbu rru kau
    refine wl_storeE (E := TokE) TokOk rfl _ _ rfl w.heap.size (encT c) (tv_fits _ _ _ _) rfl rfl _ rr2 rfl _ rfl ?_
    go_wp2_with fail
    refine retE (E := TokE) TokOk rfl rfl w.heap.size rfl (encT c) rfl (setRow_heap _ _ _ _ _ _ rr2) ?_
    exact ⟨rfl, below_setRow b2 (Nat.le_refl _) _⟩
  · have hnx : nx E T s = ⟨0, E, [], 0⟩ := nx_nil (List.drop_eq_nil_iff.2 (by omega))
    rw [hnx]
    have hi' : ¬ (s.i : Int) < (T.length : Int) := by omega
    have hid : decide ((s.i : Int) < (T.length : Int)) = false := by simp; omega
    have ka := ha.2.2
    clear hL hL' hnx h ha
    go_enter Tryd.func71, Tryd.ntmps71
    go_wp2_with fail
    rw [show w.alloc (.cells #[.int .i64 0, .int .i64 0, .string ⟨#[]⟩, .int .i64 0] 90) = Wa from hWa.symm]
    have ne1 := Later.ne Wa
    refine wp_region_later (by kernel_rfl) (by kernel_rfl) ?_
    repeat first | (go_big_quiet_step (rfl)) | (refine q_nil rfl _ rfl _ rfl ?_; simp only [Act.put, List.setIfInBounds_toArray, List.set_cons_succ, List.set_cons_zero])
    refine wpQuiet_nil ?_
    rintro w' ⟨u, rfl⟩
    have rru := later_block rr _ ⟨u, rfl⟩
    have kau := later_block ka _ ⟨u, rfl⟩
    have bu := BA.trans (u.below.mono BA.size)
    obtain ⟨W1, hW1⟩ : ∃ W1, W1 = u.world := ⟨_, rfl⟩
    rw [← hW1] at rru kau bu ⊢
    clear hW1 l0 l1 ne1 rr ka BA hWa
    have m2 : W1.cell? ⟨g, 2, none⟩ = some (.int .i64 (E : Int)) := by rw [cell_of_row _ _ _ _ _ _ kau]; rfl
    have HRR : Hid (W1.heap[w.heap.size]? = some (.cells (tv 0 0 ⟨#[]⟩ 0) 90 (0, 0))) := rru
    clear rru kau
    go_wp2_with (first
      | (refine wl_storeE (E := TokE) TokOk rfl _ _ rfl w.heap.size (tv 0 (E : Nat) ⟨#[]⟩ 0) (tv_fits _ _ _ _) rfl rfl _ HRR.out rfl _ rfl ?_))
    refine retE (E := TokE) TokOk rfl rfl w.heap.size rfl (tv 0 (E : Nat) ⟨#[]⟩ 0) rfl (setRow_heap _ _ _ _ _ _ HRR.out) ?_
    exact ⟨rfl, below_setRow bu (Nat.le_refl _) _⟩
end Go.Proofs.YtfamnloobmdhdaaDoor
namespace Go.Proofs.YtfamnloobmdhdaaDoor
open Go Go.RowKit
set_option maxRecDepth 20000

set_option maxHeartbeats 4000000 in
theorem wrong_any (W0 w : World) (g E : Nat) (Lv : Value) (T : List Tok) (hL : GSl TokE encT W0 Lv T) (e : Nat) (s : Ws) (h : Wk W0 w g E Lv s) :
    Calls Tryd.prog 45 #[.pointer (some ⟨g, 0, none⟩), .int .i64 (e : Int)] w fun e' w' => e' = .returned (.tuple #[]) ∧ w.grownBy w' (some g) ∧ Wk W0 w' g E Lv (wrong E T e s) := by
  have CN : Hid (∀ W s, Wk W0 W g E Lv s → Calls Tryd.prog 71 #[.pointer (some ⟨g, 0, none⟩)] W fun e w' => e = .returned (.agg (encT (nx E T s))) ∧ Below W.heap.size W w') := fun W s h => next_any W0 W g E Lv T hL s h
  obtain ⟨c0, c1, c2, c3, c4, fz⟩ := wk_cells h
  have H : Hid (Wk W0 w g E Lv s) := h
  clear hL h
  by_cases hb : s.bad = 0
  · have HW : Hid (wrong E T e s = ⟨s.i, e, (nx E T s).pos⟩) := wrong_is hb
    have c3' : ((s.bad : Int) == 0) = true := by simp; omega
    have H2 : Hid (Wk W0 (w.setCell ⟨g, 3, none⟩ (.int .i64 (e : Int))) g E Lv ⟨s.i, e, s.pos⟩) := wk_set H.out 3 _ _ rfl
    clear hb
    go_enter Tryd.func45, Tryd.ntmps45
    go_wp2_with fail
    refine (CN.out _ _ H2.out).mono ?_
    rintro e1 w1 ⟨rfl, hb1⟩
    have hf := tok_f1 (nx E T ⟨s.i, e, s.pos⟩)
    have H3 := H2.out.below hb1
    obtain ⟨d0, d1, d2, d3, d4, dz⟩ := wk_cells H3
    have HK : Hid (_ ∧ _) := ⟨H3, hb1⟩
    clear H3 hb1 c0 c1 c2 c3 c4 fz d0 d1 d2 d3
    go_wp2_with fail
    go_end0
    rw [HW.out]
    refine ⟨rfl, gb_setCell (grown_trans (gb_setCell (gb_refl w g) (.inl rfl) _ _) (grown_below HK.out.2)) (.inl rfl) _ _, ?_⟩
    exact wk_set HK.out.1 4 _ _ rfl
  · have HW : Hid (wrong E T e s = s) := if_neg hb
    have c3' : ((s.bad : Int) == 0) = false := by simp; omega
    clear hb
    go_enter Tryd.func45, Tryd.ntmps45
    go_wp2_with fail
    go_end0
    rw [HW.out]
    exact ⟨rfl, gb_refl _ _, H.out⟩

theorem kindW_1 (E : Nat) (T : List Tok) (k : Nat) (s : Ws) : (kindW E T k s).1 = nx E T s := rfl
theorem kindW_yes {E : Nat} {T : List Tok} {k : Nat} {s : Ws} (h : (nx E T s).kind = k) : (kindW E T k s).2 = stepW s := by unfold kindW; simp only [h, if_true]
theorem kindW_no {E : Nat} {T : List Tok} {k : Nat} {s : Ws} (h : ¬ (nx E T s).kind = k) : (kindW E T k s).2 = stepW (wrong E T 8 s) := by unfold kindW; simp only [h, if_false]

set_option maxHeartbeats 4000000 in
theorem kind_any6 (W0 w : World) (g E : Nat) (Lv : Value) (T : List Tok) (hL : GSl TokE encT W0 Lv T) (k : Nat) (s : Ws) (hi : s.i ≤ 6000) (h : Wk W0 w g E Lv s) :
    Calls Tryd.prog 75 #[.pointer (some ⟨g, 0, none⟩), .int .i64 (k : Int)] w fun e' w' => e' = .returned (.agg (encT (kindW E T k s).1)) ∧ w.grownBy w' (some g) ∧ Wk W0 w' g E Lv (kindW E T k s).2 := by
  have CN : Hid (∀ W s, Wk W0 W g E Lv s → Calls Tryd.prog 71 #[.pointer (some ⟨g, 0, none⟩)] W fun e w' => e = .returned (.agg (encT (nx E T s))) ∧ Below W.heap.size W w') := fun W s h => next_any W0 W g E Lv T hL s h
  have CW : Hid (∀ W s, Wk W0 W g E Lv s → Calls Tryd.prog 45 #[.pointer (some ⟨g, 0, none⟩), .int .i64 8] W fun e' w' => e' = .returned (.tuple #[]) ∧ W.grownBy w' (some g) ∧ Wk W0 w' g E Lv (wrong E T 8 s)) := fun W s h => wrong_any W0 W g E Lv T hL 8 s h
  have hgl := h.size
  have H : Hid (Wk W0 w g E Lv s) := h
  rw [kindW_1]
  clear hL h
  by_cases hk : (nx E T s).kind = k
  · have HW : Hid ((kindW E T k s).2 = ⟨s.i + 1, s.bad, s.pos⟩) := kindW_yes hk
    have hk' : (((nx E T s).kind : Int) != (k : Int)) = false := by simp; omega
    obtain ⟨t, ht⟩ : ∃ t, t = nx E T s := ⟨_, rfl⟩
    rw [← ht] at hk' ⊢
    have HT : Hid (t = nx E T s) := ht
    clear hk ht
    go_enter Tryd.func75, Tryd.ntmps75
    go_wp2_with fail
    refine (CN.out _ s (H.out.alloc _)).mono ?_
    rw [← HT.out]
    rintro e w1 ⟨rfl, hb1⟩
    have B1 : Below w.heap.size w w1 := ((Below.refl _ _).alloc (Nat.le_refl _) _).trans (hb1.mono (by simp))
    have z1 : w.heap.size < w1.heap.size := by have := hb1.size; simp at this; omega
    have H1 := H.out.below B1
    have hr1 : w1.heap[w.heap.size]? = some (.cells (tv 0 0 ⟨#[]⟩ 0) 90 (0, 0)) := (hb1.block _ (by simp)).trans (heap_new _ _ _ rfl)
    have H2 := H1.alloc (.cells (encT t) 90)
    obtain ⟨_, c1, _, _, _, fz⟩ := wk_cells H2
    have f1 := fz 1
    obtain ⟨t0, t1, t2, t3⟩ := tok_cells (heap_new w1 (.cells (encT t) 90) _ rfl)
    have H3 : Hid (Wk W0 ((w1.alloc (.cells (encT t) 90)).setCell ⟨g, 1, none⟩ (.int .i64 ((s.i : Int) + 1))) g E Lv ⟨s.i + 1, s.bad, s.pos⟩) := wk_set H2 1 _ _ rfl
    have hrr : Hid (((w1.alloc (.cells (encT t) 90)).setCell ⟨g, 1, none⟩ (.int .i64 ((s.i : Int) + 1))).heap[w.heap.size]? = some (.cells (tv 0 0 ⟨#[]⟩ 0) 90 (0, 0))) := (tc_far (by omega) _).trans (heap_past _ _ _ _ hr1)
    have hrt : Hid (((w1.alloc (.cells (encT t) 90)).setCell ⟨g, 1, none⟩ (.int .i64 ((s.i : Int) + 1))).heap[w1.heap.size]? = some (.cells (encT t) 90 (0, 0))) := (tc_far (by omega) _).trans (heap_new _ _ _ rfl)
    have HG : Hid (w.grownBy ((w1.alloc (.cells (encT t) 90)).setCell ⟨g, 1, none⟩ (.int .i64 ((s.i : Int) + 1))) (some g)) := gb_setCell (gb_alloc (grown_below B1) _) (.inl rfl) _ _
    clear hb1 B1 H1 hr1 H2 fz
    go_wp2_with (first
      | (refine wl_storeE (E := TokE) TokOk rfl _ _ rfl w1.heap.size (encT t) (tv_fits _ _ _ _) rfl rfl _ (heap_new _ _ _ rfl) rfl _ (setRow_new _ _ _ _ _ rfl) ?_)
      | (refine wl_loadE (E := TokE) TokOk rfl _ rfl w1.heap.size 0 rfl _ _ _ (encT t) rfl hrt.out (own_cells _ _) ?_)
      | (refine wl_storeE (E := TokE) TokOk rfl _ _ rfl w.heap.size (encT t) (tv_fits _ _ _ _) rfl rfl _ hrr.out rfl _ rfl ?_))
    refine retE (E := TokE) TokOk rfl rfl w.heap.size rfl (encT t) rfl (setRow_heap _ _ _ _ _ _ hrr.out) ?_
    rw [HW.out]
    exact ⟨rfl, gb_setRow HG.out (.inr (Nat.le_refl _)) _, wk_setRow H3.out (by omega) (by omega) _⟩
  · have HW : Hid ((kindW E T k s).2 = stepW (wrong E T 8 s)) := kindW_no hk
    have hk' : (((nx E T s).kind : Int) != (k : Int)) = true := by simp; omega
    obtain ⟨t, ht⟩ : ∃ t, t = nx E T s := ⟨_, rfl⟩
    rw [← ht] at hk' ⊢
    have HT : Hid (t = nx E T s) := ht
    obtain ⟨s', hs'⟩ : ∃ s', s' = wrong E T 8 s := ⟨_, rfl⟩
    have hsi : s'.i = s.i := by rw [hs', wrong_i]
    have hs6 : s'.i ≤ 6000 := by omega
    rw [← hs'] at HW
    have HS : Hid (s' = wrong E T 8 s) := hs'
    clear hk ht hs' hsi
    go_enter Tryd.func75, Tryd.ntmps75
    go_wp2_with fail
    refine (CN.out _ s (H.out.alloc _)).mono ?_
    rw [← HT.out]
    rintro e w1 ⟨rfl, hb1⟩
    have B1 : Below w.heap.size w w1 := ((Below.refl _ _).alloc (Nat.le_refl _) _).trans (hb1.mono (by simp))
    have z1 : w.heap.size < w1.heap.size := by have := hb1.size; simp at this; omega
    have hr1 : Hid (w1.heap[w.heap.size]? = some (.cells (tv 0 0 ⟨#[]⟩ 0) 90 (0, 0))) := (hb1.block _ (by simp)).trans (heap_new _ _ _ rfl)
    have H2 : Hid (Wk W0 (w1.alloc (.cells (encT t) 90)) g E Lv s) := (H.out.below B1).alloc _
    have HB1 : Hid (Below w.heap.size w w1) := B1
    obtain ⟨t0, t1, t2, t3⟩ := tok_cells (heap_new w1 (.cells (encT t) 90) _ rfl)
    clear hb1 B1
    go_wp2_with (first
      | (refine wl_storeE (E := TokE) TokOk rfl _ _ rfl w1.heap.size (encT t) (tv_fits _ _ _ _) rfl rfl _ (heap_new _ _ _ rfl) rfl _ (setRow_new _ _ _ _ _ rfl) ?_))
    refine (CW.out _ s H2.out).mono ?_
    rw [← HS.out]
    rintro e w2 ⟨rfl, hg2, H3⟩
    have z2 : w1.heap.size < w2.heap.size := by have := hg2.size; simp at this; omega
    obtain ⟨_, c1, _, _, _, fz⟩ := wk_cells H3
    have f1 := fz 1
    have hr2 : w2.heap[w.heap.size]? = some (.cells (tv 0 0 ⟨#[]⟩ 0) 90 (0, 0)) := (hg2.block _ (by simp; omega) (by simp; omega)).trans (heap_past _ _ _ _ hr1.out)
    have ht2 : w2.heap[w1.heap.size]? = some (.cells (encT t) 90 (0, 0)) := (hg2.block _ (by simp) (by simp; omega)).trans (heap_new _ _ _ rfl)
    have H4 : Hid (Wk W0 (w2.setCell ⟨g, 1, none⟩ (.int .i64 ((s'.i : Int) + 1))) g E Lv ⟨s'.i + 1, s'.bad, s'.pos⟩) := wk_set H3 1 _ _ rfl
    have hrr : Hid ((w2.setCell ⟨g, 1, none⟩ (.int .i64 ((s'.i : Int) + 1))).heap[w.heap.size]? = some (.cells (tv 0 0 ⟨#[]⟩ 0) 90 (0, 0))) := (tc_far (by omega) _).trans hr2
    have hrt : Hid ((w2.setCell ⟨g, 1, none⟩ (.int .i64 ((s'.i : Int) + 1))).heap[w1.heap.size]? = some (.cells (encT t) 90 (0, 0))) := (tc_far (by omega) _).trans ht2
    have HG : Hid (w.grownBy (w2.setCell ⟨g, 1, none⟩ (.int .i64 ((s'.i : Int) + 1))) (some g)) := gb_setCell (grown_trans (gb_alloc (grown_below HB1.out) _) hg2) (.inl rfl) _ _
    clear hg2 H3 hr2 ht2 fz t0 t1 t2 t3
    go_wp2_with (first
      | (refine wl_loadE (E := TokE) TokOk rfl _ rfl w1.heap.size 0 rfl _ _ _ (encT t) rfl hrt.out (own_cells _ _) ?_)
      | (refine wl_storeE (E := TokE) TokOk rfl _ _ rfl w.heap.size (encT t) (tv_fits _ _ _ _) rfl rfl _ hrr.out rfl _ rfl ?_))
    refine retE (E := TokE) TokOk rfl rfl w.heap.size rfl (encT t) rfl (setRow_heap _ _ _ _ _ _ hrr.out) ?_
    rw [HW.out]
    exact ⟨rfl, gb_setRow HG.out (.inr (Nat.le_refl _)) _, wk_setRow H4.out (by omega) (by omega) _⟩

set_option maxHeartbeats 4000000 in
theorem figure_any6 (W0 w : World) (g E : Nat) (Lv : Value) (T : List Tok) (hL : GSl TokE encT W0 Lv T) (s : Ws) (hi : s.i ≤ 6000) (h : Wk W0 w g E Lv s) :
    Calls Tryd.prog 73 #[.pointer (some ⟨g, 0, none⟩)] w fun e' w' => e' = .returned (.agg (figV (figW E T s).1)) ∧ w.grownBy w' (some g) ∧ Wk W0 w' g E Lv (figW E T s).2 := by
  have CK : Hid (∀ W, Wk W0 W g E Lv s → Calls Tryd.prog 75 #[.pointer (some ⟨g, 0, none⟩), .int .i64 2] W fun e' w' => e' = .returned (.agg (encT (kindW E T 2 s).1)) ∧ W.grownBy w' (some g) ∧ Wk W0 w' g E Lv (kindW E T 2 s).2) := fun W h => kind_any6 W0 W g E Lv T hL 2 s hi h
  have hgl := h.size
  have H : Hid (Wk W0 w g E Lv s) := h
  unfold figW
  obtain ⟨x, hx⟩ : ∃ x, x = kindW E T 2 s := ⟨_, rfl⟩
  rw [← hx] at CK ⊢
  obtain ⟨t, s'⟩ := x
  clear hL h hx
  simp only at CK ⊢
  go_enter Tryd.func73, Tryd.ntmps73
  go_wp2_with fail
  refine (CK.out _ (H.out.alloc _)).mono ?_
  rintro e w1 ⟨rfl, hg1, H1⟩
  have z1 : w.heap.size < w1.heap.size := by have := hg1.size; simp at this; omega
  have G1 := grown_trans (gb_alloc (gb_refl w g) _) hg1
  obtain ⟨t0, t1, t2, t3⟩ := tok_cells (heap_new w1 (.cells (encT t) 90) _ rfl)
  have hr1 : Hid ((w1.alloc (.cells (encT t) 90)).heap[w.heap.size]? = some (.cells (figV ⟨0, 0⟩) 48 (0, 0))) := (heap_past _ _ _ _ ((hg1.block _ (by simp) (by simp; omega)).trans (heap_new _ _ _ rfl)))
  have HK : Hid (_ ∧ _) := ⟨H1, G1⟩
  clear hg1 H1 G1
  go_wp2_with (first
    | (refine wl_storeE (E := TokE) TokOk rfl _ _ rfl w1.heap.size (encT t) (tv_fits _ _ _ _) rfl rfl _ (heap_new _ _ _ rfl) rfl _ (setRow_new _ _ _ _ _ rfl) ?_)
    | (refine wl_storeE (E := FigE) FigOk rfl _ _ rfl w.heap.size (figV ⟨(t.num : Int), (t.pos : Int)⟩) (fig_fits _) rfl rfl _ hr1.out rfl _ rfl ?_))
  refine retE (E := FigE) FigOk rfl rfl w.heap.size rfl (figV ⟨(t.num : Int), (t.pos : Int)⟩) rfl (setRow_heap _ _ _ _ _ _ hr1.out) ?_
  exact ⟨rfl, gb_setRow (gb_alloc HK.out.2 _) (.inr (Nat.le_refl _)) _, wk_setRow (HK.out.1.alloc _) (by omega) (by omega) _⟩

set_option maxHeartbeats 4000000 in
theorem word_any6 (W0 w : World) (g E : Nat) (Lv : Value) (T : List Tok) (hL : GSl TokE encT W0 Lv T) (x : List UInt8) (s : Ws) (h : Wk W0 w g E Lv s) :
    Calls Tryd.prog 72 #[.pointer (some ⟨g, 0, none⟩), .string ⟨x.toArray⟩] w fun e' w' => e' = .returned (.bool (wordW E T x s)) ∧ Below w.heap.size w w' := by
  have CN : Hid (∀ W, Wk W0 W g E Lv s → Calls Tryd.prog 71 #[.pointer (some ⟨g, 0, none⟩)] W fun e w' => e = .returned (.agg (encT (nx E T s))) ∧ Below W.heap.size W w') := fun W h => next_any W0 W g E Lv T hL s h
  have H : Hid (Wk W0 w g E Lv s) := h
  have HW : Hid (wordW E T x s = (decide ((nx E T s).kind = 1) && (nx E T s).text == x)) := rfl
  obtain ⟨t, ht⟩ : ∃ t, t = nx E T s := ⟨_, rfl⟩
  obtain ⟨b, hb⟩ : ∃ b, b = wordW E T x s := ⟨_, rfl⟩
  rw [← hb] at HW ⊢
  rw [← ht] at CN HW
  have f0 := tok_f0 t
  have f2 := tok_f2 t
  clear hL h ht hb
  by_cases hk : t.kind = 1
  · have hk' : ((t.kind : Int) == 1) = true := by simp; omega
    have HB : Hid (b = (t.text == x)) := by show _ = _; rw [HW.out, hk]; simp
    clear hk
    go_enter Tryd.func72, Tryd.ntmps72
    go_wp2_with fail
    refine (CN.out _ H.out).mono ?_
    rintro e w1 ⟨rfl, hb1⟩
    go_wp2_with fail
    refine (CN.out _ (H.out.below hb1)).mono ?_
    rintro e w2 ⟨rfl, hb2⟩
    go_wp2_with fail
    go_ret
    exact ⟨by rw [HB.out]; rfl, hb1.trans (hb2.mono hb1.size)⟩
  · have hk' : ((t.kind : Int) == 1) = false := by simp; omega
    have HB : Hid (b = false) := by show _ = _; rw [HW.out]; simp [hk]
    clear hk
    go_enter Tryd.func72, Tryd.ntmps72
    go_wp2_with fail
    refine (CN.out _ H.out).mono ?_
    rintro e w1 ⟨rfl, hb1⟩
    go_wp2_with fail
    go_ret
    exact ⟨by rw [HB.out]; rfl, hb1⟩
end Go.Proofs.YtfamnloobmdhdaaDoor
