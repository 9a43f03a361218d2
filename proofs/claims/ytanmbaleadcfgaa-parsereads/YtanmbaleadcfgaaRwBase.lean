import Derived.Test.YtanmbaleadcfgaaRdLines
import Derived.Test.YtanmbaleadcfgaaParseWalk
import Derived.Test.YtanmbaleadcfgaaQTail6
import Derived.BigQuiet
namespace Go.Proofs.Ytanmbaleadcfgaa
open Go Go.RowKit

/-- The reference's walk at block g, in a state; its tokens lie in memory that was there ahead of it. -/
def wkV (Lv : Value) (E : Nat) (s : Ws) : Array Value := #[Lv, .int .i64 (s.i : Int), .int .i64 (E : Int), .int .i64 (s.bad : Int), .int .i64 (s.pos : Int)]
def Wk (W0 w : World) (g E : Nat) (Lv : Value) (s : Ws) : Prop := Below W0.heap.size W0 w ∧ W0.heap.size ≤ g ∧ w.heap[g]? = some (.cells (wkV Lv E s) 50 (0, 0))
theorem Wk.size {W0 w : World} {g E : Nat} {Lv : Value} {s : Ws} (h : Wk W0 w g E Lv s) : W0.heap.size ≤ g ∧ g < w.heap.size := ⟨h.2.1, (Array.getElem?_eq_some_iff.1 h.2.2).1⟩
theorem Wk.below {W0 w w' : World} {g E : Nat} {Lv : Value} {s : Ws} (h : Wk W0 w g E Lv s) (hb : Below w.heap.size w w') : Wk W0 w' g E Lv s :=
  ⟨h.1.trans (hb.mono h.1.size), h.2.1, (hb.block g h.size.2).trans h.2.2⟩
theorem Wk.alloc {W0 w : World} {g E : Nat} {Lv : Value} {s : Ws} (h : Wk W0 w g E Lv s) (o : Obj) : Wk W0 (w.alloc o) g E Lv s := h.below ((Below.refl _ _).alloc (Nat.le_refl _) o)
theorem wk_setRow {W0 w : World} {g E : Nat} {Lv : Value} {s : Ws} (h : Wk W0 w g E Lv s) {k : Nat} (hk : k ≠ g) (hk2 : W0.heap.size ≤ k) (cs : Array Value) : Wk W0 (w.setRow k cs) g E Lv s :=
  ⟨below_setRow h.1 hk2 _, h.2.1, (setRow_other _ _ _ _ (Ne.symm hk)).trans h.2.2⟩
theorem wk_setCell {W0 w : World} {g E : Nat} {Lv : Value} {s : Ws} (h : Wk W0 w g E Lv s) {k : Nat} (hk : k ≠ g) (hk2 : W0.heap.size ≤ k) (i : Nat) (v : Value) : Wk W0 (w.setCell ⟨k, i, none⟩ v) g E Lv s :=
  ⟨tc_below h.1 hk2 _ _, h.2.1, (tc_far hk _).trans h.2.2⟩
theorem wk_own {W0 w1 w2 : World} {g E : Nat} {Lv : Value} {s : Ws} {b : Option Nat} (h : Wk W0 w1 g E Lv s) (h' : w1.grownBy w2 b) (hb : ∀ k, b = some k → g < k) : Wk W0 w2 g E Lv s := by
  obtain ⟨h0, h1, h2⟩ := h
  refine ⟨⟨h'.os.trans h0.os, h'.tape.trans h0.tape, h'.output.trans h0.output, Nat.le_trans h0.size h'.size, fun k hk => (h'.block k (by have := h0.size; omega) (fun hq => by have := hb k hq.symm; omega)).trans (h0.block k hk)⟩, h1, ?_⟩
  exact (h'.block g (Array.getElem?_eq_some_iff.1 h2).1 (fun hq => by have := hb g hq.symm; omega)).trans h2
/-- A field of the walk that is stored. -/
theorem wk_set {W0 w : World} {g E : Nat} {Lv : Value} {s : Ws} (h : Wk W0 w g E Lv s) (i : Nat) (v : Value) (s' : Ws) (hs : (wkV Lv E s).setIfInBounds i v = wkV Lv E s') : Wk W0 (w.setCell ⟨g, i, none⟩ v) g E Lv s' := by
  refine ⟨tc_below h.1 h.2.1 _ _, h.2.1, ?_⟩
  rw [tc_row h.2.2, hs]
theorem wk_cells {W0 w : World} {g E : Nat} {Lv : Value} {s : Ws} (h : Wk W0 w g E Lv s) : w.cell? ⟨g, 0, none⟩ = some Lv ∧ w.cell? ⟨g, 1, none⟩ = some (.int .i64 (s.i : Int)) ∧ w.cell? ⟨g, 2, none⟩ = some (.int .i64 (E : Int)) ∧ w.cell? ⟨g, 3, none⟩ = some (.int .i64 (s.bad : Int)) ∧ w.cell? ⟨g, 4, none⟩ = some (.int .i64 (s.pos : Int)) ∧ ∀ i, w.frozen? ⟨g, i, none⟩ = false := by
  refine ⟨?_, ?_, ?_, ?_, ?_, fun i => tc_frozen h.2.2 rfl⟩ <;> (rw [cell_of_row _ _ _ _ _ _ h.2.2]; rfl)
theorem later_cell6 {W : World} {g k : Nat} {cs : Array Value} {t : TypeId} {fr : Nat × Nat} {v : Value} (hg : W.heap[g]? = some (.cells cs t fr)) (hk : cs[k]? = some v) : ∀ u : Later W, u.world.cell? ⟨g, k, none⟩ = some v := fun u => by
  rw [cell_of_row _ _ _ _ _ _ (later_block hg _ ⟨u, rfl⟩), hk]

theorem q_val {C : World → Prop} {ops : Array Oper} {Q : Act → Prop} {rest : List Oper} {o : Oper} {a : Act} (hw : Region.wanted o (yielded ops a.tmps) = true) (v : Value) (hx : ∀ w, C w → (execOp a.eval o).run Try.prog w = .ok (.value v) w) (h : wpQuiet Try.prog ops C Q rest (a.put o.dst v)) : wpQuiet Try.prog ops C Q (o :: rest) a := by
  refine BigFrame.wpQuiet_want hw fun K hK => ⟨v, fun w hC => ?_, hK _ h⟩
  unfold Oper.quietAt
  rw [hx w hC]
  exact ⟨rfl, rfl⟩
theorem q_nil {C : World → Prop} {ops : Array Oper} {Q : Act → Prop} {rest : List Oper} {o : Oper} {a : Act} (hw : Region.wanted o (yielded ops a.tmps) = true) (x : Operand) (ho : o.op = .nilCheck x) (ad : Addr) (hx : a.eval x = .pointer (some ad)) (h : wpQuiet Try.prog ops C Q rest (a.put o.dst (.pointer (some ad)))) : wpQuiet Try.prog ops C Q (o :: rest) a := by
  refine q_val hw _ (fun w _ => ?_) h
  unfold execOp
  simp only [ho, hx]
  simp [go_sem]

theorem q_field {C : World → Prop} {ops : Array Oper} {Q : Act → Prop} {rest : List Oper} {o : Oper} {a : Act} (hw : Region.wanted o (yielded ops a.tmps) = true) (t : TypeId) (x : Operand) (i : Nat) (ho : o.op = .fieldAddr t x i) (u v : Value) (hx : a.eval x = u) (hf : ∀ w, (Instr.fieldAt t u i).run Try.prog w = .ok v w) (h : wpQuiet Try.prog ops C Q rest (a.put o.dst v)) : wpQuiet Try.prog ops C Q (o :: rest) a :=
  q_val hw _ (fun w _ => run_fieldOp ho a w v (by rw [hx]; exact hf w)) h
theorem q_load {C : World → Prop} {ops : Array Oper} {Q : Act → Prop} {rest : List Oper} {o : Oper} {a : Act} (hw : Region.wanted o (yielded ops a.tmps) = true) (t : TypeId) (x : Operand) (ho : o.op = .load t x) (u v : Value) (hx : a.eval x = u) (hl : ∀ w, C w → (Instr.loadAt t u).run Try.prog w = .ok v w) (h : wpQuiet Try.prog ops C Q rest (a.put o.dst v)) : wpQuiet Try.prog ops C Q (o :: rest) a :=
  q_val hw _ (fun w hC => run_loadOp ho a w u v hx (hl w hC)) h
theorem q_move {C : World → Prop} {ops : Array Oper} {Q : Act → Prop} {rest : List Oper} {o : Oper} {a : Act} (hw : Region.wanted o (yielded ops a.tmps) = true) (x : Operand) (ho : o.op = .move x) (v : Value) (hx : a.eval x = v) (h : wpQuiet Try.prog ops C Q rest (a.put o.dst v)) : wpQuiet Try.prog ops C Q (o :: rest) a :=
  q_val hw _ (fun w _ => run_moveOp ho a w v hx) h
/-- A field of the walk is loaded, in any world that keeps it. -/
theorem wk_load {w : World} {g E : Nat} {Lv : Value} {s : Ws} (h : w.heap[g]? = some (.cells (wkV Lv E s) 50 (0, 0))) {ty : TypeId} (ha : ∀ W, (isAgg ty).run Try.prog W = .ok false W) (k : Nat) (v : Value) (hv : (wkV Lv E s)[k]? = some v) : ∀ w', (∃ u : Later w, w' = u.world) → (Instr.loadAt ty (.pointer (some ⟨g, k, none⟩))).run Try.prog w' = .ok v w' := fun w' hw' => by
  have hb := later_block h w' hw'
  have hc : w'.cell? ⟨g, k, none⟩ = some v := by rw [cell_of_row _ _ _ _ _ _ hb, hv]
  simp [Instr.loadAt, Instr.sureAddr, loadVar, Sem.run_bind, ha, go_sem, hc]
theorem agg3 (W : World) : (isAgg 3).run Try.prog W = .ok false W := by kernel_rfl
theorem agg24 (W : World) : (isAgg 24).run Try.prog W = .ok false W := by kernel_rfl
theorem agg29 (W : World) : (isAgg 29).run Try.prog W = .ok false W := by kernel_rfl
theorem wk_f0 (g : Nat) (W : World) : (Instr.fieldAt 50 (.pointer (some ⟨g, 0, none⟩)) 0).run Try.prog W = .ok (.pointer (some ⟨g, 0, none⟩)) W := by simp [go_sem]
theorem wk_f1 (g : Nat) (W : World) : (Instr.fieldAt 50 (.pointer (some ⟨g, 0, none⟩)) 1).run Try.prog W = .ok (.pointer (some ⟨g, 1, none⟩)) W := by simp [go_sem]
theorem wk_f3 (g : Nat) (W : World) : (Instr.fieldAt 50 (.pointer (some ⟨g, 0, none⟩)) 3).run Try.prog W = .ok (.pointer (some ⟨g, 3, none⟩)) W := by simp [go_sem]
theorem wk_f4 (g : Nat) (W : World) : (Instr.fieldAt 50 (.pointer (some ⟨g, 0, none⟩)) 4).run Try.prog W = .ok (.pointer (some ⟨g, 4, none⟩)) W := by simp [go_sem]

set_option maxHeartbeats 4000000 in
theorem next_any (W0 w : World) (g E : Nat) (Lv : Value) (T : List Tok) (hL : GSl TokE encT W0 Lv T) (s : Ws) (h : Wk W0 w g E Lv s) :
    Calls Try.prog 24 #[.pointer (some ⟨g, 0, none⟩)] w fun e w' => e = .returned (.agg (encT (nx E T s))) ∧ Below w.heap.size w w' := by
  have hL' := hL.below h.1
  obtain ⟨o, cap, rfl, hcap, hm⟩ := hL'.slice
  have hgl := h.size
  obtain ⟨Wa, hWa⟩ : ∃ Wa, Wa = w.alloc (.cells (tv 0 0 ⟨#[]⟩ 0) 33) := ⟨_, rfl⟩
  have ha : Wk W0 Wa g E (.slice o T.length cap) s := by rw [hWa]; exact h.alloc _
  have l0 : ∀ u : Later Wa, u.world.cell? ⟨g, 0, none⟩ = some (.slice o T.length cap) := later_cell6 (k := 0) ha.2.2 rfl
  have l1 : ∀ u : Later Wa, u.world.cell? ⟨g, 1, none⟩ = some (.int .i64 (s.i : Int)) := later_cell6 (k := 1) ha.2.2 rfl
  have rr : Wa.heap[w.heap.size]? = some (.cells (tv 0 0 ⟨#[]⟩ 0) 33 (0, 0)) := by rw [hWa]; exact heap_new _ _ _ rfl
  have BA : Below w.heap.size w Wa := by rw [hWa]; exact (Below.refl _ _).alloc (Nat.le_refl _) _
  unfold maxLen at hm
  by_cases hi : s.i < T.length
  · obtain ⟨b, off, cur, ty, fr, c, rfl, hb, hc, hck⟩ := hL'.at s.i hi
    have hnx : nx E T s = c := by unfold nx; rw [List.getD, hck]; rfl
    rw [hnx]
    have hi' : (s.i : Int) < (T.length : Int) := by omega
    have kb : Wa.heap[b]? = some (.cells cur ty fr) := by rw [hWa]; exact heap_past _ _ _ _ hb
    have HC : Hid (∀ j, j < 4 → cur[off + s.i * 4 + j]? = (encT c)[j]?) := hc
    have ka := ha.2.2
    clear hL hL' hb hc hck hnx h ha
    go_enter Try.func24, Try.ntmps24
    go_wp2_with fail
    rw [show w.alloc (.cells #[.int .i64 0, .int .i64 0, .string ⟨#[]⟩, .int .i64 0] 33) = Wa from hWa.symm]
    have ne1 := Later.ne Wa
    refine wp_region_later (by kernel_rfl) (by kernel_rfl) ?_
    repeat first | (go_big_quiet_step (rfl)) | (refine q_nil rfl _ rfl _ rfl ?_; simp only [Act.put, List.setIfInBounds_toArray, List.set_cons_succ, List.set_cons_zero])
    refine wpQuiet_nil ?_
    rintro w' ⟨u, rfl⟩
    have kbu := later_block kb _ ⟨u, rfl⟩
    have rru := later_block rr _ ⟨u, rfl⟩
    have kau := later_block ka _ ⟨u, rfl⟩
    have bu := BA.trans (u.below.mono BA.size)
    obtain ⟨W1, hW1⟩ : ∃ W1, W1 = u.world := ⟨_, rfl⟩
    rw [← hW1] at kbu rru kau bu ⊢
    clear hW1 l0 l1 ne1 kb rr ka BA hWa
    have m0 : ∀ u : Later W1, u.world.cell? ⟨g, 0, none⟩ = some (.slice (some ⟨b, off, none⟩) T.length cap) := later_cell6 kau rfl
    have m1 : ∀ u : Later W1, u.world.cell? ⟨g, 1, none⟩ = some (.int .i64 (s.i : Int)) := later_cell6 kau rfl
    go_wp2_with fail
    have ne2 := Later.ne W1
    refine wp_region_latertail 10 (by kernel_rfl) (by kernel_rfl) ?_
    simp only [List.take_succ_cons, List.take_zero, List.drop_succ_cons, List.drop_zero]
    repeat first | (go_big_quiet_step (rfl)) | (refine q_nil rfl _ rfl _ rfl ?_; simp only [Act.put, List.setIfInBounds_toArray, List.set_cons_succ, List.set_cons_zero])
    refine qlE (E := TokE) TokOk rfl _ rfl b (off + s.i * 4) rfl cur ty fr (encT c) rfl (later_block kbu) HC.out ?_
    simp only [Act.put, List.setIfInBounds_toArray, List.set_cons_succ, List.set_cons_zero]
    refine wpQuiet_nil ?_
    rintro w' ⟨u2, rfl⟩
    have rr2 := later_block rru _ ⟨u2, rfl⟩
    have b2 := bu.trans (u2.below.mono bu.size)
    obtain ⟨W2, hW2⟩ : ∃ W2, W2 = u2.world := ⟨_, rfl⟩
    rw [← hW2] at rr2 b2 ⊢
    clear hW2 m0 m1 ne2 kbu rru kau
    refine wl_storeE (E := TokE) TokOk rfl _ _ rfl w.heap.size (encT c) (tv_fits _ _ _ _) rfl rfl _ rr2 rfl _ rfl ?_
    go_wp2_with fail
    refine retE (E := TokE) TokOk rfl rfl w.heap.size rfl (encT c) rfl (setRow_heap _ _ _ _ _ _ rr2) ?_
    exact ⟨rfl, below_setRow b2 (Nat.le_refl _) _⟩
  · have hnx : nx E T s = ⟨0, E, [], 0⟩ := nx_nil (List.drop_eq_nil_iff.2 (by omega))
    rw [hnx]
    have hi' : ¬ (s.i : Int) < (T.length : Int) := by omega
    have hid : decide ((s.i : Int) < (T.length : Int)) = false := by simp; omega
    have ka := ha.2.2
    clear hL hL' hnx h ha
    go_enter Try.func24, Try.ntmps24
    go_wp2_with fail
    rw [show w.alloc (.cells #[.int .i64 0, .int .i64 0, .string ⟨#[]⟩, .int .i64 0] 33) = Wa from hWa.symm]
    have ne1 := Later.ne Wa
    refine wp_region_later (by kernel_rfl) (by kernel_rfl) ?_
    repeat first | (go_big_quiet_step (rfl)) | (refine q_nil rfl _ rfl _ rfl ?_; simp only [Act.put, List.setIfInBounds_toArray, List.set_cons_succ, List.set_cons_zero])
    refine wpQuiet_nil ?_
    rintro w' ⟨u, rfl⟩
    have rru := later_block rr _ ⟨u, rfl⟩
    have kau := later_block ka _ ⟨u, rfl⟩
    have bu := BA.trans (u.below.mono BA.size)
    obtain ⟨W1, hW1⟩ : ∃ W1, W1 = u.world := ⟨_, rfl⟩
    rw [← hW1] at rru kau bu ⊢
    clear hW1 l0 l1 ne1 rr ka BA hWa
    have m2 : W1.cell? ⟨g, 2, none⟩ = some (.int .i64 (E : Int)) := by rw [cell_of_row _ _ _ _ _ _ kau]; rfl
    have HRR : Hid (W1.heap[w.heap.size]? = some (.cells (tv 0 0 ⟨#[]⟩ 0) 33 (0, 0))) := rru
    clear rru kau
    go_wp2_with (first
      | (refine wl_storeE (E := TokE) TokOk rfl _ _ rfl w.heap.size (tv 0 (E : Nat) ⟨#[]⟩ 0) (tv_fits _ _ _ _) rfl rfl _ HRR.out rfl _ rfl ?_))
    refine retE (E := TokE) TokOk rfl rfl w.heap.size rfl (tv 0 (E : Nat) ⟨#[]⟩ 0) rfl (setRow_heap _ _ _ _ _ _ HRR.out) ?_
    exact ⟨rfl, below_setRow bu (Nat.le_refl _) _⟩
end Go.Proofs.Ytanmbaleadcfgaa
