import Derived.Test.YtplnlmkmaapbaaaSpRef
namespace Go.Proofs.Ytplnlmkmaapbaaa
open Go Go.RowKit

theorem load_num (w : World) (g k : Nat) (cs : Array Value) (t : TypeId) (fr : Nat × Nat) (n : Int) (hg : w.heap[g]? = some (.cells cs t fr)) (hc : cs[k]? = some (.int .i64 n)) :
    (loadVar 3 ⟨g, k, none⟩).run Try.prog w = .ok (.int .i64 n) w := by
  have hagg : (isAgg 3).run Try.prog w = .ok false w := by kernel_rfl
  have h1 : w.cell? ⟨g, k, none⟩ = some (.int .i64 n) := by rw [cell_of_row w g k cs t fr hg, hc]
  simp [loadVar, Sem.run_bind, hagg, h1]
theorem qlN {W : World} {ops : Array Oper} {Q : Act → Prop} {rest : List Oper} {o : Oper} {a : Act} (hw : Region.wanted o (yielded ops a.tmps) = true) (x : Operand) (ho : o.op = .load 3 x)
    (g k : Nat) (hx : a.eval x = .pointer (some ⟨g, k, none⟩)) (cs : Array Value) (t : TypeId) (fr : Nat × Nat) (n : Int) (hg : W.heap[g]? = some (.cells cs t fr)) (hc : cs[k]? = some (.int .i64 n))
    (h : wpQuiet Try.prog ops (fun w' => ∃ u : Later W, w' = u.world) Q rest (a.put o.dst (.int .i64 n))) : wpQuiet Try.prog ops (fun w' => ∃ u : Later W, w' = u.world) Q (o :: rest) a := by
  refine BigFrame.wpQuiet_want hw fun K hK => ⟨.int .i64 n, fun w hC => ?_, hK _ h⟩
  unfold Oper.quietAt execOp
  simp only [ho, hx, Instr.loadAt, Instr.sureAddr, Sem.run_bind, Sem.run_pure, Result.andThen_ok, load_num w g k cs t fr n (later_block hg w hC) hc]
  exact ⟨rfl, rfl⟩
theorem Calls.later_same {P : Program} {f : FuncId} {args : Array Value} {W : World} {u : Later W} {v : Value}
    (h : Calls P f args u.world fun e w' => e = .returned v ∧ w' = u.world) : Calls P f args u.world fun e w'' => e = .returned v ∧ ∃ u' : Later W, w'' = u'.world :=
  h.mono fun _ _ ⟨he, hb⟩ => ⟨he, u, hb⟩

set_option maxHeartbeats 400000 in
theorem in_any (p : Nat × Nat) (hp : p.2 ≤ 16) (hv : p.1 ≤ 65535) (x : Nat) (_hx : x ≤ 65535) (w : World) :
    Calls Try.prog 9 #[.agg (pv (p.1 : Int) (p.2 : Int)), .int .i64 (x : Int)] w fun e w' => e = .returned (.bool (inP p x)) ∧ Below w.heap.size w w' := by
  obtain ⟨v, b⟩ := p
  simp only at hp hv ⊢
  have D : Hid (∀ W, Calls Try.prog 10 #[.int .i64 (b : Int)] W fun e w' => e = .returned (.int .i64 ((sz b : Nat) : Int)) ∧ w' = W) := many_any b hp
  have hs1 := sz_le b
  have HI : Hid (inP (v, b) x = (decide (v ≤ x) && decide (x < v + sz b))) := rfl
  obtain ⟨s, hs⟩ : ∃ s, s = sz b := ⟨_, rfl⟩
  rw [← hs] at D hs1 HI
  clear hs
  have g0 := heap_new w (.cells (pv (v : Int) (b : Int)) 29) _ rfl
  have ne1 := Later.ne (w.alloc (.cells (pv (v : Int) (b : Int)) 29))
  by_cases hge : v ≤ x
  · go_enter Try.func9, Try.ntmps9
    go_wp2_with fail
    refine wp_region_later (by kernel_rfl) (by kernel_rfl) ?_
    go_big_quiet_step (fail)
    go_big_quiet_step (fail)
    refine qlN rfl _ rfl w.heap.size 0 rfl _ _ _ (v : Int) g0 rfl ?_
    simp only [Act.put, List.setIfInBounds_toArray, List.set_cons_succ, List.set_cons_zero]
    go_big_quiet_step (fail)
    go_big_quiet_step (fail)
    go_big_quiet_step (fail)
    go_big_quiet_step (fail)
    refine qlN rfl _ rfl w.heap.size 0 rfl _ _ _ (v : Int) g0 rfl ?_
    simp only [Act.put, List.setIfInBounds_toArray, List.set_cons_succ, List.set_cons_zero]
    go_big_quiet_step (fail)
    refine qlN rfl _ rfl w.heap.size 1 rfl _ _ _ (b : Int) g0 rfl ?_
    simp only [Act.put, List.setIfInBounds_toArray, List.set_cons_succ, List.set_cons_zero]
    go_big_quiet_want; go_big_quiet_op
    refine ⟨_, fun u => Calls.later_same (D.out u.world), ?_⟩
    go_big_quiet_on
    go_big_quiet_step (fail)
    go_big_quiet_step (fail)
    go_big_quiet_step (fail)
    go_big_quiet_step (fail)
    refine wpQuiet_nil ?_
    rintro w' ⟨u, rfl⟩
    have hb2 := ((Below.refl _ w).alloc (Nat.le_refl _) (.cells (pv (v : Int) (b : Int)) 29)).trans (u.below.mono (by simp))
    go_wp2_with fail
    go_ret
    refine ⟨ret_bool ?_, hb2⟩
    rw [HI.out, Bool.eq_iff_iff]
    simp only [decide_eq_true_eq, Bool.and_eq_true]
    omega
  · go_enter Try.func9, Try.ntmps9
    go_wp2_with fail
    refine wp_region_later (by kernel_rfl) (by kernel_rfl) ?_
    go_big_quiet_step (fail)
    go_big_quiet_step (fail)
    refine qlN rfl _ rfl w.heap.size 0 rfl _ _ _ (v : Int) g0 rfl ?_
    simp only [Act.put, List.setIfInBounds_toArray, List.set_cons_succ, List.set_cons_zero]
    go_big_quiet_step (fail)
    go_big_quiet_step (fail)
    go_big_quiet_step (fail)
    go_big_quiet_step (fail)
    go_big_quiet_step (fail)
    go_big_quiet_step (fail)
    go_big_quiet_step (fail)
    go_big_quiet_step (fail)
    go_big_quiet_step (fail)
    go_big_quiet_step (fail)
    go_big_quiet_step (fail)
    go_big_quiet_step (fail)
    refine wpQuiet_nil ?_
    rintro w' ⟨u, rfl⟩
    have hb2 := ((Below.refl _ w).alloc (Nat.le_refl _) (.cells (pv (v : Int) (b : Int)) 29)).trans (u.below.mono (by simp))
    go_wp2_with fail
    go_ret
    refine ⟨ret_bool ?_, hb2⟩
    rw [HI.out]
    simp
    omega
end Go.Proofs.Ytplnlmkmaapbaaa
