import Derived.Test.YtgcfdcgmddjhbaaDoorRdAct
namespace Go.Proofs.YtgcfdcgmddjhbaaDoor
open Go Go.RowKit
set_option maxRecDepth 20000

/-- One operation of a drawn region, by the laws for a list of them. -/
theorem wpOp_of_list {P : Program} {ops : Array Oper} {Q : Exit → Act → World → Prop} {i : Nat} {o : Oper} {K : Act → World → Prop} {a : Act} {w : World} (hi : ops[i]? = some o)
    (h : wpList P ops (fun e a' w' => match e with | .normal => K a' w' | e => Q e a' w') [o] a w) : wpOp P ops Q i K a w := by
  unfold Go.wpOp
  simp only [hi]
  unfold wpList at h
  by_cases hw : Region.wanted o (yielded ops a.tmps) = true
  · rw [if_pos hw] at h ⊢
    rcases h with h | h
    · refine .inl ?_
      unfold Oper.wp at h ⊢
      revert h
      generalize (execOp a.eval o).run P w = r
      intro h
      unfold Oper.upon at h ⊢
      split at h
      · exact h
      · exact h
      · exact h
      · refine h.mono ?_
        intro e w1 h1
        cases e <;> exact h1
      · exact h
      · exact h
      · exact h.elim
    · exact .inr h
  · rw [if_neg hw] at h ⊢
    exact h
theorem eval_put (a : Act) (k j : Nat) (v : Value) (hk : k < a.tmps.size) : (a.put (some k) v).eval (.tmp j) = if j = k then v else a.eval (.tmp j) := by
  simp only [Act.eval, Act.put, Array.getElem?_setIfInBounds, Array.getD_eq_getD_getElem?]
  by_cases h : j = k
  · subst h; simp [hk]
  · simp [h, Ne.symm h]
theorem size_put (a : Act) (d : Option Tmp) (v : Value) : (a.put d v).tmps.size = a.tmps.size := by
  cases d <;> simp [Act.put]
theorem w_set_heap (w : World) : w.drew.heap = w.heap := rfl
theorem gb_drew (w : World) (g : Nat) : w.grownBy w.drew (some g) := ⟨rfl, rfl, rfl, Nat.le_refl _, fun _ _ _ => rfl⟩
theorem load_cell {ty e : TypeId} (hu : Tryd.prog.underlying ty = some (.slice e)) (W : World) (ad : Addr) (v : Value) (h : W.cell? ad = some v) : (Instr.loadAt ty (.pointer (some ad))).run Tryd.prog W = .ok v W := by
  have ha : (isAgg ty).run Tryd.prog W = .ok false W := by unfold isAgg; rw [Sem.run_bind, run_underlying hu W]; simp [go_sem]
  simp [Instr.loadAt, Instr.sureAddr, loadVar, Sem.run_bind, ha, go_sem, h]
theorem store_cell {ty : TypeId} (hsz : ∀ W, (sizeOf ty).run Tryd.prog W = .ok 1 W) (W : World) (ad : Addr) (v u : Value) (hv : ∃ o n c, v = .slice o n c) (h : W.cell? ad = some u) (hz : W.frozen? ad = false) : (Instr.storeAt ty (.pointer (some ad)) v).run Tryd.prog W = .ok () (W.setCell ad v) := by
  obtain ⟨o, n, c, rfl⟩ := hv
  simp [Instr.storeAt, Instr.sureAddr, storeVar, Sem.run_bind, hsz, go_sem, h, hz]
/-- One operation whose value is known. -/
theorem wpOp_val {ops : Array Oper} {Q : Exit → Act → World → Prop} {i : Nat} {o : Oper} {K : Act → World → Prop} {a : Act} {w w' : World} (hi : ops[i]? = some o) (hw : Region.wanted o (yielded ops a.tmps) = true) (v : Value)
    (hx : (execOp a.eval o).run Tryd.prog w = .ok (.value v) w') (d : Option Tmp) (hd : o.dst = d) (hK : K (a.put d v) w') : wpOp Tryd.prog ops Q i K a w := by
  subst hd
  refine wpOp_wanted hi hw ?_
  unfold Oper.wp
  rw [hx]
  exact hK
theorem wpOp_skip {ops : Array Oper} {Q : Exit → Act → World → Prop} {i : Nat} {o : Oper} {K : Act → World → Prop} {a : Act} {w w' : World} (hi : ops[i]? = some o) (hw : Region.wanted o (yielded ops a.tmps) = true)
    (hx : (execOp a.eval o).run Tryd.prog w = .ok .skip w') (d : Option Tmp) (hd : o.dst = d) (hK : K (a.put d undef) w') : wpOp Tryd.prog ops Q i K a w := by
  subst hd
  refine wpOp_wanted hi hw ?_
  unfold Oper.wp
  rw [hx]
  exact hK
theorem wpOp_skip0 {ops : Array Oper} {Q : Exit → Act → World → Prop} {i : Nat} {o : Oper} {K : Act → World → Prop} {a : Act} {w w' : World} (hi : ops[i]? = some o) (hw : Region.wanted o (yielded ops a.tmps) = true)
    (hx : (execOp a.eval o).run Tryd.prog w = .ok .skip w') (hd : o.dst = none) (hK : K a w') : wpOp Tryd.prog ops Q i K a w :=
  wpOp_skip hi hw hx none hd hK
theorem wpOp_callQ {ops : Array Oper} {Q : Exit → Act → World → Prop} {i : Nat} {o : Oper} {K : Act → World → Prop} {a : Act} {w : World} (hi : ops[i]? = some o) (hw : Region.wanted o (yielded ops a.tmps) = true) (f : FuncId) (vs : Array Value)
    (hf : (execOp a.eval o).run Tryd.prog w = .ok (.enter f vs) w) (D : Ending → World → Prop) (h : Calls Tryd.prog f vs w D) (d : Option Tmp) (hd : o.dst = d) (hK : ∀ v w', D (.returned v) w' → K (a.put d v) w') (hP : ∀ ch w', D (.panicked ch) w' → Q (.panic ch) a w') (hO : ∀ w', ¬ D .outgrown w') : wpOp Tryd.prog ops Q i K a w := by
  subst hd
  refine wpOp_wanted hi hw ?_
  unfold Oper.wp
  rw [hf]
  refine h.mono ?_
  intro e w' hD
  cases e with
  | returned v => exact hK v w' hD
  | panicked ch => exact hP ch w' hD
  | outgrown => exact absurd hD (hO w')

theorem run_fieldOp {o : Oper} {t i : Nat} {x : Operand} (ho : o.op = .fieldAddr t x i) (a : Act) (W : World) (v : Value) (h : (Instr.fieldAt t (a.eval x) i).run Tryd.prog W = .ok v W) : (execOp a.eval o).run Tryd.prog W = .ok (.value v) W := by
  unfold execOp
  simp only [ho, Sem.run_bind, h, Result.andThen_ok, Sem.run_pure]
theorem run_moveOp {o : Oper} {x : Operand} (ho : o.op = .move x) (a : Act) (W : World) (v : Value) (h : a.eval x = v) : (execOp a.eval o).run Tryd.prog W = .ok (.value v) W := by
  unfold execOp
  simp only [ho, Sem.run_pure, h]
theorem run_loadOp {o : Oper} {t : Nat} {x : Operand} (ho : o.op = .load t x) (a : Act) (W : World) (u v : Value) (hu : a.eval x = u) (h : (Instr.loadAt t u).run Tryd.prog W = .ok v W) : (execOp a.eval o).run Tryd.prog W = .ok (.value v) W := by
  unfold execOp
  simp only [ho, Sem.run_bind, hu, h, Result.andThen_ok, Sem.run_pure]
theorem run_storeOp {o : Oper} {t : Nat} {x y : Operand} (ho : o.op = .store t x y) (a : Act) (W W' : World) (u v : Value) (hu : a.eval x = u) (hv : a.eval y = v) (h : (Instr.storeAt t u v).run Tryd.prog W = .ok () W') : (execOp a.eval o).run Tryd.prog W = .ok .skip W' := by
  unfold execOp
  simp only [ho, Sem.run_bind, hu, hv, h, Result.andThen_ok, Sem.run_pure]
theorem run_callOp {o : Oper} {f : Nat} {x : Operand} {ts : Array TypeId} (ho : o.op = .call { callee := .value (.func f), args := #[x], argTypes := ts }) (hf : ∀ vs W, (callFunc f vs).run Tryd.prog W = .ok (.enter f vs) W) (a : Act) (W : World) (v : Value) (h : a.eval x = v) : (execOp a.eval o).run Tryd.prog W = .ok (.enter f #[v]) W := by
  unfold execOp
  have hef : a.eval (.func f) = .func (.func f) #[] #[] := rfl
  simp only [ho, resolve, hef, List.map_toArray, List.map_cons, List.map_nil, h]
  simp [go_sem, hf]
end Go.Proofs.YtgcfdcgmddjhbaaDoor
