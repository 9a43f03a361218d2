import Derived.Test.YtgcfdcgmddjhbaaDoorRdLines
import Derived.Test.YtgcfdcgmddjhbaaDoorParseWalk
import Derived.Test.YtgcfdcgmddjhbaaDoorQTail6
import Derived.BigQuiet
namespace Go.Proofs.YtgcfdcgmddjhbaaDoor
open Go Go.RowKit
set_option maxRecDepth 20000

/-- The reference's walk at block g, in a state; its tokens lie in memory that was there ahead of it. -/
def wkV (Lv : Value) (E : Nat) (s : Ws) : Array Value := #[Lv, .int .i64 (s.i : Int), .int .i64 (E : Int), .int .i64 (s.bad : Int), .int .i64 (s.pos : Int)]
theorem later_cell6 {W : World} {g k : Nat} {cs : Array Value} {t : TypeId} {fr : Nat × Nat} {v : Value} (hg : W.heap[g]? = some (.cells cs t fr)) (hk : cs[k]? = some v) : ∀ u : Later W, u.world.cell? ⟨g, k, none⟩ = some v := fun u => by
  rw [cell_of_row _ _ _ _ _ _ (later_block hg _ ⟨u, rfl⟩), hk]

theorem q_val {C : World → Prop} {ops : Array Oper} {Q : Act → Prop} {rest : List Oper} {o : Oper} {a : Act} (hw : Region.wanted o (yielded ops a.tmps) = true) (v : Value) (hx : ∀ w, C w → (execOp a.eval o).run Tryd.prog w = .ok (.value v) w) (h : wpQuiet Tryd.prog ops C Q rest (a.put o.dst v)) : wpQuiet Tryd.prog ops C Q (o :: rest) a := by
  refine BigFrame.wpQuiet_want hw fun K hK => ⟨v, fun w hC => ?_, hK _ h⟩
  unfold Oper.quietAt
  rw [hx w hC]
  exact ⟨rfl, rfl⟩
theorem q_nil {C : World → Prop} {ops : Array Oper} {Q : Act → Prop} {rest : List Oper} {o : Oper} {a : Act} (hw : Region.wanted o (yielded ops a.tmps) = true) (x : Operand) (ho : o.op = .nilCheck x) (ad : Addr) (hx : a.eval x = .pointer (some ad)) (h : wpQuiet Tryd.prog ops C Q rest (a.put o.dst (.pointer (some ad)))) : wpQuiet Tryd.prog ops C Q (o :: rest) a := by
  refine q_val hw _ (fun w _ => ?_) h
  unfold execOp
  simp only [ho, hx]
  simp [go_sem]

theorem q_field {C : World → Prop} {ops : Array Oper} {Q : Act → Prop} {rest : List Oper} {o : Oper} {a : Act} (hw : Region.wanted o (yielded ops a.tmps) = true) (t : TypeId) (x : Operand) (i : Nat) (ho : o.op = .fieldAddr t x i) (u v : Value) (hx : a.eval x = u) (hf : ∀ w, (Instr.fieldAt t u i).run Tryd.prog w = .ok v w) (h : wpQuiet Tryd.prog ops C Q rest (a.put o.dst v)) : wpQuiet Tryd.prog ops C Q (o :: rest) a :=
  q_val hw _ (fun w _ => run_fieldOp ho a w v (by rw [hx]; exact hf w)) h
theorem q_load {C : World → Prop} {ops : Array Oper} {Q : Act → Prop} {rest : List Oper} {o : Oper} {a : Act} (hw : Region.wanted o (yielded ops a.tmps) = true) (t : TypeId) (x : Operand) (ho : o.op = .load t x) (u v : Value) (hx : a.eval x = u) (hl : ∀ w, C w → (Instr.loadAt t u).run Tryd.prog w = .ok v w) (h : wpQuiet Tryd.prog ops C Q rest (a.put o.dst v)) : wpQuiet Tryd.prog ops C Q (o :: rest) a :=
  q_val hw _ (fun w hC => run_loadOp ho a w u v hx (hl w hC)) h
theorem q_move {C : World → Prop} {ops : Array Oper} {Q : Act → Prop} {rest : List Oper} {o : Oper} {a : Act} (hw : Region.wanted o (yielded ops a.tmps) = true) (x : Operand) (ho : o.op = .move x) (v : Value) (hx : a.eval x = v) (h : wpQuiet Tryd.prog ops C Q rest (a.put o.dst v)) : wpQuiet Tryd.prog ops C Q (o :: rest) a :=
  q_val hw _ (fun w _ => run_moveOp ho a w v hx) h
theorem agg3 (W : World) : (isAgg 3).run Tryd.prog W = .ok false W := by kernel_rfl
theorem agg24 (W : World) : (isAgg 34).run Tryd.prog W = .ok false W := by kernel_rfl
theorem agg29 (W : World) : (isAgg 40).run Tryd.prog W = .ok false W := by kernel_rfl
end Go.Proofs.YtgcfdcgmddjhbaaDoor
