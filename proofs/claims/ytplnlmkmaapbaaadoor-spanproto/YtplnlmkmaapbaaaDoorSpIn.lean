import Derived.Test.YtplnlmkmaapbaaaDoorSpRef
namespace Go.Proofs.YtplnlmkmaapbaaaDoor
open Go Go.RowKit

theorem load_num (w : World) (g k : Nat) (cs : Array Value) (t : TypeId) (fr : Nat × Nat) (n : Int) (hg : w.heap[g]? = some (.cells cs t fr)) (hc : cs[k]? = some (.int .i64 n)) :
    (loadVar 3 ⟨g, k, none⟩).run Tryd.prog w = .ok (.int .i64 n) w := by
  have hagg : (isAgg 3).run Tryd.prog w = .ok false w := by kernel_rfl
  have h1 : w.cell? ⟨g, k, none⟩ = some (.int .i64 n) := by rw [cell_of_row w g k cs t fr hg, hc]
  simp [loadVar, Sem.run_bind, hagg, h1]
theorem qlN {W : World} {ops : Array Oper} {Q : Act → Prop} {rest : List Oper} {o : Oper} {a : Act} (hw : Region.wanted o (yielded ops a.tmps) = true) (x : Operand) (ho : o.op = .load 3 x)
    (g k : Nat) (hx : a.eval x = .pointer (some ⟨g, k, none⟩)) (cs : Array Value) (t : TypeId) (fr : Nat × Nat) (n : Int) (hg : W.heap[g]? = some (.cells cs t fr)) (hc : cs[k]? = some (.int .i64 n))
    (h : wpQuiet Tryd.prog ops (fun w' => ∃ u : Later W, w' = u.world) Q rest (a.put o.dst (.int .i64 n))) : wpQuiet Tryd.prog ops (fun w' => ∃ u : Later W, w' = u.world) Q (o :: rest) a := by
  refine BigFrame.wpQuiet_want hw fun K hK => ⟨.int .i64 n, fun w hC => ?_, hK _ h⟩
  unfold Oper.quietAt execOp
  simp only [ho, hx, Instr.loadAt, Instr.sureAddr, Sem.run_bind, Sem.run_pure, Result.andThen_ok, load_num w g k cs t fr n (later_block hg w hC) hc]
  exact ⟨rfl, rfl⟩
theorem Calls.later_same {P : Program} {f : FuncId} {args : Array Value} {W : World} {u : Later W} {v : Value}
    (h : Calls P f args u.world fun e w' => e = .returned v ∧ w' = u.world) : Calls P f args u.world fun e w'' => e = .returned v ∧ ∃ u' : Later W, w'' = u'.world :=
  h.mono fun _ _ ⟨he, hb⟩ => ⟨he, u, hb⟩

end Go.Proofs.YtplnlmkmaapbaaaDoor
