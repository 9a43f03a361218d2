import Derived.Test.YtgcfdcgmddjhbaaDoorGen
import Derived.Test.YtgcfdcgmddjhbaaDoorLexMath
import Derived.Test.YtgcfdcgmddjhbaaDoorLexStr
import Derived.OwnWalk
namespace Go.Proofs.YtgcfdcgmddjhbaaDoor
open Go Go.RowKit
set_option maxRecDepth 20000

/-- Where a walk stands still. -/
def StopT (p : Prop) : Prop := p
theorem of_stopT {p : Prop} (h : StopT p) : p := h
/-- A token's cells. -/
def tv (k p : Int) (t : ByteArray) (n : Int) : Array Value := #[.int .i64 k, .int .i64 p, .string t, .int .i64 n]
def encT (t : Tok) : Array Value := tv (t.kind : Nat) (t.pos : Nat) ⟨t.text.toArray⟩ (t.num : Nat)
def TokE : El := ⟨52, 40, 4, 40, tv 0 0 ⟨#[]⟩ 0⟩
theorem TokOk : TokE.Ok := ⟨Tryd.underlying40, ⟨_, Tryd.underlying52, rfl⟩, by kernel_rfl, rfl, by decide, by decide, by decide⟩
theorem tv_fits (k p : Int) (t : ByteArray) (n : Int) : Fits TokE (tv k p t n) := ⟨rfl, by simp [tv, Value.oneCell']⟩
theorem encT_size (t : Tok) : (encT t).size = TokE.size := rfl

theorem beq_bytes (a b : ByteArray) : (a == b) = (a.data.toList == b.data.toList) := by rw [beq_toListBytes, ByteArray.toList_eq, ByteArray.toList_eq]
theorem eqFields_step {P : Program} (w : World) {d : Nat} {xs ys : Array Value} {f : Field} {fs : List Field} {a b : Value} {r R : Bool} (hn : f.name ≠ "_") (ha : (part f.type xs f.offset).run P w = .ok a w) (hb : (part f.type ys f.offset).run P w = .ok b w)
    (he : (Op.equalIn d f.type a b).run P w = .ok r w) (h : (Op.eqFields d xs ys fs).run P w = .ok R w) : (Op.eqFields d xs ys (f :: fs)).run P w = .ok (r && R) w := by
  simp only [Op.eqFields, if_pos hn, Sem.run_bind, ha, hb, he, Result.andThen_ok]
  cases r
  · simp
  · simpa using h
theorem part_cell {P : Program} (w : World) {t : TypeId} {xs : Array Value} {k : Nat} {v : Value} (ha : (isAgg t).run P w = .ok false w) (hx : xs[k]? = some v) : (part t xs k).run P w = .ok v w := by
  simp [part, ha, hx, Sem.run_bind]
theorem eqT (k p : Int) (t : ByteArray) (n : Int) (k' p' : Int) (t' : ByteArray) (n' : Int) (w : World) :
    (Op.equalIn 10000 52 (.agg (tv k p t n)) (.agg (tv k' p' t' n'))).run Tryd.prog w = .ok (k == k' && (p == p' && (t.toList == t'.toList && (n == n' && true)))) w := by
  rw [run_equalIn_struct w 9999 52 _ _ Tryd.underlying52 (by kernel_rfl)]
  have a3 : (isAgg 3).run Tryd.prog w = .ok false w := by kernel_rfl
  have a9 : (isAgg 9).run Tryd.prog w = .ok false w := by kernel_rfl
  simp only [Program.fieldsOf, Tryd.underlying52]
  refine eqFields_step w (by decide) (part_cell w a3 rfl) (part_cell w a3 rfl) (run_equalIn_int w _ 3 .i64 .i64 _ _ Tryd.underlying3) ?_
  refine eqFields_step w (by decide) (part_cell w a3 rfl) (part_cell w a3 rfl) (run_equalIn_int w _ 3 .i64 .i64 _ _ Tryd.underlying3) ?_
  refine eqFields_step w (by decide) (part_cell w a9 rfl) (part_cell w a9 rfl) (run_equalIn_string w _ 9 _ _ Tryd.underlying9) ?_
  refine eqFields_step w (by decide) (part_cell w a3 rfl) (part_cell w a3 rfl) (run_equalIn_int w _ 3 .i64 .i64 _ _ Tryd.underlying3) ?_
  rfl
theorem eqT_same (t : Tok) (w : World) : (Op.equalIn 10000 52 (.agg (encT t)) (.agg (encT t))).run Tryd.prog w = .ok true w := by
  unfold encT
  rw [eqT]
  simp
theorem egT (op : BinOp) (x y : Operand) (xs ys : Array Value) (w : World) : (eqGuard op 52 x y (.agg xs) (.agg ys)).run Tryd.prog w = .ok () w :=
  run_eqGuard_agg w op 52 x y xs ys (by kernel_rfl)

theorem tc_row {w : World} {g k : Nat} {cs : Array Value} {t : TypeId} {fr : Nat × Nat} (h : w.heap[g]? = some (.cells cs t fr)) (v : Value) : (w.setCell ⟨g, k, none⟩ v).heap[g]? = some (.cells (cs.setIfInBounds k v) t fr) := by
  simp [World.setCell, Array.getElem?_modify, h]
theorem tc_far {w : World} {g g' k : Nat} (h : g ≠ g') (v : Value) : (w.setCell ⟨g, k, none⟩ v).heap[g']? = w.heap[g']? := by
  simp [World.setCell, Array.getElem?_modify, h]
theorem tc_below {B : Nat} {a w : World} (h : Below B a w) {g : Nat} (hg : B ≤ g) (k : Nat) (v : Value) : Below B a (w.setCell ⟨g, k, none⟩ v) :=
  ⟨h.os, h.tape, h.output, by simpa [World.setCell] using h.size, fun j hj => (tc_far (by omega) v).trans (h.block j hj)⟩
theorem tc_size (w : World) (a : Addr) (v : Value) : (w.setCell a v).heap.size = w.heap.size := by simp [World.setCell]
theorem tc_frozen {w : World} {g k : Nat} {cs : Array Value} {t : TypeId} {fr : Nat × Nat} (h : w.heap[g]? = some (.cells cs t fr)) (hf : fr = (0, 0)) : w.frozen? ⟨g, k, none⟩ = false := by
  subst hf
  simp [World.frozen?, h]

theorem retT {fn : Func} {R : Ending → World → Prop} {a : Act} {w : World} {p u u' : Tmp} (hr : fn.results = #[.cell p 52, .tmp u, .tmp u']) (hd : a.defers = []) (g : Nat) (hp : a.tmps.getD p undef = .pointer (some ⟨g, 0, none⟩)) (cs : Array Value) (hcs : cs.size = 4)
    (hg : w.heap[g]? = some (.cells cs 52 (0, 0))) (v v' : Value) (hu : a.tmps.getD u undef = v) (hu' : a.tmps.getD u' undef = v') (h : R (.returned (.tuple #[.agg cs, v, v'])) w) : bodyPost Tryd.prog fn R .ret a w := by
  refine bodyPost_ret (v := .tuple #[.agg cs, v, v']) ?_ hd h
  rw [Array.getD_eq_getD_getElem?] at hp hu hu'
  simp [results, hr, hp, hu, hu', asAddr, run_loadVar_row w g 52 52 cs (0, 0) _ hg Tryd.underlying52 rfl (TokOk.cellsz cs hcs)]
end Go.Proofs.YtgcfdcgmddjhbaaDoor
