import Derived.Test.YtfbphblodankmaaMeet
import Derived.Laws.CopyRow
namespace Go.Proofs.Ytfbphblodankmaa
open Go Go.RowKit
set_option maxRecDepth 20000

theorem info13 : (Try.prog.info? 34).map (·.size) = some 13 := by kernel_rfl

/-- A header that lies within a block, from a place on. -/
theorem load_part (w : World) (g off : Nat) (cs : Array Value) (t : TypeId) (fr : Nat × Nat) (L : List Int) (hL : L.length = 13) (hg : w.heap[g]? = some (.cells cs t fr)) (hc : ∀ j, j < 13 → cs[off + j]? = some (.int .u8 (L.getD j 0))) :
    (loadVar 34 ⟨g, off, none⟩).run Try.prog w = .ok (.agg (hv L)) w := by
  have hl : (loadCells ⟨g, off, none⟩ ((L.map (Value.int .u8))).length).run Try.prog w = .ok (L.map (Value.int .u8)).toArray w :=
    run_loadCells_list (P := Try.prog) w ⟨g, off, none⟩ (L.map (Value.int .u8)) (fun j v hv => by
      have hadd : (⟨g, off, none⟩ : Addr).add j = ⟨g, off + j, none⟩ := by unfold Addr.add; split <;> simp_all
      have hj : j < 13 := by
        have := (List.getElem?_eq_some_iff.1 hv).1
        simpa [hL] using this
      rw [hadd, cell_of_row w g (off + j) cs t fr hg, hc j hj]
      rw [List.getElem?_map, List.getElem?_eq_getElem (by omega)] at hv
      simpa [List.getD, hL, hj] using hv)
  have hi := info13
  cases hq : Try.prog.info? 34 with
  | none => simp [hq] at hi
  | some i =>
    have hs : i.size = 13 := by simpa [hq] using hi
    have hagg : (isAgg 34).run Try.prog w = .ok true w := by
      unfold isAgg
      rw [Sem.run_bind, run_underlying Try.underlying34 w]
      rfl
    rw [List.length_map, hL] at hl
    simp [loadVar, Sem.run_bind, hagg, sizeOf, typeInfo, hq, hs, hl, hv]

theorem wl_loadPart {ops : Array Oper} {rest : List Oper} {o : Oper} {a : Act} {w : World} {Q : Exit → Act → World → Prop} (hw : Region.wanted o (yielded ops a.tmps) = true) (x : Operand) (ho : o.op = .load 34 x)
    (g off : Nat) (hx : a.eval x = .pointer (some ⟨g, off, none⟩)) (cs : Array Value) (t : TypeId) (fr : Nat × Nat) (L : List Int) (hL : L.length = 13) (hg : w.heap[g]? = some (.cells cs t fr)) (hc : ∀ j, j < 13 → cs[off + j]? = some (.int .u8 (L.getD j 0)))
    (h : wpList Try.prog ops Q rest (a.put o.dst (.agg (hv L))) w) : wpList Try.prog ops Q (o :: rest) a w := by
  refine wpList_step fun K hK => ?_
  rw [if_pos hw]
  unfold Oper.wp execOp
  simp only [ho, hx, Instr.loadAt, Instr.sureAddr, Sem.run_bind, Sem.run_pure, Result.andThen_ok, load_part w g off cs t fr L hL hg hc]
  exact hK _ _ h
/-- The mask of a cube in memory. -/
theorem wl_loadM {ops : Array Oper} {rest : List Oper} {o : Oper} {a : Act} {w : World} {Q : Exit → Act → World → Prop} (hw : Region.wanted o (yielded ops a.tmps) = true) (x : Operand) (ho : o.op = .load 34 x)
    (g : Nat) (hx : a.eval x = .pointer (some ⟨g, 13, none⟩)) (V M : List Int) (hg : w.heap[g]? = some (.cells (cv V M) 36 (0, 0))) (hV : V.length = 13) (hM : M.length = 13)
    (h : wpList Try.prog ops Q rest (a.put o.dst (.agg (hv M))) w) : wpList Try.prog ops Q (o :: rest) a w :=
  wl_loadPart hw x ho g 13 hx _ _ _ M hM hg (fun j hj => cv_mask V M hV hM j hj) h
theorem wl_loadV {ops : Array Oper} {rest : List Oper} {o : Oper} {a : Act} {w : World} {Q : Exit → Act → World → Prop} (hw : Region.wanted o (yielded ops a.tmps) = true) (x : Operand) (ho : o.op = .load 34 x)
    (g : Nat) (hx : a.eval x = .pointer (some ⟨g, 0, none⟩)) (V M : List Int) (hg : w.heap[g]? = some (.cells (cv V M) 36 (0, 0))) (hV : V.length = 13)
    (h : wpList Try.prog ops Q rest (a.put o.dst (.agg (hv V))) w) : wpList Try.prog ops Q (o :: rest) a w :=
  wl_loadPart hw x ho g 0 hx _ _ _ V hV hg (fun j hj => by rw [Nat.zero_add]; exact cv_val V M hV j hj) h

theorem qlPart {W : World} {ops : Array Oper} {Q : Act → Prop} {rest : List Oper} {o : Oper} {a : Act} (hw : Region.wanted o (yielded ops a.tmps) = true) (x : Operand) (ho : o.op = .load 34 x)
    (g off : Nat) (hx : a.eval x = .pointer (some ⟨g, off, none⟩)) (cs : Array Value) (t : TypeId) (L : List Int) (hL : L.length = 13) (hg : W.heap[g]? = some (.cells cs t (0, 0))) (hc : ∀ j, j < 13 → cs[off + j]? = some (.int .u8 (L.getD j 0)))
    (h : wpQuiet Try.prog ops (fun w' => ∃ u : Later W, w' = u.world) Q rest (a.put o.dst (.agg (hv L)))) : wpQuiet Try.prog ops (fun w' => ∃ u : Later W, w' = u.world) Q (o :: rest) a := by
  refine BigFrame.wpQuiet_want hw fun K hK => ⟨.agg (hv L), fun w hC => ?_, hK _ h⟩
  unfold Oper.quietAt execOp
  simp only [ho, hx, Instr.loadAt, Instr.sureAddr, Sem.run_bind, Sem.run_pure, Result.andThen_ok, load_part w g off cs t (0, 0) L hL (later_block hg w hC) hc]
  exact ⟨rfl, rfl⟩
theorem qlM {W : World} {ops : Array Oper} {Q : Act → Prop} {rest : List Oper} {o : Oper} {a : Act} (hw : Region.wanted o (yielded ops a.tmps) = true) (x : Operand) (ho : o.op = .load 34 x)
    (g : Nat) (hx : a.eval x = .pointer (some ⟨g, 13, none⟩)) (V M : List Int) (hg : W.heap[g]? = some (.cells (cv V M) 36 (0, 0))) (hV : V.length = 13) (hM : M.length = 13)
    (h : wpQuiet Try.prog ops (fun w' => ∃ u : Later W, w' = u.world) Q rest (a.put o.dst (.agg (hv M)))) : wpQuiet Try.prog ops (fun w' => ∃ u : Later W, w' = u.world) Q (o :: rest) a :=
  qlPart hw x ho g 13 hx _ _ M hM hg (fun j hj => cv_mask V M hV hM j hj) h
theorem qlV {W : World} {ops : Array Oper} {Q : Act → Prop} {rest : List Oper} {o : Oper} {a : Act} (hw : Region.wanted o (yielded ops a.tmps) = true) (x : Operand) (ho : o.op = .load 34 x)
    (g : Nat) (hx : a.eval x = .pointer (some ⟨g, 0, none⟩)) (V M : List Int) (hg : W.heap[g]? = some (.cells (cv V M) 36 (0, 0))) (hV : V.length = 13)
    (h : wpQuiet Try.prog ops (fun w' => ∃ u : Later W, w' = u.world) Q rest (a.put o.dst (.agg (hv V)))) : wpQuiet Try.prog ops (fun w' => ∃ u : Later W, w' = u.world) Q (o :: rest) a :=
  qlPart hw x ho g 0 hx _ _ V hV hg (fun j hj => by rw [Nat.zero_add]; exact cv_val V M hV j hj) h

theorem store_part (w : World) (g off : Nat) (cs : Array Value) (t : TypeId) (L : List Int) (hL : L.length = 13) (hg : w.heap[g]? = some (.cells cs t (0, 0))) (hs : off + 13 ≤ cs.size) :
    (storeVar 34 ⟨g, off, none⟩ (.agg (hv L))).run Try.prog w = .ok () (w.setRow g (cs.toList.take off ++ L.map (Value.int .u8) ++ cs.toList.drop (off + 13)).toArray) := by
  have hst := run_storeCells_at Try.prog g off t (L.map (Value.int .u8)) 0 cs w hg (by simp [hL]; omega) (fun v hv => by
    obtain ⟨z, _, rfl⟩ := List.mem_map.1 hv; rfl)
  have hi := info13
  cases hq : Try.prog.info? 34 with
  | none => simp [hq] at hi
  | some i =>
    have hs' : i.size = 13 := by simpa [hq] using hi
    rw [Nat.add_zero, List.length_map, hL] at hst
    simp [storeVar, sizeOf, typeInfo, hq, Value.cells, hs', hv, hL, hst]

theorem wl_storePart {ops : Array Oper} {rest : List Oper} {o : Oper} {a : Act} {w : World} {Q : Exit → Act → World → Prop} (hgd : o.guard = none) (x y : Operand) (ho : o.op = .store 34 x y)
    (g off : Nat) (hx : a.eval x = .pointer (some ⟨g, off, none⟩)) (cs : Array Value) (t : TypeId) (L : List Int) (hy : a.eval y = .agg (hv L)) (hL : L.length = 13) (hg : w.heap[g]? = some (.cells cs t (0, 0))) (hs : off + 13 ≤ cs.size)
    (cs' : Array Value) (hcs' : (cs.toList.take off ++ L.map (Value.int .u8) ++ cs.toList.drop (off + 13)).toArray = cs')
    (h : wpList Try.prog ops Q rest (a.put o.dst undef) (w.setRow g cs')) : wpList Try.prog ops Q (o :: rest) a w :=
  wpList_plain hgd fun _ hK => by
    unfold Oper.wp execOp
    simp only [ho, hx, hy, Instr.storeAt, Instr.sureAddr, Sem.run_bind, Sem.run_pure, Result.andThen_ok, store_part w g off cs t L hL hg hs, hcs']
    exact hK _ _ h
theorem wl_storeM {ops : Array Oper} {rest : List Oper} {o : Oper} {a : Act} {w : World} {Q : Exit → Act → World → Prop} (hgd : o.guard = none) (x y : Operand) (ho : o.op = .store 34 x y)
    (g : Nat) (hx : a.eval x = .pointer (some ⟨g, 13, none⟩)) (V M L : List Int) (hy : a.eval y = .agg (hv L)) (hV : V.length = 13) (hM : M.length = 13) (hL : L.length = 13) (hg : w.heap[g]? = some (.cells (cv V M) 36 (0, 0)))
    (w' : World) (hw' : w.setRow g (cv V L) = w')
    (h : wpList Try.prog ops Q rest (a.put o.dst undef) w') : wpList Try.prog ops Q (o :: rest) a w :=
  wl_storePart hgd x y ho g 13 hx _ _ L hy hL hg (by rw [cv_size V M hV hM]; omega) (cv V L) (by unfold cv hv; simp [hV, hM]) (by rw [hw']; exact h)
theorem wl_storeV {ops : Array Oper} {rest : List Oper} {o : Oper} {a : Act} {w : World} {Q : Exit → Act → World → Prop} (hgd : o.guard = none) (x y : Operand) (ho : o.op = .store 34 x y)
    (g : Nat) (hx : a.eval x = .pointer (some ⟨g, 0, none⟩)) (V M L : List Int) (hy : a.eval y = .agg (hv L)) (hV : V.length = 13) (hM : M.length = 13) (hL : L.length = 13) (hg : w.heap[g]? = some (.cells (cv V M) 36 (0, 0)))
    (w' : World) (hw' : w.setRow g (cv L M) = w')
    (h : wpList Try.prog ops Q rest (a.put o.dst undef) w') : wpList Try.prog ops Q (o :: rest) a w :=
  wl_storePart hgd x y ho g 0 hx _ _ L hy hL hg (by rw [cv_size V M hV hM]; omega) (cv L M) (by unfold cv hv; simp [hV]) (by rw [hw']; exact h)

theorem built_of (L : List Int) : Try.prog.built 36 [(0, .agg (hv L))] = Try.prog.built 36 [(0, .agg (hv L))] := rfl
end Go.Proofs.Ytfbphblodankmaa
