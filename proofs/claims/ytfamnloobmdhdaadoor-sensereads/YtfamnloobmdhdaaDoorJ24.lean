import Derived.Test.YtfamnloobmdhdaaDoorJ23
import Derived.Test.YtfamnloobmdhdaaDoorJ14
namespace Go.Proofs.YtfamnloobmdhdaaDoor
open Go Go.RowKit
set_option maxRecDepth 20000

theorem run_callOp2 {o : Oper} {f : Nat} {x y : Operand} {ts : Array TypeId} (ho : o.op = .call { callee := .value (.func f), args := #[x, y], argTypes := ts }) (hf : ∀ vs W, (callFunc f vs).run Tryd.prog W = .ok (.enter f vs) W) (a : Act) (W : World) (u v : Value) (hx : a.eval x = u) (hy : a.eval y = v) : (execOp a.eval o).run Tryd.prog W = .ok (.enter f #[u, v]) W := by
  unfold execOp
  have hef : a.eval (.func f) = .func (.func f) #[] #[] := rfl
  simp only [ho, resolve, hef, List.map_toArray, List.map_cons, List.map_nil, hx, hy]
  simp [go_sem, hf]
def row7_ops : List Oper := [
      { dst := some 33, op := .fieldAddr 51 (.tmp 3) 3, type := 0, pos := "ref.go:98", after := #[], guard := none },
      { dst := some 34, op := .load 49 (.tmp 33), type := 49, pos := "ref.go:98", after := #[{ on := 0, ground := .data }], guard := none },
      { dst := some 35, op := .move (.tmp 0), type := 86, pos := "ref.go:98", after := #[], guard := none },
      { dst := some 36, op := .fieldAddr 51 (.tmp 3) 3, type := 0, pos := "ref.go:98", after := #[], guard := none },
      { dst := some 37, op := .load 49 (.tmp 36), type := 49, pos := "ref.go:98", after := #[{ on := 3, ground := .data }], guard := none },
      { dst := some 38, op := .call { callee := .value (.func 74), args := #[.tmp 35, .tmp 37], argTypes := #[86, 49] }, type := 54, pos := "ref.go:98", after := #[{ on := 2, ground := .data }, { on := 4, ground := .data }], guard := none },
      { dst := some 39, op := .buildSlice 49 1 #[(0, .tmp 38)], type := 49, pos := "ref.go:98", after := #[{ on := 5, ground := .data }], guard := none },
      { dst := some 40, op := .call { callee := .builtin .append, args := #[.tmp 34, .tmp 39], argTypes := #[49, 49] }, type := 49, pos := "ref.go:98", after := #[{ on := 1, ground := .data }, { on := 6, ground := .data }, { on := 5, ground := .chain }], guard := none },
      { dst := some 41, op := .fieldAddr 51 (.tmp 3) 3, type := 0, pos := "ref.go:98", after := #[{ on := 0, ground := .phase }, { on := 1, ground := .phase }, { on := 2, ground := .phase }, { on := 3, ground := .phase }, { on := 4, ground := .phase }, { on := 5, ground := .phase }, { on := 6, ground := .phase }, { on := 7, ground := .phase }], guard := none },
      { dst := none, op := .store 49 (.tmp 41) (.tmp 40), type := 0, pos := "ref.go:98", after := #[{ on := 8, ground := .data }, { on := 7, ground := .data }, { on := 7, ground := .chain }, { on := 0, ground := .phase }, { on := 1, ground := .phase }, { on := 2, ground := .phase }, { on := 3, ground := .phase }, { on := 4, ground := .phase }, { on := 5, ground := .phase }, { on := 6, ground := .phase }, { on := 7, ground := .phase }], guard := none }]
set_option maxHeartbeats 4000000 in
theorem row7_region {id : Nat} {Q : Exit → Act → World → Prop} {a : Act} {w : World} (hs : 42 ≤ a.tmps.size) (g p : Nat) (h0 : a.eval (.tmp 0) = .pointer (some ⟨g, 0, none⟩)) (hp : a.eval (.tmp 3) = .pointer (some ⟨p, 0, none⟩))
    (cs : Array Value) (hcs : w.heap[p]? = some (.cells cs 51 (0, 0))) (v : Value) (hv : cs[4]? = some v) (hpg : p ≠ g)
    (Pl : List (Cla × Value)) (B : Nat) (hown : w.ownsRow B 54 5 v Pl.length (gcells (fun q : Cla × Value => claV q.1 q.2) Pl)) (hF : Pl.length ≤ 100000) (hB : B ≤ w.heap.size) (hgB : g < B) (c : Cla) (D : World → Value → Prop) (hDs : ∀ w u, D w u → ∃ o n m, u = .slice o n m)
    (hcall : Calls Tryd.prog 74 #[.pointer (some ⟨g, 0, none⟩), v] w.drew fun e w' => ∃ u', e = .returned (.agg (claV c u')) ∧ w.drew.grownBy w' (some g) ∧ D w' u')
    (hK : ∀ a' w', (∃ w1 w3 v' u', (∃ y0 y1 y2 y3 y4 y5 y6 y7 y8, a' = (((((((((a.put (some 33) y0).put (some 34) y1).put (some 35) y2).put (some 36) y3).put (some 37) y4).put (some 38) y5).put (some 39) y6).put (some 40) y7).put (some 41) y8)) ∧ D w1 u' ∧ w.grownBy w1 (some g) ∧ (w1.alloc (.cells (claV c u') 54)).grownBy w3 v.ownBlock ∧ w3.ownsRow B 54 5 v' (Pl ++ [(c, u')]).length (gcells (fun q : Cla × Value => claV q.1 q.2) (Pl ++ [(c, u')])) ∧ w3.heap[p]? = some (.cells cs 51 (0, 0)) ∧ w' = w3.setCell ⟨p, 4, none⟩ v') → Q .normal a' w') : (Code.region id row7_ops.toArray true).wp Tryd.prog Q a w := by
  have hfa : ∀ W, (Instr.fieldAt 51 (.pointer (some ⟨p, 0, none⟩)) 3).run Tryd.prog W = .ok (.pointer (some ⟨p, 4, none⟩)) W := fun W => by simp [go_sem]
  have hcell : ∀ W : World, W.heap[p]? = some (.cells cs 51 (0, 0)) → W.cell? ⟨p, 4, none⟩ = some v := fun W hW => by rw [cell_of_row _ _ _ _ _ _ hW]; exact hv
  have hplt := (Array.getElem?_eq_some_iff.1 hcs).1
  have keep : ∀ w1, w.drew.grownBy w1 (some g) → w1.heap[p]? = some (.cells cs 51 (0, 0)) := fun w1 hg => (hg.block p hplt (by simp; omega)).trans hcs
  have hvp : v.ownBlock ≠ some p := fun hq => by
    obtain ⟨_, ⟨rfl, _⟩ | ⟨g', cap, cur, rfl, _, h2, _⟩⟩ := hown
    · simp [Value.ownBlock] at hq
    · simp only [Value.ownBlock, Option.some.injEq] at hq
      subst hq
      rw [hcs] at h2
      simp at h2
  refine region_cut (fun a a' w' => ∃ w1 w3 v' u', (∃ y0 y1 y2 y3 y4 y5 y6 y7 y8, a' = (((((((((a.put (some 33) y0).put (some 34) y1).put (some 35) y2).put (some 36) y3).put (some 37) y4).put (some 38) y5).put (some 39) y6).put (some 40) y7).put (some 41) y8)) ∧ D w1 u' ∧ w.grownBy w1 (some g) ∧ (w1.alloc (.cells (claV c u') 54)).grownBy w3 v.ownBlock ∧ w3.ownsRow B 54 5 v' (Pl ++ [(c, u')]).length (gcells (fun q : Cla × Value => claV q.1 q.2) (Pl ++ [(c, u')])) ∧ w3.heap[p]? = some (.cells cs 51 (0, 0)) ∧ w' = w3.setCell ⟨p, 4, none⟩ v') ?_ hK
  have tail : ∀ (b : Act) (w1 : World) (u' : Value), (∃ y0 y1 y2 y3 y4 y5 y6, b = (((((((a.put (some 33) y0).put (some 34) y1).put (some 35) y2).put (some 36) y3).put (some 37) y4).put (some 38) y5).put (some 39) y6)) → b.eval (.tmp 34) = v → b.eval (.tmp 39) = .slice (some ⟨w1.heap.size, 0, none⟩) 1 1 → b.eval (.tmp 3) = .pointer (some ⟨p, 0, none⟩) → b.tmps.size = a.tmps.size → w.drew.grownBy w1 (some g) → D w1 u' →
      wpAnyH Tryd.prog .any row7_ops.toArray (fun e a' w' => e = .normal ∧ ∃ w1 w3 v' u', (∃ y0 y1 y2 y3 y4 y5 y6 y7 y8, a' = (((((((((a.put (some 33) y0).put (some 34) y1).put (some 35) y2).put (some 36) y3).put (some 37) y4).put (some 38) y5).put (some 39) y6).put (some 40) y7).put (some 41) y8)) ∧ D w1 u' ∧ w.grownBy w1 (some g) ∧ (w1.alloc (.cells (claV c u') 54)).grownBy w3 v.ownBlock ∧ w3.ownsRow B 54 5 v' (Pl ++ [(c, u')]).length (gcells (fun q : Cla × Value => claV q.1 q.2) (Pl ++ [(c, u')])) ∧ w3.heap[p]? = some (.cells cs 51 (0, 0)) ∧ w' = w3.setCell ⟨p, 4, none⟩ v') (fun _ => True) 3 #[true, true, true, true, true, true, true, false, false, false] b (w1.alloc (.cells (claV c u') 54)) := by
    rintro b w1 u' ⟨y0, y1, y2, y3, y4, y5, y6, hb⟩ e1 e4 e5 hbs hg1 hD
    have hown1 : (w1.alloc (.cells (claV c u') 54)).ownsRow B 54 5 v Pl.length (gcells (fun q : Cla × Value => claV q.1 q.2) Pl) := (own_by (grown_trans (gb_drew w g) hg1) hgB hown).alloc _
    have hz1 := hg1.size
    rw [w_set_heap] at hz1
    refine wpAnyH_all (rs := [7]) (by kernel_rfl) (by decide) ?_
    intro i hi
    obtain rfl := List.mem_singleton.1 hi
    refine wpOp_of_list rfl ?_
    refine wl_appendE (E := ClaE) ClaOk (fun q : Cla × Value => claV q.1 q.2) rfl _ _ rfl B v Pl (c, u') (cla_fits _ _ (hDs _ _ hD)) e1 hown1 w1.heap.size 1 e4 (heap_new _ _ _ rfl) (by omega) (by simp; omega) ?_
    intro v' w3 hown3 hgr3 _
    have hp3 : w3.heap[p]? = some (.cells cs 51 (0, 0)) := (hgr3.block p (by simp; omega) (fun hq => hvp hq.symm)).trans (heap_past _ _ _ _ (keep w1 hg1))
    obtain ⟨o3, cap3, hv3⟩ := gown_slice hown3
    refine ⟨trivial, ?_⟩
    show wpAnyH Tryd.prog .any row7_ops.toArray _ _ 2 _ (b.put (some 40) v') w3
    have s5 : (b.put (some 40) v').eval (.tmp 3) = .pointer (some ⟨p, 0, none⟩) := by rw [eval_put _ _ _ _ (by omega), if_neg (by decide)]; exact e5
    have s6 : (b.put (some 40) v').eval (.tmp 40) = v' := by rw [eval_put _ _ _ _ (by omega), if_pos rfl]
    refine wpAnyH_all (rs := [8]) (by kernel_rfl) (by decide) ?_
    intro i hi
    obtain rfl := List.mem_singleton.1 hi
    refine wpOp_val rfl rfl (.pointer (some ⟨p, 4, none⟩)) (run_fieldOp rfl _ _ _ ((congrArg (fun y => (Instr.fieldAt 51 y 3).run Tryd.prog w3) s5).trans (hfa w3))) (some 41) rfl ?_
    refine ⟨trivial, ?_⟩
    refine wpAnyH_all (rs := [9]) (by kernel_rfl) (by decide) ?_
    intro i hi
    obtain rfl := List.mem_singleton.1 hi
    refine wpOp_skip0 (w' := w3.setCell ⟨p, 4, none⟩ v') rfl rfl ?_ rfl ?_
    · have s7 : ((b.put (some 40) v').put (some 41) (.pointer (some ⟨p, 4, none⟩))).eval (.tmp 41) = .pointer (some ⟨p, 4, none⟩) := by rw [eval_put _ _ _ _ (by rw [size_put]; omega), if_pos rfl]
      have s8 : ((b.put (some 40) v').put (some 41) (.pointer (some ⟨p, 4, none⟩))).eval (.tmp 40) = v' := by rw [eval_put _ _ _ _ (by rw [size_put]; omega), if_neg (by decide)]; exact s6
      have hst := store_cell (ty := 49) (fun W => Tryd.sizeOf49 W) w3 ⟨p, 4, none⟩ v' v ⟨o3, _, cap3, hv3⟩ (hcell w3 hp3) (tc_frozen hp3 rfl)
      exact run_storeOp rfl _ _ _ _ _ s7 s8 hst
    · refine ⟨trivial, wpAnyH_done (by kernel_rfl) ?_ _⟩
      refine ⟨rfl, w1, w3, v', u', ⟨y0, y1, y2, y3, y4, y5, y6, v', .pointer (some ⟨p, 4, none⟩), ?_⟩, hD, grown_trans (gb_drew w g) hg1, hgr3, hown3, hp3, rfl⟩
      rw [hb]
  refine region_beginS (fun _ => True) 10 rfl (by kernel_rfl) ?_
  refine wpAnyH_take (i := 0) (v := .pointer (some ⟨p, 4, none⟩)) rfl (by kernel_rfl) (by kernel_rfl) (by kernel_rfl) (fun _ _ _ h => absurd h.1 (by simp)) (.inl ⟨rfl, fun W _ => run_fieldOp rfl _ _ _ ((congrArg (fun y => (Instr.fieldAt 51 y 3).run Tryd.prog W) hp).trans (hfa W))⟩) trivial ?_
  have a1 : (a.put (some 33) (.pointer (some ⟨p, 4, none⟩))).eval (.tmp 0) = .pointer (some ⟨g, 0, none⟩) := by rw [eval_put _ _ _ _ (by omega), if_neg (by decide)]; exact h0
  refine wpAnyH_take (i := 2) (v := .pointer (some ⟨g, 0, none⟩)) rfl (by kernel_rfl) (by kernel_rfl) (by kernel_rfl) (fun _ _ _ h => absurd h.1 (by simp)) (.inl ⟨rfl, fun W _ => run_moveOp rfl _ _ _ a1⟩) trivial ?_
  have a3 : ((a.put (some 33) (.pointer (some ⟨p, 4, none⟩))).put (some 35) (.pointer (some ⟨g, 0, none⟩))).eval (.tmp 3) = .pointer (some ⟨p, 0, none⟩) := by rw [eval_put _ _ _ _ (by rw [size_put]; omega), if_neg (by decide), eval_put _ _ _ _ (by omega), if_neg (by decide)]; exact hp
  refine wpAnyH_take (i := 3) (v := .pointer (some ⟨p, 4, none⟩)) rfl (by kernel_rfl) (by kernel_rfl) (by kernel_rfl) (fun _ _ _ h => absurd h.1 (by simp)) (.inl ⟨rfl, fun W _ => run_fieldOp rfl _ _ _ ((congrArg (fun y => (Instr.fieldAt 51 y 3).run Tryd.prog W) a3).trans (hfa W))⟩) trivial ?_
  have hcF : ∀ vs W, (callFunc 74 vs).run Tryd.prog W = .ok (.enter 74 vs) W := fun vs W => by have hf := Tryd.func74; simp [go_sem]
  obtain ⟨a2, ha2⟩ : ∃ a2, a2 = (((a.put (some 33) (.pointer (some ⟨p, 4, none⟩))).put (some 35) (.pointer (some ⟨g, 0, none⟩))).put (some 36) (.pointer (some ⟨p, 4, none⟩))) := ⟨_, rfl⟩
  have x0 : a2.eval (.tmp 33) = .pointer (some ⟨p, 4, none⟩) := by rw [ha2, eval_put _ _ _ _ (by rw [size_put, size_put]; omega), if_neg (by decide), eval_put _ _ _ _ (by rw [size_put]; omega), if_neg (by decide), eval_put _ _ _ _ (by omega), if_pos rfl]
  have x2 : a2.eval (.tmp 35) = .pointer (some ⟨g, 0, none⟩) := by rw [ha2, eval_put _ _ _ _ (by rw [size_put, size_put]; omega), if_neg (by decide), eval_put _ _ _ _ (by rw [size_put]; omega), if_pos rfl]
  have x3 : a2.eval (.tmp 36) = .pointer (some ⟨p, 4, none⟩) := by rw [ha2, eval_put _ _ _ _ (by rw [size_put, size_put]; omega), if_pos rfl]
  have xb : a2.eval (.tmp 3) = .pointer (some ⟨p, 0, none⟩) := by rw [ha2, eval_put _ _ _ _ (by rw [size_put, size_put]; omega), if_neg (by decide)]; exact a3
  have xs : a2.tmps.size = a.tmps.size := by rw [ha2, size_put, size_put, size_put]
  have comm : ∀ (k j : Nat) (b : Act) (y z : Value), k ≠ j → (b.put (some k) y).put (some j) z = (b.put (some j) z).put (some k) y := fun k j b y z hkj => by
    simp only [Act.put]
    congr 1
    exact Array.setIfInBounds_comm _ _ hkj
  show wpAnyH Tryd.prog .any row7_ops.toArray _ _ 7 _ (((a.put (some 33) (.pointer (some ⟨p, 4, none⟩))).put (some 35) (.pointer (some ⟨g, 0, none⟩))).put (some 36) (.pointer (some ⟨p, 4, none⟩))) w.drew
  rw [← ha2]
  have hg0 : w.drew.grownBy w.drew (some g) := gb_refl _ _
  refine wpAnyH_all (rs := [1, 4]) (by kernel_rfl) (by decide) ?_
  intro i hi
  rcases List.mem_cons.1 hi with rfl | hi
  · refine wpOp_val rfl rfl v (run_loadOp rfl _ _ (.pointer (some ⟨p, 4, none⟩)) v (by exact x0) (load_cell (e := 54) Tryd.underlying49 _ _ _ (hcell _ (keep _ hg0)))) (some 34) rfl ⟨trivial, ?_⟩
    refine wpAnyH_all (rs := [4]) (by kernel_rfl) (by decide) ?_
    intro i hi
    obtain rfl := List.mem_singleton.1 hi
    refine wpOp_val rfl rfl v (run_loadOp rfl _ _ (.pointer (some ⟨p, 4, none⟩)) v (by rw [eval_put _ _ _ _ (by omega), if_neg (by decide)]; exact x3) (load_cell (e := 54) Tryd.underlying49 _ _ _ (hcell _ (keep _ hg0)))) (some 37) rfl ⟨trivial, ?_⟩
    refine wpAnyH_all (rs := [5]) (by kernel_rfl) (by decide) ?_
    intro i hi
    obtain rfl := List.mem_singleton.1 hi
    refine wpOp_callQ rfl rfl 74 #[.pointer (some ⟨g, 0, none⟩), v] (run_callOp2 rfl hcF _ _ _ _ (by rw [eval_put _ _ _ _ (by rw [size_put]; omega), if_neg (by decide), eval_put _ _ _ _ (by omega), if_neg (by decide)]; exact x2) (by rw [eval_put _ _ _ _ (by rw [size_put]; omega), if_pos rfl])) _ hcall (some 38) rfl ?_ (fun ch w' h => by obtain ⟨_, h1, _⟩ := h; simp at h1) (fun w' h => by obtain ⟨_, h1, _⟩ := h; simp at h1)
    rintro x w1 ⟨u', hu, hg1, hD⟩
    obtain rfl : x = .agg (claV c u') := by simpa using hu
    refine ⟨trivial, ?_⟩
    refine wpAnyH_all (rs := [6]) (by kernel_rfl) (by decide) ?_
    intro i hi
    obtain rfl := List.mem_singleton.1 hi
    refine wpOp_of_list rfl ?_
    refine wl_buildE (E := ClaE) ClaOk rfl _ rfl (claV c u') rfl (by rw [eval_put _ _ _ _ (by rw [size_put, size_put]; omega), if_pos rfl]) ?_
    refine ⟨trivial, ?_⟩
    show wpAnyH Tryd.prog .any row7_ops.toArray _ _ 3 _ ((((a2.put (some 34) v).put (some 37) v).put (some 38) (.agg (claV c u'))).put (some 39) (.slice (some ⟨w1.heap.size, 0, none⟩) 1 1)) _
    refine (show wpAnyH Tryd.prog .any row7_ops.toArray _ _ 3 _ ((((a2.put (some 34) v).put (some 37) v).put (some 38) (.agg (claV c u'))).put (some 39) (.slice (some ⟨w1.heap.size, 0, none⟩) 1 1)) _ from tail ((((a2.put (some 34) v).put (some 37) v).put (some 38) (.agg (claV c u'))).put (some 39) (.slice (some ⟨w1.heap.size, 0, none⟩) 1 1)) w1 u' ⟨.pointer (some ⟨p, 4, none⟩), v, .pointer (some ⟨g, 0, none⟩), .pointer (some ⟨p, 4, none⟩), v, .agg (claV c u'), .slice (some ⟨w1.heap.size, 0, none⟩) 1 1, ?_⟩ ?_ ?_ ?_ ?_ hg1 hD)
    · rw [ha2, comm 36 34 _ _ _ (by decide), comm 35 34 _ _ _ (by decide)]
    · rw [eval_put _ _ _ _ (by rw [size_put, size_put, size_put]; omega), if_neg (by decide), eval_put _ _ _ _ (by rw [size_put, size_put]; omega), if_neg (by decide), eval_put _ _ _ _ (by rw [size_put]; omega), if_neg (by decide), eval_put _ _ _ _ (by omega), if_pos rfl]
    · rw [eval_put _ _ _ _ (by rw [size_put, size_put, size_put]; omega), if_pos rfl]
    · rw [eval_put _ _ _ _ (by rw [size_put, size_put, size_put]; omega), if_neg (by decide), eval_put _ _ _ _ (by rw [size_put, size_put]; omega), if_neg (by decide), eval_put _ _ _ _ (by rw [size_put]; omega), if_neg (by decide), eval_put _ _ _ _ (by omega), if_neg (by decide)]; exact xb
    · rw [size_put, size_put, size_put, size_put]; exact xs
  · obtain rfl := List.mem_singleton.1 hi
    refine wpOp_val rfl rfl v (run_loadOp rfl _ _ (.pointer (some ⟨p, 4, none⟩)) v (by exact x3) (load_cell (e := 54) Tryd.underlying49 _ _ _ (hcell _ (keep _ hg0)))) (some 37) rfl ⟨trivial, ?_⟩
    refine wpAnyH_all (rs := [1, 5]) (by kernel_rfl) (by decide) ?_
    intro i hi
    rcases List.mem_cons.1 hi with rfl | hi
    · refine wpOp_val rfl rfl v (run_loadOp rfl _ _ (.pointer (some ⟨p, 4, none⟩)) v (by rw [eval_put _ _ _ _ (by omega), if_neg (by decide)]; exact x0) (load_cell (e := 54) Tryd.underlying49 _ _ _ (hcell _ (keep _ hg0)))) (some 34) rfl ⟨trivial, ?_⟩
      refine wpAnyH_all (rs := [5]) (by kernel_rfl) (by decide) ?_
      intro i hi
      obtain rfl := List.mem_singleton.1 hi
      refine wpOp_callQ rfl rfl 74 #[.pointer (some ⟨g, 0, none⟩), v] (run_callOp2 rfl hcF _ _ _ _ (by rw [eval_put _ _ _ _ (by rw [size_put]; omega), if_neg (by decide), eval_put _ _ _ _ (by omega), if_neg (by decide)]; exact x2) (by rw [eval_put _ _ _ _ (by rw [size_put]; omega), if_neg (by decide), eval_put _ _ _ _ (by omega), if_pos rfl])) _ hcall (some 38) rfl ?_ (fun ch w' h => by obtain ⟨_, h1, _⟩ := h; simp at h1) (fun w' h => by obtain ⟨_, h1, _⟩ := h; simp at h1)
      rintro x w1 ⟨u', hu, hg1, hD⟩
      obtain rfl : x = .agg (claV c u') := by simpa using hu
      refine ⟨trivial, ?_⟩
      refine wpAnyH_all (rs := [6]) (by kernel_rfl) (by decide) ?_
      intro i hi
      obtain rfl := List.mem_singleton.1 hi
      refine wpOp_of_list rfl ?_
      refine wl_buildE (E := ClaE) ClaOk rfl _ rfl (claV c u') rfl (by rw [eval_put _ _ _ _ (by rw [size_put, size_put]; omega), if_pos rfl]) ?_
      refine ⟨trivial, ?_⟩
      show wpAnyH Tryd.prog .any row7_ops.toArray _ _ 3 _ ((((a2.put (some 37) v).put (some 34) v).put (some 38) (.agg (claV c u'))).put (some 39) (.slice (some ⟨w1.heap.size, 0, none⟩) 1 1)) _
      refine (show wpAnyH Tryd.prog .any row7_ops.toArray _ _ 3 _ ((((a2.put (some 37) v).put (some 34) v).put (some 38) (.agg (claV c u'))).put (some 39) (.slice (some ⟨w1.heap.size, 0, none⟩) 1 1)) _ from tail ((((a2.put (some 37) v).put (some 34) v).put (some 38) (.agg (claV c u'))).put (some 39) (.slice (some ⟨w1.heap.size, 0, none⟩) 1 1)) w1 u' ⟨.pointer (some ⟨p, 4, none⟩), v, .pointer (some ⟨g, 0, none⟩), .pointer (some ⟨p, 4, none⟩), v, .agg (claV c u'), .slice (some ⟨w1.heap.size, 0, none⟩) 1 1, ?_⟩ ?_ ?_ ?_ ?_ hg1 hD)
      · rw [ha2, comm 37 34 _ _ _ (by decide), comm 36 34 _ _ _ (by decide), comm 35 34 _ _ _ (by decide)]
      · rw [eval_put _ _ _ _ (by rw [size_put, size_put, size_put]; omega), if_neg (by decide), eval_put _ _ _ _ (by rw [size_put, size_put]; omega), if_neg (by decide), eval_put _ _ _ _ (by rw [size_put]; omega), if_pos rfl]
      · rw [eval_put _ _ _ _ (by rw [size_put, size_put, size_put]; omega), if_pos rfl]
      · rw [eval_put _ _ _ _ (by rw [size_put, size_put, size_put]; omega), if_neg (by decide), eval_put _ _ _ _ (by rw [size_put, size_put]; omega), if_neg (by decide), eval_put _ _ _ _ (by rw [size_put]; omega), if_neg (by decide), eval_put _ _ _ _ (by omega), if_neg (by decide)]; exact xb
      · rw [size_put, size_put, size_put, size_put]; exact xs
    · obtain rfl := List.mem_singleton.1 hi
      refine wpOp_callQ rfl rfl 74 #[.pointer (some ⟨g, 0, none⟩), v] (run_callOp2 rfl hcF _ _ _ _ (by rw [eval_put _ _ _ _ (by omega), if_neg (by decide)]; exact x2) (by rw [eval_put _ _ _ _ (by omega), if_pos rfl])) _ hcall (some 38) rfl ?_ (fun ch w' h => by obtain ⟨_, h1, _⟩ := h; simp at h1) (fun w' h => by obtain ⟨_, h1, _⟩ := h; simp at h1)
      rintro x w1 ⟨u', hu, hg1, hD⟩
      obtain rfl : x = .agg (claV c u') := by simpa using hu
      refine ⟨trivial, ?_⟩
      refine wpAnyH_all (rs := [1, 6]) (by kernel_rfl) (by decide) ?_
      intro i hi
      rcases List.mem_cons.1 hi with rfl | hi
      · refine wpOp_val rfl rfl v (run_loadOp rfl _ _ (.pointer (some ⟨p, 4, none⟩)) v (by rw [eval_put _ _ _ _ (by rw [size_put]; omega), if_neg (by decide), eval_put _ _ _ _ (by omega), if_neg (by decide)]; exact x0) (load_cell (e := 54) Tryd.underlying49 _ _ _ (hcell _ (keep _ hg1)))) (some 34) rfl ⟨trivial, ?_⟩
        refine wpAnyH_all (rs := [6]) (by kernel_rfl) (by decide) ?_
        intro i hi
        obtain rfl := List.mem_singleton.1 hi
        refine wpOp_of_list rfl ?_
        refine wl_buildE (E := ClaE) ClaOk rfl _ rfl (claV c u') rfl (by rw [eval_put _ _ _ _ (by rw [size_put, size_put]; omega), if_neg (by decide), eval_put _ _ _ _ (by rw [size_put]; omega), if_pos rfl]) ?_
        refine ⟨trivial, ?_⟩
        show wpAnyH Tryd.prog .any row7_ops.toArray _ _ 3 _ ((((a2.put (some 37) v).put (some 38) (.agg (claV c u'))).put (some 34) v).put (some 39) (.slice (some ⟨w1.heap.size, 0, none⟩) 1 1)) _
        refine (show wpAnyH Tryd.prog .any row7_ops.toArray _ _ 3 _ ((((a2.put (some 37) v).put (some 38) (.agg (claV c u'))).put (some 34) v).put (some 39) (.slice (some ⟨w1.heap.size, 0, none⟩) 1 1)) _ from tail ((((a2.put (some 37) v).put (some 38) (.agg (claV c u'))).put (some 34) v).put (some 39) (.slice (some ⟨w1.heap.size, 0, none⟩) 1 1)) w1 u' ⟨.pointer (some ⟨p, 4, none⟩), v, .pointer (some ⟨g, 0, none⟩), .pointer (some ⟨p, 4, none⟩), v, .agg (claV c u'), .slice (some ⟨w1.heap.size, 0, none⟩) 1 1, ?_⟩ ?_ ?_ ?_ ?_ hg1 hD)
        · rw [ha2, comm 38 34 _ _ _ (by decide), comm 37 34 _ _ _ (by decide), comm 36 34 _ _ _ (by decide), comm 35 34 _ _ _ (by decide)]
        · rw [eval_put _ _ _ _ (by rw [size_put, size_put, size_put]; omega), if_neg (by decide), eval_put _ _ _ _ (by rw [size_put, size_put]; omega), if_pos rfl]
        · rw [eval_put _ _ _ _ (by rw [size_put, size_put, size_put]; omega), if_pos rfl]
        · rw [eval_put _ _ _ _ (by rw [size_put, size_put, size_put]; omega), if_neg (by decide), eval_put _ _ _ _ (by rw [size_put, size_put]; omega), if_neg (by decide), eval_put _ _ _ _ (by rw [size_put]; omega), if_neg (by decide), eval_put _ _ _ _ (by omega), if_neg (by decide)]; exact xb
        · rw [size_put, size_put, size_put, size_put]; exact xs
      · obtain rfl := List.mem_singleton.1 hi
        refine wpOp_of_list rfl ?_
        refine wl_buildE (E := ClaE) ClaOk rfl _ rfl (claV c u') rfl (by rw [eval_put _ _ _ _ (by rw [size_put]; omega), if_pos rfl]) ?_
        refine ⟨trivial, ?_⟩
        show wpAnyH Tryd.prog .any row7_ops.toArray _ _ 4 _ (((a2.put (some 37) v).put (some 38) (.agg (claV c u'))).put (some 39) (.slice (some ⟨w1.heap.size, 0, none⟩) 1 1)) _
        refine wpAnyH_all (rs := [1]) (by kernel_rfl) (by decide) ?_
        intro i hi
        obtain rfl := List.mem_singleton.1 hi
        refine wpOp_val rfl rfl v (run_loadOp rfl _ _ (.pointer (some ⟨p, 4, none⟩)) v (by rw [eval_put _ _ _ _ (by rw [size_put, size_put]; omega), if_neg (by decide), eval_put _ _ _ _ (by rw [size_put]; omega), if_neg (by decide), eval_put _ _ _ _ (by omega), if_neg (by decide)]; exact x0) (load_cell (e := 54) Tryd.underlying49 _ _ _ (hcell _ (heap_past _ _ _ _ (keep _ hg1))))) (some 34) rfl ⟨trivial, ?_⟩
        refine (show wpAnyH Tryd.prog .any row7_ops.toArray _ _ 3 _ ((((a2.put (some 37) v).put (some 38) (.agg (claV c u'))).put (some 39) (.slice (some ⟨w1.heap.size, 0, none⟩) 1 1)).put (some 34) v) _ from tail ((((a2.put (some 37) v).put (some 38) (.agg (claV c u'))).put (some 39) (.slice (some ⟨w1.heap.size, 0, none⟩) 1 1)).put (some 34) v) w1 u' ⟨.pointer (some ⟨p, 4, none⟩), v, .pointer (some ⟨g, 0, none⟩), .pointer (some ⟨p, 4, none⟩), v, .agg (claV c u'), .slice (some ⟨w1.heap.size, 0, none⟩) 1 1, ?_⟩ ?_ ?_ ?_ ?_ hg1 hD)
        · rw [ha2, comm 39 34 _ _ _ (by decide), comm 38 34 _ _ _ (by decide), comm 37 34 _ _ _ (by decide), comm 36 34 _ _ _ (by decide), comm 35 34 _ _ _ (by decide)]
        · rw [eval_put _ _ _ _ (by rw [size_put, size_put, size_put]; omega), if_pos rfl]
        · rw [eval_put _ _ _ _ (by rw [size_put, size_put, size_put]; omega), if_neg (by decide), eval_put _ _ _ _ (by rw [size_put, size_put]; omega), if_pos rfl]
        · rw [eval_put _ _ _ _ (by rw [size_put, size_put, size_put]; omega), if_neg (by decide), eval_put _ _ _ _ (by rw [size_put, size_put]; omega), if_neg (by decide), eval_put _ _ _ _ (by rw [size_put]; omega), if_neg (by decide), eval_put _ _ _ _ (by omega), if_neg (by decide)]; exact xb
        · rw [size_put, size_put, size_put, size_put]; exact xs
end Go.Proofs.YtfamnloobmdhdaaDoor
