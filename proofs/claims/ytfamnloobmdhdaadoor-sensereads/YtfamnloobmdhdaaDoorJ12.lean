import Derived.Test.YtfamnloobmdhdaaDoorJ8
namespace Go.Proofs.YtfamnloobmdhdaaDoor
open Go Go.RowKit
set_option maxRecDepth 20000

def own15_ops : List Oper := [
      { dst := some 48, op := .fieldAddr 54 (.tmp 5) 2, type := 0, pos := "reader.go:110", after := #[], guard := none },
      { dst := some 49, op := .load 52 (.tmp 48), type := 52, pos := "reader.go:110", after := #[{ on := 0, ground := .data }], guard := none },
      { dst := some 50, op := .move (.tmp 0), type := 117, pos := "reader.go:110", after := #[], guard := none },
      { dst := some 51, op := .call { callee := .value (.func 93), args := #[.tmp 50], argTypes := #[117] }, type := 48, pos := "reader.go:110", after := #[{ on := 2, ground := .data }], guard := none },
      { dst := some 52, op := .buildSlice 52 1 #[(0, .tmp 51)], type := 52, pos := "reader.go:110", after := #[{ on := 3, ground := .data }], guard := none },
      { dst := some 53, op := .call { callee := .builtin .append, args := #[.tmp 49, .tmp 52], argTypes := #[52, 52] }, type := 52, pos := "reader.go:110", after := #[{ on := 1, ground := .data }, { on := 4, ground := .data }, { on := 3, ground := .chain }], guard := none },
      { dst := some 54, op := .fieldAddr 54 (.tmp 5) 2, type := 0, pos := "reader.go:110", after := #[{ on := 0, ground := .phase }, { on := 1, ground := .phase }, { on := 2, ground := .phase }, { on := 3, ground := .phase }, { on := 4, ground := .phase }, { on := 5, ground := .phase }], guard := none },
      { dst := none, op := .store 52 (.tmp 54) (.tmp 53), type := 0, pos := "reader.go:110", after := #[{ on := 6, ground := .data }, { on := 5, ground := .data }, { on := 5, ground := .chain }, { on := 0, ground := .phase }, { on := 1, ground := .phase }, { on := 2, ground := .phase }, { on := 3, ground := .phase }, { on := 4, ground := .phase }, { on := 5, ground := .phase }], guard := none }]
set_option maxHeartbeats 2000000 in
theorem own15_region {id : Nat} {Q : Exit → Act → World → Prop} {a : Act} {w : World} (hs : 55 ≤ a.tmps.size) (g p : Nat) (h0 : a.eval (.tmp 0) = .pointer (some ⟨g, 0, none⟩)) (hp : a.eval (.tmp 5) = .pointer (some ⟨p, 0, none⟩))
    (cs : Array Value) (hcs : w.heap[p]? = some (.cells cs 54 (0, 0))) (v : Value) (hv : cs[2]? = some v) (hpg : p ≠ g)
    (F : List Fig) (B : Nat) (hown : w.ownsRow B 48 2 v F.length (gcells figV F)) (hF : F.length ≤ 1000) (hB : B ≤ w.heap.size) (hgB : g < B) (c : Fig) (D : World → Prop)
    (hcall : Calls Tryd.prog 93 #[.pointer (some ⟨g, 0, none⟩)] w.drew fun e w' => e = .returned (.agg (figV c)) ∧ w.drew.grownBy w' (some g) ∧ D w')
    (hK : ∀ a' w1 w3 v', (∃ y0 y1 y2 y3 y4 y5 y6, a' = (((((((a.put (some 48) y0).put (some 49) y1).put (some 50) y2).put (some 51) y3).put (some 52) y4).put (some 53) y5).put (some 54) y6)) → D w1 → w.grownBy w1 (some g) → (w1.alloc (.cells (figV c) 48)).grownBy w3 v.ownBlock → w3.ownsRow B 48 2 v' (F ++ [c]).length (gcells figV (F ++ [c])) → w3.heap[p]? = some (.cells cs 54 (0, 0)) →
      Q .normal a' (w3.setCell ⟨p, 2, none⟩ v')) : (Code.region id own15_ops.toArray true).wp Tryd.prog Q a w := by
  have hfa : ∀ W, (Instr.fieldAt 54 (.pointer (some ⟨p, 0, none⟩)) 2).run Tryd.prog W = .ok (.pointer (some ⟨p, 2, none⟩)) W := fun W => by simp [go_sem]
  have hcell : ∀ W : World, W.heap[p]? = some (.cells cs 54 (0, 0)) → W.cell? ⟨p, 2, none⟩ = some v := fun W hW => by rw [cell_of_row _ _ _ _ _ _ hW]; exact hv
  have hplt := (Array.getElem?_eq_some_iff.1 hcs).1
  have keep : ∀ w1, w.drew.grownBy w1 (some g) → w1.heap[p]? = some (.cells cs 54 (0, 0)) := fun w1 hg => (hg.block p hplt (by simp; omega)).trans hcs
  have hvp : v.ownBlock ≠ some p := fun hq => by
    obtain ⟨_, ⟨rfl, _⟩ | ⟨g', cap, cur, rfl, _, h2, _⟩⟩ := hown
    · simp [Value.ownBlock] at hq
    · simp only [Value.ownBlock, Option.some.injEq] at hq
      subst hq
      rw [hcs] at h2
      simp at h2
  refine region_cut (fun a a' w' => ∃ w1 w3 v', (∃ y0 y1 y2 y3 y4 y5 y6, a' = (((((((a.put (some 48) y0).put (some 49) y1).put (some 50) y2).put (some 51) y3).put (some 52) y4).put (some 53) y5).put (some 54) y6)) ∧ D w1 ∧ w.grownBy w1 (some g) ∧ (w1.alloc (.cells (figV c) 48)).grownBy w3 v.ownBlock ∧ w3.ownsRow B 48 2 v' (F ++ [c]).length (gcells figV (F ++ [c])) ∧ w3.heap[p]? = some (.cells cs 54 (0, 0)) ∧ w' = w3.setCell ⟨p, 2, none⟩ v') ?_ ?_
  case refine_2 =>
    rintro a' w' ⟨w1, w3, v', ha, h1, h2, h3, h4, h5, rfl⟩
    exact hK a' w1 w3 v' ha h1 h2 h3 h4 h5
  -- what is left behind the first five operations
  have tail : ∀ (b : Act) (w1 : World), (∃ y0 y1 y2 y3 y4, b = (((((a.put (some 48) y0).put (some 49) y1).put (some 50) y2).put (some 51) y3).put (some 52) y4)) → b.eval (.tmp 49) = v → b.eval (.tmp 52) = .slice (some ⟨w1.heap.size, 0, none⟩) 1 1 → b.eval (.tmp 5) = .pointer (some ⟨p, 0, none⟩) → b.tmps.size = a.tmps.size → w.drew.grownBy w1 (some g) → D w1 →
      wpAnyH Tryd.prog .any own15_ops.toArray (fun e a' w' => e = .normal ∧ ∃ w1 w3 v', (∃ y0 y1 y2 y3 y4 y5 y6, a' = (((((((a.put (some 48) y0).put (some 49) y1).put (some 50) y2).put (some 51) y3).put (some 52) y4).put (some 53) y5).put (some 54) y6)) ∧ D w1 ∧ w.grownBy w1 (some g) ∧ (w1.alloc (.cells (figV c) 48)).grownBy w3 v.ownBlock ∧ w3.ownsRow B 48 2 v' (F ++ [c]).length (gcells figV (F ++ [c])) ∧ w3.heap[p]? = some (.cells cs 54 (0, 0)) ∧ w' = w3.setCell ⟨p, 2, none⟩ v') (fun _ => True) 3 #[true, true, true, true, true, false, false, false] b (w1.alloc (.cells (figV c) 48)) := by
    rintro b w1 ⟨y0, y1, y2, y3, y4, hb⟩ e1 e4 e5 hbs hg1 hD
    have hown1 : (w1.alloc (.cells (figV c) 48)).ownsRow B 48 2 v F.length (gcells figV F) := (own_by (grown_trans (gb_drew w g) hg1) hgB hown).alloc _
    have hz1 := hg1.size
    rw [w_set_heap] at hz1
    refine wpAnyH_all (rs := [5]) (by kernel_rfl) (by decide) ?_
    intro i hi
    obtain rfl := List.mem_singleton.1 hi
    refine wpOp_of_list rfl ?_
    refine wl_appendE (E := FigE) FigOk figV rfl _ _ rfl B v F c (fig_fits _) e1 hown1 w1.heap.size 1 e4 (heap_new _ _ _ rfl) (by omega) (by simp; omega) ?_
    intro v' w3 hown3 hgr3 _
    have hp3 : w3.heap[p]? = some (.cells cs 54 (0, 0)) := (hgr3.block p (by simp; omega) (fun hq => hvp hq.symm)).trans (heap_past _ _ _ _ (keep w1 hg1))
    obtain ⟨o3, cap3, hv3⟩ := gown_slice hown3
    refine ⟨trivial, ?_⟩
    show wpAnyH Tryd.prog .any own15_ops.toArray _ _ 2 _ (b.put (some 53) v') w3
    have s5 : (b.put (some 53) v').eval (.tmp 5) = .pointer (some ⟨p, 0, none⟩) := by rw [eval_put _ _ _ _ (by omega), if_neg (by decide)]; exact e5
    have s6 : (b.put (some 53) v').eval (.tmp 53) = v' := by rw [eval_put _ _ _ _ (by omega), if_pos rfl]
    refine wpAnyH_all (rs := [6]) (by kernel_rfl) (by decide) ?_
    intro i hi
    obtain rfl := List.mem_singleton.1 hi
    refine wpOp_val rfl rfl (.pointer (some ⟨p, 2, none⟩)) (run_fieldOp rfl _ _ _ ((congrArg (fun y => (Instr.fieldAt 54 y 2).run Tryd.prog w3) s5).trans (hfa w3))) (some 54) rfl ?_
    refine ⟨trivial, ?_⟩
    refine wpAnyH_all (rs := [7]) (by kernel_rfl) (by decide) ?_
    intro i hi
    obtain rfl := List.mem_singleton.1 hi
    refine wpOp_skip0 (w' := w3.setCell ⟨p, 2, none⟩ v') rfl rfl ?_ rfl ?_
    · have s7 : ((b.put (some 53) v').put (some 54) (.pointer (some ⟨p, 2, none⟩))).eval (.tmp 54) = .pointer (some ⟨p, 2, none⟩) := by rw [eval_put _ _ _ _ (by rw [size_put]; omega), if_pos rfl]
      have s8 : ((b.put (some 53) v').put (some 54) (.pointer (some ⟨p, 2, none⟩))).eval (.tmp 53) = v' := by rw [eval_put _ _ _ _ (by rw [size_put]; omega), if_neg (by decide)]; exact s6
      have hst := store_cell (ty := 52) (fun W => Tryd.sizeOf52 W) w3 ⟨p, 2, none⟩ v' v ⟨o3, _, cap3, hv3⟩ (hcell w3 hp3) (tc_frozen hp3 rfl)
      exact run_storeOp rfl _ _ _ _ _ s7 s8 hst
    · refine ⟨trivial, wpAnyH_done (by kernel_rfl) ?_ _⟩
      refine ⟨rfl, w1, w3, v', ⟨y0, y1, y2, y3, y4, v', .pointer (some ⟨p, 2, none⟩), ?_⟩, hD, grown_trans (gb_drew w g) hg1, hgr3, hown3, hp3, rfl⟩
      rw [hb]
  have hQ : ∀ (d : Option Tmp) (x : Value) ch (b : Act) (W : World), (fun (e : Exit) (a' : Act) (w' : World) => e = .normal ∧ ∃ w1 w3 v', (∃ y0 y1 y2 y3 y4 y5 y6, a' = (((((((a.put (some 48) y0).put (some 49) y1).put (some 50) y2).put (some 51) y3).put (some 52) y4).put (some 53) y5).put (some 54) y6)) ∧ D w1 ∧ w.grownBy w1 (some g) ∧ (w1.alloc (.cells (figV c) 48)).grownBy w3 v.ownBlock ∧ w3.ownsRow B 48 2 v' (F ++ [c]).length (gcells figV (F ++ [c])) ∧ w3.heap[p]? = some (.cells cs 54 (0, 0)) ∧ w' = w3.setCell ⟨p, 2, none⟩ v') (.panic ch) (Act.put b d x) W → (fun (e : Exit) (a' : Act) (w' : World) => e = .normal ∧ ∃ w1 w3 v', (∃ y0 y1 y2 y3 y4 y5 y6, a' = (((((((a.put (some 48) y0).put (some 49) y1).put (some 50) y2).put (some 51) y3).put (some 52) y4).put (some 53) y5).put (some 54) y6)) ∧ D w1 ∧ w.grownBy w1 (some g) ∧ (w1.alloc (.cells (figV c) 48)).grownBy w3 v.ownBlock ∧ w3.ownsRow B 48 2 v' (F ++ [c]).length (gcells figV (F ++ [c])) ∧ w3.heap[p]? = some (.cells cs 54 (0, 0)) ∧ w' = w3.setCell ⟨p, 2, none⟩ v') (.panic ch) b W := fun _ _ _ _ _ h => absurd h.1 (by simp)
  refine region_beginS (fun _ => True) 8 rfl (by kernel_rfl) ?_
  refine wpAnyH_take (i := 0) (v := .pointer (some ⟨p, 2, none⟩)) rfl (by kernel_rfl) (by kernel_rfl) (by kernel_rfl) (fun c b W => hQ _ _ c b W) (.inl ⟨rfl, fun W _ => run_fieldOp rfl _ _ _ ((congrArg (fun y => (Instr.fieldAt 54 y 2).run Tryd.prog W) hp).trans (hfa W))⟩) trivial ?_
  have a1 : (a.put (some 48) (.pointer (some ⟨p, 2, none⟩))).eval (.tmp 0) = .pointer (some ⟨g, 0, none⟩) := by rw [eval_put _ _ _ _ (by omega), if_neg (by decide)]; exact h0
  refine wpAnyH_take (i := 2) (v := .pointer (some ⟨g, 0, none⟩)) rfl (by kernel_rfl) (by kernel_rfl) (by kernel_rfl) (fun c b W => hQ _ _ c b W) (.inl ⟨rfl, fun W _ => run_moveOp rfl _ _ _ a1⟩) trivial ?_
  have hs2 : ((a.put (some 48) (.pointer (some ⟨p, 2, none⟩))).put (some 50) (.pointer (some ⟨g, 0, none⟩))).tmps.size = a.tmps.size := by rw [size_put, size_put]
  have hcF : ∀ vs W, (callFunc 93 vs).run Tryd.prog W = .ok (.enter 93 vs) W := fun vs W => by have hf := Tryd.func93; simp [go_sem]
  obtain ⟨a2, ha2⟩ : ∃ a2, a2 = ((a.put (some 48) (.pointer (some ⟨p, 2, none⟩))).put (some 50) (.pointer (some ⟨g, 0, none⟩))) := ⟨_, rfl⟩
  have x0 : a2.eval (.tmp 48) = .pointer (some ⟨p, 2, none⟩) := by rw [ha2, eval_put _ _ _ _ (by rw [size_put]; omega), if_neg (by decide), eval_put _ _ _ _ (by omega), if_pos rfl]
  have x2 : a2.eval (.tmp 50) = .pointer (some ⟨g, 0, none⟩) := by rw [ha2, eval_put _ _ _ _ (by rw [size_put]; omega), if_pos rfl]
  have xb : a2.eval (.tmp 5) = .pointer (some ⟨p, 0, none⟩) := by rw [ha2, eval_put _ _ _ _ (by rw [size_put]; omega), if_neg (by decide), eval_put _ _ _ _ (by omega), if_neg (by decide)]; exact hp
  have xs : a2.tmps.size = a.tmps.size := by rw [ha2]; exact hs2
  have comm : ∀ (k j : Nat) (b : Act) (y z : Value), k ≠ j → (b.put (some k) y).put (some j) z = (b.put (some j) z).put (some k) y := fun k j b y z hkj => by
    simp only [Act.put]
    congr 1
    exact Array.setIfInBounds_comm _ _ hkj
  show wpAnyH Tryd.prog .any own15_ops.toArray _ _ 6 _ ((a.put (some 48) (.pointer (some ⟨p, 2, none⟩))).put (some 50) (.pointer (some ⟨g, 0, none⟩))) w.drew
  rw [← ha2]
  have hg0 : w.drew.grownBy w.drew (some g) := gb_refl _ _
  refine wpAnyH_all (rs := [1, 3]) (by kernel_rfl) (by decide) ?_
  intro i hi
  rcases List.mem_cons.1 hi with rfl | hi
  · refine wpOp_val rfl rfl v (run_loadOp rfl _ _ _ _ x0 (load_cell (e := 48) Tryd.underlying52 _ _ _ (hcell _ (keep _ hg0)))) (some 49) rfl ⟨trivial, ?_⟩
    refine wpAnyH_all (rs := [3]) (by kernel_rfl) (by decide) ?_
    intro i hi
    obtain rfl := List.mem_singleton.1 hi
    refine wpOp_callQ rfl rfl 93 #[.pointer (some ⟨g, 0, none⟩)] (run_callOp rfl hcF _ _ _ (by rw [eval_put _ _ _ _ (by omega), if_neg (by decide)]; exact x2)) _ hcall (some 51) rfl ?_ (fun ch w' h => absurd h.1 (by simp)) (fun w' h => absurd h.1 (by simp))
    rintro u w1 ⟨hu, hg1, hD⟩
    obtain rfl : u = .agg (figV c) := by simpa using hu
    refine ⟨trivial, ?_⟩
    refine wpAnyH_all (rs := [4]) (by kernel_rfl) (by decide) ?_
    intro i hi
    obtain rfl := List.mem_singleton.1 hi
    refine wpOp_of_list rfl ?_
    refine wl_buildE (E := FigE) FigOk rfl _ rfl (figV c) rfl (by rw [eval_put _ _ _ _ (by rw [size_put]; omega), if_pos rfl]) ?_
    refine ⟨trivial, ?_⟩
    refine (show wpAnyH Tryd.prog .any own15_ops.toArray _ _ 3 _ (((a2.put (some 49) v).put (some 51) (.agg (figV c))).put (some 52) (.slice (some ⟨w1.heap.size, 0, none⟩) 1 1)) _ from tail (((a2.put (some 49) v).put (some 51) (.agg (figV c))).put (some 52) (.slice (some ⟨w1.heap.size, 0, none⟩) 1 1)) w1 ⟨.pointer (some ⟨p, 2, none⟩), v, .pointer (some ⟨g, 0, none⟩), .agg (figV c), .slice (some ⟨w1.heap.size, 0, none⟩) 1 1, ?_⟩ ?_ ?_ ?_ ?_ hg1 hD)
    · rw [ha2, comm 50 49 _ _ _ (by decide)]
    · rw [eval_put _ _ _ _ (by rw [size_put, size_put]; omega), if_neg (by decide), eval_put _ _ _ _ (by rw [size_put]; omega), if_neg (by decide), eval_put _ _ _ _ (by omega), if_pos rfl]
    · rw [eval_put _ _ _ _ (by rw [size_put, size_put]; omega), if_pos rfl]
    · rw [eval_put _ _ _ _ (by rw [size_put, size_put]; omega), if_neg (by decide), eval_put _ _ _ _ (by rw [size_put]; omega), if_neg (by decide), eval_put _ _ _ _ (by omega), if_neg (by decide)]; exact xb
    · rw [size_put, size_put, size_put]; exact xs
  · obtain rfl := List.mem_singleton.1 hi
    refine wpOp_callQ rfl rfl 93 #[.pointer (some ⟨g, 0, none⟩)] (run_callOp rfl hcF _ _ _ x2) _ hcall (some 51) rfl ?_ (fun ch w' h => absurd h.1 (by simp)) (fun w' h => absurd h.1 (by simp))
    rintro u w1 ⟨hu, hg1, hD⟩
    obtain rfl : u = .agg (figV c) := by simpa using hu
    refine ⟨trivial, ?_⟩
    refine wpAnyH_all (rs := [1, 4]) (by kernel_rfl) (by decide) ?_
    intro i hi
    rcases List.mem_cons.1 hi with rfl | hi
    · refine wpOp_val rfl rfl v (run_loadOp rfl _ _ _ _ (by rw [eval_put _ _ _ _ (by omega), if_neg (by decide)]; exact x0) (load_cell (e := 48) Tryd.underlying52 _ _ _ (hcell _ (keep _ hg1)))) (some 49) rfl ⟨trivial, ?_⟩
      refine wpAnyH_all (rs := [4]) (by kernel_rfl) (by decide) ?_
      intro i hi
      obtain rfl := List.mem_singleton.1 hi
      refine wpOp_of_list rfl ?_
      refine wl_buildE (E := FigE) FigOk rfl _ rfl (figV c) rfl (by rw [eval_put _ _ _ _ (by rw [size_put]; omega), if_neg (by decide), eval_put _ _ _ _ (by omega), if_pos rfl]) ?_
      refine ⟨trivial, ?_⟩
      refine (show wpAnyH Tryd.prog .any own15_ops.toArray _ _ 3 _ (((a2.put (some 51) (.agg (figV c))).put (some 49) v).put (some 52) (.slice (some ⟨w1.heap.size, 0, none⟩) 1 1)) _ from tail (((a2.put (some 51) (.agg (figV c))).put (some 49) v).put (some 52) (.slice (some ⟨w1.heap.size, 0, none⟩) 1 1)) w1 ⟨.pointer (some ⟨p, 2, none⟩), v, .pointer (some ⟨g, 0, none⟩), .agg (figV c), .slice (some ⟨w1.heap.size, 0, none⟩) 1 1, ?_⟩ ?_ ?_ ?_ ?_ hg1 hD)
      · rw [comm 51 49 _ _ _ (by decide), ha2, comm 50 49 _ _ _ (by decide)]
      · rw [eval_put _ _ _ _ (by rw [size_put, size_put]; omega), if_neg (by decide), eval_put _ _ _ _ (by rw [size_put]; omega), if_pos rfl]
      · rw [eval_put _ _ _ _ (by rw [size_put, size_put]; omega), if_pos rfl]
      · rw [eval_put _ _ _ _ (by rw [size_put, size_put]; omega), if_neg (by decide), eval_put _ _ _ _ (by rw [size_put]; omega), if_neg (by decide), eval_put _ _ _ _ (by omega), if_neg (by decide)]; exact xb
      · rw [size_put, size_put, size_put]; exact xs
    · obtain rfl := List.mem_singleton.1 hi
      refine wpOp_of_list rfl ?_
      refine wl_buildE (E := FigE) FigOk rfl _ rfl (figV c) rfl (by rw [eval_put _ _ _ _ (by omega), if_pos rfl]) ?_
      refine ⟨trivial, ?_⟩
      show wpAnyH Tryd.prog .any own15_ops.toArray _ _ 4 _ ((a2.put (some 51) (.agg (figV c))).put (some 52) (.slice (some ⟨w1.heap.size, 0, none⟩) 1 1)) _
      refine wpAnyH_all (rs := [1]) (by kernel_rfl) (by decide) ?_
      intro i hi
      obtain rfl := List.mem_singleton.1 hi
      refine wpOp_val rfl rfl v (run_loadOp rfl _ _ _ _ (by rw [eval_put _ _ _ _ (by rw [size_put]; omega), if_neg (by decide), eval_put _ _ _ _ (by omega), if_neg (by decide)]; exact x0) (load_cell (e := 48) Tryd.underlying52 _ _ _ (hcell _ (heap_past _ _ _ _ (keep _ hg1))))) (some 49) rfl ⟨trivial, ?_⟩
      refine (show wpAnyH Tryd.prog .any own15_ops.toArray _ _ 3 _ (((a2.put (some 51) (.agg (figV c))).put (some 52) (.slice (some ⟨w1.heap.size, 0, none⟩) 1 1)).put (some 49) v) _ from tail (((a2.put (some 51) (.agg (figV c))).put (some 52) (.slice (some ⟨w1.heap.size, 0, none⟩) 1 1)).put (some 49) v) w1 ⟨.pointer (some ⟨p, 2, none⟩), v, .pointer (some ⟨g, 0, none⟩), .agg (figV c), .slice (some ⟨w1.heap.size, 0, none⟩) 1 1, ?_⟩ ?_ ?_ ?_ ?_ hg1 hD)
      · rw [comm 52 49 _ _ _ (by decide), comm 51 49 _ _ _ (by decide), ha2, comm 50 49 _ _ _ (by decide)]
      · rw [eval_put _ _ _ _ (by rw [size_put, size_put]; omega), if_pos rfl]
      · rw [eval_put _ _ _ _ (by rw [size_put, size_put]; omega), if_neg (by decide), eval_put _ _ _ _ (by rw [size_put]; omega), if_pos rfl]
      · rw [eval_put _ _ _ _ (by rw [size_put, size_put]; omega), if_neg (by decide), eval_put _ _ _ _ (by rw [size_put]; omega), if_neg (by decide), eval_put _ _ _ _ (by omega), if_neg (by decide)]; exact xb
      · rw [size_put, size_put, size_put]; exact xs

set_option maxHeartbeats 2000000 in
theorem own15_panics {id : Nat} {Q : Exit → Act → World → Prop} {a : Act} {w : World} (hs : 55 ≤ a.tmps.size) (g p : Nat) (h0 : a.eval (.tmp 0) = .pointer (some ⟨g, 0, none⟩)) (hp : a.eval (.tmp 5) = .pointer (some ⟨p, 0, none⟩))
    (cs : Array Value) (hcs : w.heap[p]? = some (.cells cs 54 (0, 0))) (v : Value) (hv : cs[2]? = some v)
    (ch : List PanicEntry) (D : World → Prop) (hcall : Calls Tryd.prog 93 #[.pointer (some ⟨g, 0, none⟩)] w.drew fun e w' => e = .panicked ch ∧ D w')
    (hK : ∀ a' w', a'.defers = a.defers → D w' → Q (.panic ch) a' w') : (Code.region id own15_ops.toArray true).wp Tryd.prog Q a w := by
  have hfa : ∀ W, (Instr.fieldAt 54 (.pointer (some ⟨p, 0, none⟩)) 2).run Tryd.prog W = .ok (.pointer (some ⟨p, 2, none⟩)) W := fun W => by simp [go_sem]
  have hcell : w.drew.cell? ⟨p, 2, none⟩ = some v := by rw [cell_of_row _ _ _ _ _ _ (show w.drew.heap[p]? = _ from hcs)]; exact hv
  refine Code.wp_mono (Q := fun e a' w' => e = .panic ch ∧ a'.defers = a.defers ∧ D w') (by rintro e a' w' ⟨rfl, hd, h⟩; exact hK a' w' hd h) ?_
  refine region_beginS (fun _ => True) 8 rfl (by kernel_rfl) ?_
  refine wpAnyH_take (i := 0) (v := .pointer (some ⟨p, 2, none⟩)) rfl (by kernel_rfl) (by kernel_rfl) (by kernel_rfl) (fun _ _ _ h => ⟨h.1, h.2.1, h.2.2⟩) (.inl ⟨rfl, fun W _ => run_fieldOp rfl _ _ _ ((congrArg (fun y => (Instr.fieldAt 54 y 2).run Tryd.prog W) hp).trans (hfa W))⟩) trivial ?_
  have a1 : (a.put (some 48) (.pointer (some ⟨p, 2, none⟩))).eval (.tmp 0) = .pointer (some ⟨g, 0, none⟩) := by rw [eval_put _ _ _ _ (by omega), if_neg (by decide)]; exact h0
  refine wpAnyH_take (i := 2) (v := .pointer (some ⟨g, 0, none⟩)) rfl (by kernel_rfl) (by kernel_rfl) (by kernel_rfl) (fun _ _ _ h => ⟨h.1, h.2.1, h.2.2⟩) (.inl ⟨rfl, fun W _ => run_moveOp rfl _ _ _ a1⟩) trivial ?_
  have hs2 : ((a.put (some 48) (.pointer (some ⟨p, 2, none⟩))).put (some 50) (.pointer (some ⟨g, 0, none⟩))).tmps.size = a.tmps.size := by rw [size_put, size_put]
  have hcF : ∀ vs W, (callFunc 93 vs).run Tryd.prog W = .ok (.enter 93 vs) W := fun vs W => by have hf := Tryd.func93; simp [go_sem]
  obtain ⟨a2, ha2⟩ : ∃ a2, a2 = ((a.put (some 48) (.pointer (some ⟨p, 2, none⟩))).put (some 50) (.pointer (some ⟨g, 0, none⟩))) := ⟨_, rfl⟩
  have x0 : a2.eval (.tmp 48) = .pointer (some ⟨p, 2, none⟩) := by rw [ha2, eval_put _ _ _ _ (by rw [size_put]; omega), if_neg (by decide), eval_put _ _ _ _ (by omega), if_pos rfl]
  have x2 : a2.eval (.tmp 50) = .pointer (some ⟨g, 0, none⟩) := by rw [ha2, eval_put _ _ _ _ (by rw [size_put]; omega), if_pos rfl]
  have xs : a2.tmps.size = a.tmps.size := by rw [ha2]; exact hs2
  show wpAnyH Tryd.prog .any own15_ops.toArray _ _ 6 _ ((a.put (some 48) (.pointer (some ⟨p, 2, none⟩))).put (some 50) (.pointer (some ⟨g, 0, none⟩))) w.drew
  rw [← ha2]
  refine wpAnyH_all (rs := [1, 3]) (by kernel_rfl) (by decide) ?_
  intro i hi
  rcases List.mem_cons.1 hi with rfl | hi
  · refine wpOp_val rfl rfl v (run_loadOp rfl _ _ _ _ x0 (load_cell (e := 48) Tryd.underlying52 _ _ _ hcell)) (some 49) rfl ⟨trivial, ?_⟩
    refine wpAnyH_all (rs := [3]) (by kernel_rfl) (by decide) ?_
    intro i hi
    obtain rfl := List.mem_singleton.1 hi
    refine wpOp_callQ rfl rfl 93 #[.pointer (some ⟨g, 0, none⟩)] (run_callOp rfl hcF _ _ _ (by rw [eval_put _ _ _ _ (by omega), if_neg (by decide)]; exact x2)) _ hcall (some 51) rfl (fun v w' h => absurd h.1 (by simp)) (fun ch' w' h => ⟨by rw [Ending.panicked.inj h.1], by rw [ha2]; rfl, h.2⟩) (fun w' h => absurd h.1 (by simp))
  · obtain rfl := List.mem_singleton.1 hi
    refine wpOp_callQ rfl rfl 93 #[.pointer (some ⟨g, 0, none⟩)] (run_callOp rfl hcF _ _ _ x2) _ hcall (some 51) rfl (fun v w' h => absurd h.1 (by simp)) (fun ch' w' h => ⟨by rw [Ending.panicked.inj h.1], by rw [ha2]; rfl, h.2⟩) (fun w' h => absurd h.1 (by simp))
end Go.Proofs.YtfamnloobmdhdaaDoor
