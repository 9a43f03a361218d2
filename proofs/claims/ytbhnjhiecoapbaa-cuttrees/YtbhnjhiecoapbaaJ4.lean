import Derived.Test.YtbhnjhiecoapbaaJ3
import Derived.Lib.BitFns
import Derived.Great.BuildSlice
import Derived.Laws.AppendOwn
import Derived.Laws.OwnMore
import Derived.WalkMore
import Derived.Test.YtbhnjhiecoapbaaRows
import Derived.ProofKit
import Derived.OpenShut
import Derived.Carry
import Derived.Test.YtbhnjhiecoapbaaProg
namespace Go.Proofs.Ytbhnjhiecoapbaa
open Go Go.RowKit
set_option maxRecDepth 20000

/-- Two reads, then two stores; the second read may come behind the first store. -/
def twoB (ops : Array Oper) (n : Nat) : Bool :=
  let l := Array.replicate ops.size false
  decide (Region.ready .any ops l = [0, 1]) && decide (Region.ready .any ops (l.setIfInBounds 0 true) = [1, 2]) && decide (Region.ready .any ops (l.setIfInBounds 1 true) = [0]) &&
  decide (Region.ready .any ops ((l.setIfInBounds 0 true).setIfInBounds 1 true) = [2]) && decide (Region.ready .any ops ((l.setIfInBounds 0 true).setIfInBounds 2 true) = [1]) &&
  Region.seqB .any ops n 3 (((l.setIfInBounds 0 true).setIfInBounds 1 true).setIfInBounds 2 true) && decide (ops.size = n + 3)

theorem any_step {P : Program} {md : Region.Mode} {ops : Array Oper} {Q : Exit → Act → World → Prop} {fuel : Nat} {listed : Array Bool} {a : Act} {w : World} (rs : List Nat) (hr : Region.ready md ops listed = rs) (hne : rs ≠ [])
    (h : ∀ i ∈ rs, wpOp P ops Q i (wpAny P md ops Q fuel (listed.setIfInBounds i true)) a w) : wpAny P md ops Q (fuel + 1) listed a w :=
  ⟨fun h0 => absurd (hr.symm.trans h0) hne, fun i hi => h i (hr ▸ hi)⟩
theorem wpOp_value {P : Program} {ops : Array Oper} {Q : Exit → Act → World → Prop} {i : Nat} {o : Oper} {K : Act → World → Prop} {a : Act} {w w' : World} {v : Value} (hi : ops[i]? = some o) (hg : o.guard = none) (hr : (execOp a.eval o).run P w = .ok (.value v) w') (h : K (a.put o.dst v) w') : wpOp P ops Q i K a w := by
  have hw : Region.wanted o (yielded ops a.tmps) = true := by unfold Region.wanted; rw [hg]
  unfold Go.wpOp
  simp only [hi, hw, if_true]
  left
  unfold Oper.wp
  rw [hr]
  exact h
theorem wpOp_skip {P : Program} {ops : Array Oper} {Q : Exit → Act → World → Prop} {i : Nat} {o : Oper} {K : Act → World → Prop} {a : Act} {w w' : World} (hi : ops[i]? = some o) (hg : o.guard = none) (hr : (execOp a.eval o).run P w = .ok .skip w') (h : K (a.put o.dst undef) w') : wpOp P ops Q i K a w := by
  have hw : Region.wanted o (yielded ops a.tmps) = true := by unfold Region.wanted; rw [hg]
  unfold Go.wpOp
  simp only [hi, hw, if_true]
  left
  unfold Oper.wp
  rw [hr]
  exact h

theorem wp_region_two {P : Program} {id : Nat} {Q : Exit → Act → World → Prop} {a : Act} {w w' : World} {o0 o1 o2 : Oper} {rest : List Oper} {v0 v1 : Value} (hm : P.follows .mixedOrders = true)
    (hB : twoB (o0 :: o1 :: o2 :: rest).toArray rest.length = true) (q0 : o0.guard = none) (q1 : o1.guard = none) (q2 : o2.guard = none) (q3 : o2.dst = none)
    (e0 : (execOp a.eval o0).run P w.drew = .ok (.value v0) w.drew) (e0' : (execOp (a.put o1.dst v1).eval o0).run P w.drew = .ok (.value v0) w.drew)
    (e1 : (execOp a.eval o1).run P w.drew = .ok (.value v1) w.drew) (e1a : (execOp (a.put o0.dst v0).eval o1).run P w.drew = .ok (.value v1) w.drew) (e1b : (execOp (a.put o0.dst v0).eval o1).run P w' = .ok (.value v1) w')
    (e2 : (execOp (a.put o0.dst v0).eval o2).run P w.drew = .ok .skip w') (e2a : (execOp ((a.put o0.dst v0).put o1.dst v1).eval o2).run P w.drew = .ok .skip w')
    (comm : (a.put o1.dst v1).put o0.dst v0 = (a.put o0.dst v0).put o1.dst v1)
    (h : wpList P (o0 :: o1 :: o2 :: rest).toArray Q rest ((a.put o0.dst v0).put o1.dst v1) w') : (Code.region id (o0 :: o1 :: o2 :: rest).toArray true).wp P Q a w := by
  simp only [twoB, Bool.and_eq_true, decide_eq_true_eq] at hB
  obtain ⟨⟨⟨⟨⟨⟨r0, r1⟩, r2⟩, r3⟩, r4⟩, hq⟩, hsz⟩ := hB
  have pn : ∀ (b : Act) (v : Value), b.put none v = b := fun b v => rfl
  have fin : wpAny P .any (o0 :: o1 :: o2 :: rest).toArray Q rest.length ((((Array.replicate (o0 :: o1 :: o2 :: rest).toArray.size false).setIfInBounds 0 true).setIfInBounds 1 true).setIfInBounds 2 true) ((a.put o0.dst v0).put o1.dst v1) w' :=
    wpAny_of_seq rest 3 _ _ w' (fun j => by simp [Nat.add_comm 3 j]) hq h
  refine wp_region_any hm ?_
  rw [hsz]
  refine any_step [0, 1] r0 (by simp) fun i hi => ?_
  simp only [List.mem_cons, List.not_mem_nil, or_false] at hi
  rcases hi with rfl | rfl
  · refine wpOp_value (o := o0) (by simp) q0 e0 (any_step [1, 2] r1 (by simp) fun i hi => ?_)
    simp only [List.mem_cons, List.not_mem_nil, or_false] at hi
    rcases hi with rfl | rfl
    · refine wpOp_value (o := o1) (by simp) q1 e1a (any_step [2] r3 (by simp) fun i hi => ?_)
      simp only [List.mem_cons, List.not_mem_nil, or_false] at hi
      subst hi
      refine wpOp_skip (o := o2) (by simp) q2 e2a ?_
      rw [q3, pn]
      exact fin
    · refine wpOp_skip (o := o2) (by simp) q2 e2 ?_
      rw [q3, pn]
      refine any_step [1] r4 (by simp) fun i hi => ?_
      simp only [List.mem_cons, List.not_mem_nil, or_false] at hi
      subst hi
      refine wpOp_value (o := o1) (by simp) q1 e1b ?_
      rw [Array.setIfInBounds_comm _ _ (by decide : (2 : Nat) ≠ 1)]
      exact fin
  · refine wpOp_value (o := o1) (by simp) q1 e1 (any_step [0] r2 (by simp) fun i hi => ?_)
    simp only [List.mem_cons, List.not_mem_nil, or_false] at hi
    subst hi
    refine wpOp_value (o := o0) (by simp) q0 e0' ?_
    rw [comm, Array.setIfInBounds_comm _ _ (by decide : (1 : Nat) ≠ 0)]
    refine any_step [2] r3 (by simp) fun i hi => ?_
    simp only [List.mem_cons, List.not_mem_nil, or_false] at hi
    subst hi
    refine wpOp_skip (o := o2) (by simp) q2 e2a ?_
    rw [q3, pn]
    exact fin

theorem run_store_row (a : Act) (o : Oper) (w : World) (ty : TypeId) (x y : Operand) (ho : o.op = .store ty x y) (g : Nat) (cells : Array Value) (hx : a.eval x = .pointer (some ⟨g, 0, none⟩)) (hy : a.eval y = .agg cells) (t : TypeId) (old : Array Value) (hg : w.heap[g]? = some (.cells old t (0, 0)))
    (hi : (Try.prog.info? ty).map (·.size) = some cells.size) (hold : old.size = cells.size) (h1 : cells.all (·.oneCell') = true) : (execOp a.eval o).run Try.prog w = .ok .skip (w.setRow g cells) := by
  unfold execOp
  simp only [ho, hx, hy, Instr.storeAt, Instr.sureAddr, Sem.run_bind, Sem.run_pure, Result.andThen_ok, run_storeVar_row w g t ty old cells hg hi hold h1]
theorem run_loadC (a : Act) (o : Oper) (w : World) (x : Operand) (ho : o.op = .load 26 x) (g : Nat) (hx : a.eval x = .pointer (some ⟨g, 0, none⟩)) (V M : List Int) (hg : w.heap[g]? = some (.cells (cv V M) 26 (0, 0))) (hV : V.length = 13) (hM : M.length = 13) : (execOp a.eval o).run Try.prog w = .ok (.value (.agg (cv V M))) w :=
  by
  unfold execOp
  simp only [ho, hx, Instr.loadAt, Instr.sureAddr, Sem.run_bind, Sem.run_pure, Result.andThen_ok, run_loadVar_row w g _ _ (cv V M) (0, 0) _ hg Try.underlying26 rfl (sizeC V M hV hM)]
theorem run_loadH (a : Act) (o : Oper) (w : World) (x : Operand) (ho : o.op = .load 24 x) (g : Nat) (hx : a.eval x = .pointer (some ⟨g, 0, none⟩)) (L : List Int) (hg : w.heap[g]? = some (.cells (hv L) 24 (0, 0))) (hL : L.length = 13) : (execOp a.eval o).run Try.prog w = .ok (.value (.agg (hv L))) w :=
  by
  unfold execOp
  simp only [ho, hx, Instr.loadAt, Instr.sureAddr, Sem.run_bind, Sem.run_pure, Result.andThen_ok, run_loadVar_row w g _ _ (hv L) (0, 0) _ hg Try.underlying24 rfl (size26 L hL)]
theorem run_storeC (a : Act) (o : Oper) (w : World) (x y : Operand) (ho : o.op = .store 26 x y) (g : Nat) (V M : List Int) (hx : a.eval x = .pointer (some ⟨g, 0, none⟩)) (hy : a.eval y = .agg (cv V M)) (old : Array Value) (hg : w.heap[g]? = some (.cells old 26 (0, 0))) (hold : old.size = 26) (hV : V.length = 13) (hM : M.length = 13) : (execOp a.eval o).run Try.prog w = .ok .skip (w.setRow g (cv V M)) :=
  run_store_row a o w _ x y ho g _ hx hy _ old hg (sizeC V M hV hM) (by rw [cv_size V M hV hM, hold]) (cv_one V M)
theorem run_storeH (a : Act) (o : Oper) (w : World) (x y : Operand) (ho : o.op = .store 24 x y) (g : Nat) (L : List Int) (hx : a.eval x = .pointer (some ⟨g, 0, none⟩)) (hy : a.eval y = .agg (hv L)) (old : Array Value) (hg : w.heap[g]? = some (.cells old 24 (0, 0))) (hold : old.size = 13) (hL : L.length = 13) : (execOp a.eval o).run Try.prog w = .ok .skip (w.setRow g (hv L)) :=
  run_store_row a o w _ x y ho g _ hx hy _ old hg (size26 L hL) (by rw [hv_size, hold, hL]) (hv_one L)
end Go.Proofs.Ytbhnjhiecoapbaa
namespace Go.Proofs.Ytbhnjhiecoapbaa
open Go Go.RowKit
set_option maxRecDepth 20000

/-- The end of a function whose results are two cubes in memory, and a plain one. -/
theorem retCCe {fn : Func} {R : Ending → World → Prop} {a : Act} {w : World} {p q u : Tmp} (hr : fn.results = #[.cell p 26, .cell q 26, .tmp u]) (hd : a.defers = []) (g g' : Nat) (hp : a.tmps.getD p undef = .pointer (some ⟨g, 0, none⟩)) (hq : a.tmps.getD q undef = .pointer (some ⟨g', 0, none⟩)) (V M V' M' : List Int) (hV : V.length = 13) (hM : M.length = 13) (hV' : V'.length = 13) (hM' : M'.length = 13)
    (hg : w.heap[g]? = some (.cells (cv V M) 26 (0, 0))) (hg' : w.heap[g']? = some (.cells (cv V' M') 26 (0, 0))) (v : Value) (hu : a.tmps.getD u undef = v) (h : R (.returned (.tuple #[.agg (cv V M), .agg (cv V' M'), v])) w) : bodyPost Try.prog fn R .ret a w := by
  refine bodyPost_ret (v := .tuple #[.agg (cv V M), .agg (cv V' M'), v]) ?_ hd h
  simp only [results, hr]
  have hp' : a.tmps[p]?.getD undef = .pointer (some ⟨g, 0, none⟩) := by simpa using hp
  have hq' : a.tmps[q]?.getD undef = .pointer (some ⟨g', 0, none⟩) := by simpa using hq
  have hu' : a.tmps[u]?.getD undef = v := by simpa using hu
  simp [Sem.run_bind, hp', hq', hu', asAddr, run_loadVar_row w g 26 26 (cv V M) (0, 0) _ hg Try.underlying26 rfl (sizeC V M hV hM), run_loadVar_row w g' 26 26 (cv V' M') (0, 0) _ hg' Try.underlying26 rfl (sizeC V' M' hV' hM')]

/-- There is no such bit. -/
theorem split_no (V M : List Int) (i : Int) (hi : ¬ (0 ≤ i ∧ i < 104)) (w : World) :
    Calls Try.prog 21 #[.agg (cv V M), .int .i64 i] w fun e w' => e = .returned (.tuple #[.agg (cv Z Z), .agg (cv Z Z), .int .i64 3]) ∧ Below w.heap.size w w' := by
  go_enter Try.func21, Try.ntmps21
  have HI : Hid (¬ (0 ≤ i ∧ i < 104)) := hi
  have g1 : (((w.alloc (.cells (cv V M) 26)).alloc (.cells zeroC 26)).alloc (.cells zeroC 26)).heap[w.heap.size + 1]? = some (.cells zeroC 26 (0, 0)) := heap_past _ _ _ _ (heap_new _ _ _ (by simp))
  have g2 : (((w.alloc (.cells (cv V M) 26)).alloc (.cells zeroC 26)).alloc (.cells zeroC 26)).heap[w.heap.size + 2]? = some (.cells zeroC 26 (0, 0)) := heap_new _ _ _ (by simp)
  have hb : Below w.heap.size w (((w.alloc (.cells (cv V M) 26)).alloc (.cells zeroC 26)).alloc (.cells zeroC 26)) := (((Below.refl _ _).alloc (Nat.le_refl _) _).alloc (by simp) _).alloc (by simp; omega) _
  clear hi
  have h1 := (setRow_heap _ _ _ (cv Z Z) _ _ g1)
  have h2 := (setRow_other _ (w.heap.size + 1) (w.heap.size + 2) (cv Z Z) (by omega)).trans g2
  have k1 := (setRow_other _ (w.heap.size + 2) (w.heap.size + 1) (cv Z Z) (by omega)).trans h1
  have k2 := (setRow_heap _ _ _ (cv Z Z) _ _ h2)
  go_wp2_with (first
    | (go_at_call 38; refine (cisBit_no _ _ HI.out).mono ?_; rintro e w' ⟨rfl, rfl⟩)
    | (refine wl_storeC rfl _ _ rfl (w.heap.size + 1) Z Z rfl (by rw [← zeroC_eq]; rfl) _ g1 rfl Z_byt.1 Z_byt.1 _ rfl ?_)
    | (refine wl_storeC rfl _ _ rfl (w.heap.size + 2) Z Z rfl (by rw [← zeroC_eq]; rfl) _ h2 rfl Z_byt.1 Z_byt.1 _ rfl ?_))
  refine retCCe (p := 4) (q := 5) (u := 6) rfl rfl (w.heap.size + 1) (w.heap.size + 2) rfl rfl Z Z Z Z Z_byt.1 Z_byt.1 Z_byt.1 Z_byt.1 k1 k2 _ rfl ⟨rfl, ?_⟩
  exact below_setRow (below_setRow hb (by omega) _) (by omega) _

set_option maxHeartbeats 2000000 in
/-- The bit is fixed. -/
theorem split_fixed (V M : List Int) (hVl : V.length = 13) (hM : Byt M) (i : Nat) (hi : i < 104) (h : bt M i = true) (w : World) :
    Calls Try.prog 21 #[.agg (cv V M), .int .i64 (i : Int)] w fun e w' => e = .returned (.tuple #[.agg (cv Z Z), .agg (cv Z Z), .int .i64 3]) ∧ Below w.heap.size w w' := by
  have hMl := hM.1
  have C1 : Hid (∀ W, Calls Try.prog 39 #[.agg (hv M), .int .i64 (i : Int)] W fun e w' => e = .returned (.bool true) ∧ Below W.heap.size W w') := by
    have := hbit_nat M hM i hi; rwa [h] at this
  clear hM h
  go_enter Try.func21, Try.ntmps21
  have g0 : (((w.alloc (.cells (cv V M) 26)).alloc (.cells zeroC 26)).alloc (.cells zeroC 26)).heap[w.heap.size]? = some (.cells (cv V M) 26 (0, 0)) := heap_past _ _ _ _ (heap_past _ _ _ _ (heap_new _ _ _ rfl))
  have g1 : (((w.alloc (.cells (cv V M) 26)).alloc (.cells zeroC 26)).alloc (.cells zeroC 26)).heap[w.heap.size + 1]? = some (.cells zeroC 26 (0, 0)) := heap_past _ _ _ _ (heap_new _ _ _ (by simp))
  have g2 : (((w.alloc (.cells (cv V M) 26)).alloc (.cells zeroC 26)).alloc (.cells zeroC 26)).heap[w.heap.size + 2]? = some (.cells zeroC 26 (0, 0)) := heap_new _ _ _ (by simp)
  have hb : Below w.heap.size w (((w.alloc (.cells (cv V M) 26)).alloc (.cells zeroC 26)).alloc (.cells zeroC 26)) := (((Below.refl _ _).alloc (Nat.le_refl _) _).alloc (by simp) _).alloc (by simp; omega) _
  go_wp2_with (first
    | (go_at_call 38; refine (cisBit_yes _ _ (by omega) (by omega)).mono ?_; rintro e w' ⟨rfl, rfl⟩)
    | (refine wl_loadM rfl _ rfl w.heap.size rfl V M g0 hVl hMl ?_))
  refine (C1.out _).mono ?_
  rintro e w1 ⟨rfl, hb1⟩
  have m1 : w1.heap[w.heap.size + 1]? = some (.cells zeroC 26 (0, 0)) := by rw [hb1.block _ (by simp)]; exact g1
  have m2 : w1.heap[w.heap.size + 2]? = some (.cells zeroC 26 (0, 0)) := by rw [hb1.block _ (by simp)]; exact g2
  have hB1 := hb.trans (hb1.mono hb.size)
  clear g0 g1 g2 hb hb1 C1
  have h1 := (setRow_heap _ _ _ (cv Z Z) _ _ m1)
  have h2 := (setRow_other _ (w.heap.size + 1) (w.heap.size + 2) (cv Z Z) (by omega)).trans m2
  have k1 := (setRow_other _ (w.heap.size + 2) (w.heap.size + 1) (cv Z Z) (by omega)).trans h1
  have k2 := (setRow_heap _ _ _ (cv Z Z) _ _ h2)
  go_wp2_with (first
    | (refine wl_storeC rfl _ _ rfl (w.heap.size + 1) Z Z rfl (by rw [← zeroC_eq]; rfl) _ m1 rfl Z_byt.1 Z_byt.1 _ rfl ?_)
    | (refine wl_storeC rfl _ _ rfl (w.heap.size + 2) Z Z rfl (by rw [← zeroC_eq]; rfl) _ h2 rfl Z_byt.1 Z_byt.1 _ rfl ?_))
  refine retCCe (p := 4) (q := 5) (u := 6) rfl rfl (w.heap.size + 1) (w.heap.size + 2) rfl rfl Z Z Z Z Z_byt.1 Z_byt.1 Z_byt.1 Z_byt.1 k1 k2 _ rfl ⟨rfl, ?_⟩
  exact below_setRow (below_setRow hB1 (by omega) _) (by omega) _

set_option maxHeartbeats 4000000 in
/-- The bit is free. -/
theorem split_free (V M : List Int) (hV : Byt V) (hM : Byt M) (i : Nat) (hi : i < 104) (h : bt M i = false) (w : World) :
    Calls Try.prog 21 #[.agg (cv V M), .int .i64 (i : Int)] w fun e w' => e = .returned (.tuple #[.agg (cv (fixV V M i false) (fixM M i)), .agg (cv (fixV V M i true) (fixM M i)), .int .i64 0]) ∧ Below w.heap.size w w' := by
  have hVl := hV.1
  have hMl := hM.1
  have hFl : (fixM M i).length = 13 := (setb_byt M i true).1
  have hAl : (fixV V M i false).length = 13 := (setb_byt _ i false).1
  have hBl : (fixV V M i true).length = 13 := (setb_byt _ i true).1
  have C1 : Hid (∀ W, Calls Try.prog 39 #[.agg (hv M), .int .i64 (i : Int)] W fun e w' => e = .returned (.bool false) ∧ Below W.heap.size W w') := by
    have := hbit_nat M hM i hi; rwa [h] at this
  have C2 : Hid (∀ W, Calls Try.prog 40 #[.agg (cv V M), .int .i64 (i : Int), .bool false] W fun e w' => e = .returned (.tuple #[.agg (cv (fixV V M i false) (fixM M i)), .int .i64 0]) ∧ Below W.heap.size W w') := fix_in V M hV hM i false hi
  have C3 : Hid (∀ W, Calls Try.prog 40 #[.agg (cv V M), .int .i64 (i : Int), .bool true] W fun e w' => e = .returned (.tuple #[.agg (cv (fixV V M i true) (fixM M i)), .int .i64 0]) ∧ Below W.heap.size W w') := fix_in V M hV hM i true hi
  clear hV hM h
  go_enter Try.func21, Try.ntmps21
  have g0 : (((w.alloc (.cells (cv V M) 26)).alloc (.cells zeroC 26)).alloc (.cells zeroC 26)).heap[w.heap.size]? = some (.cells (cv V M) 26 (0, 0)) := heap_past _ _ _ _ (heap_past _ _ _ _ (heap_new _ _ _ rfl))
  have g1 : (((w.alloc (.cells (cv V M) 26)).alloc (.cells zeroC 26)).alloc (.cells zeroC 26)).heap[w.heap.size + 1]? = some (.cells zeroC 26 (0, 0)) := heap_past _ _ _ _ (heap_new _ _ _ (by simp))
  have g2 : (((w.alloc (.cells (cv V M) 26)).alloc (.cells zeroC 26)).alloc (.cells zeroC 26)).heap[w.heap.size + 2]? = some (.cells zeroC 26 (0, 0)) := heap_new _ _ _ (by simp)
  have hb : Below w.heap.size w (((w.alloc (.cells (cv V M) 26)).alloc (.cells zeroC 26)).alloc (.cells zeroC 26)) := (((Below.refl _ _).alloc (Nat.le_refl _) _).alloc (by simp) _).alloc (by simp; omega) _
  go_wp2_with (first
    | (go_at_call 38; refine (cisBit_yes _ _ (by omega) (by omega)).mono ?_; rintro e w' ⟨rfl, rfl⟩)
    | (refine wl_loadM rfl _ rfl w.heap.size rfl V M g0 hVl hMl ?_))
  refine (C1.out _).mono ?_
  rintro e w1 ⟨rfl, hb1⟩
  have m0 : w1.heap[w.heap.size]? = some (.cells (cv V M) 26 (0, 0)) := by rw [hb1.block _ (by simp; omega)]; exact g0
  have m1 : w1.heap[w.heap.size + 1]? = some (.cells zeroC 26 (0, 0)) := by rw [hb1.block _ (by simp)]; exact g1
  have m2 : w1.heap[w.heap.size + 2]? = some (.cells zeroC 26 (0, 0)) := by rw [hb1.block _ (by simp)]; exact g2
  have hz1 : w.heap.size + 3 ≤ w1.heap.size := Nat.le_trans (by simp) hb1.size
  have hB1 := hb.trans (hb1.mono hb.size)
  clear g0 g1 g2 hb hb1 C1
  go_wp2_with (first
    | (refine wl_loadC rfl _ rfl w.heap.size rfl V M m0 hVl hMl ?_))
  refine (C2.out _).mono ?_
  rintro e w2 ⟨rfl, hb2⟩
  have n0 : w2.heap[w.heap.size]? = some (.cells (cv V M) 26 (0, 0)) := by rw [hb2.block _ (by omega)]; exact m0
  have n1 : w2.heap[w.heap.size + 1]? = some (.cells zeroC 26 (0, 0)) := by rw [hb2.block _ (by omega)]; exact m1
  have n2 : w2.heap[w.heap.size + 2]? = some (.cells zeroC 26 (0, 0)) := by rw [hb2.block _ (by omega)]; exact m2
  have hz2 : w.heap.size + 3 ≤ w2.heap.size := Nat.le_trans hz1 hb2.size
  have hB2 := hB1.trans (hb2.mono hB1.size)
  clear m0 m1 m2 hB1 hb2 hz1 C2
  have p0 := heap_past w2 (.cells (cv (fixV V M i false) (fixM M i)) 26) _ _ n0
  have p1 := heap_past w2 (.cells (cv (fixV V M i false) (fixM M i)) 26) _ _ n1
  have p2 := heap_past w2 (.cells (cv (fixV V M i false) (fixM M i)) 26) _ _ n2
  have p3 := heap_new w2 (.cells (cv (fixV V M i false) (fixM M i)) 26) _ rfl
  have hB3 := hB2.alloc (by omega) (.cells (cv (fixV V M i false) (fixM M i)) 26)
  have hz3 : w.heap.size + 3 ≤ (w2.alloc (.cells (cv (fixV V M i false) (fixM M i)) 26)).heap.size := by simp; omega
  go_wp2_with (first
    | (refine wl_storeC rfl _ _ rfl w2.heap.size (fixV V M i false) (fixM M i) rfl rfl _ (heap_new _ _ _ rfl) rfl hAl hFl _ (setRow_new _ _ _ _ _ rfl) ?_)
    | (refine wl_loadC rfl _ rfl w.heap.size rfl V M p0 hVl hMl ?_))
  refine (C3.out _).mono ?_
  rintro e w3 ⟨rfl, hb3⟩
  have q1 : w3.heap[w.heap.size + 1]? = some (.cells zeroC 26 (0, 0)) := by rw [hb3.block _ (by omega)]; exact p1
  have q2 : w3.heap[w.heap.size + 2]? = some (.cells zeroC 26 (0, 0)) := by rw [hb3.block _ (by omega)]; exact p2
  have q3 : w3.heap[w2.heap.size]? = some (.cells (cv (fixV V M i false) (fixM M i)) 26 (0, 0)) := by rw [hb3.block _ (by simp)]; exact p3
  have hz4 : w.heap.size + 3 ≤ w3.heap.size := Nat.le_trans hz3 hb3.size
  have hB4 := hB3.trans (hb3.mono hB3.size)
  clear n0 n1 n2 hB2 p0 p1 p2 p3 hB3 hb3 hz3 C3
  have r1 := heap_past w3 (.cells (cv (fixV V M i true) (fixM M i)) 26) _ _ q1
  have r2 := heap_past w3 (.cells (cv (fixV V M i true) (fixM M i)) 26) _ _ q2
  have r3 := heap_past w3 (.cells (cv (fixV V M i true) (fixM M i)) 26) _ _ q3
  have r4 := heap_new w3 (.cells (cv (fixV V M i true) (fixM M i)) 26) _ rfl
  have hB5 := hB4.alloc (by omega) (.cells (cv (fixV V M i true) (fixM M i)) 26)
  obtain ⟨W, hW⟩ : ∃ W, W = w3.alloc (.cells (cv (fixV V M i true) (fixM M i)) 26) := ⟨_, rfl⟩
  go_wp2_with (first
    | (refine wl_storeC rfl _ _ rfl w3.heap.size (fixV V M i true) (fixM M i) rfl rfl _ (heap_new _ _ _ rfl) rfl hBl hFl _ (setRow_new _ _ _ _ _ rfl) ?_))
  rw [← hW] at r1 r2 r3 r4 hB5 ⊢
  clear hW q1 q2 q3 hB4
  have s1 := heap_drew r1
  have s2 := heap_drew r2
  have s3 := heap_drew r3
  have s4 := heap_drew r4
  have hB6 := hB5.drew
  clear r1 r2 r3 r4 hB5
  have h1 := (setRow_heap _ _ _ (cv (fixV V M i false) (fixM M i)) _ _ s1)
  have h2 := (setRow_other _ (w.heap.size + 1) (w.heap.size + 2) (cv (fixV V M i false) (fixM M i)) (by omega)).trans s2
  have h4 := (setRow_other _ (w.heap.size + 1) w3.heap.size (cv (fixV V M i false) (fixM M i)) (by omega)).trans s4
  have k1 := (setRow_other _ (w.heap.size + 2) (w.heap.size + 1) (cv (fixV V M i true) (fixM M i)) (by omega)).trans h1
  have k2 := (setRow_heap _ _ _ (cv (fixV V M i true) (fixM M i)) _ _ h2)
  refine wp_region_two (v0 := .agg (cv (fixV V M i false) (fixM M i))) (v1 := .agg (cv (fixV V M i true) (fixM M i))) (w' := W.drew.setRow (w.heap.size + 1) (cv (fixV V M i false) (fixM M i))) (by kernel_rfl) (by kernel_rfl) rfl rfl rfl rfl
    (run_loadC _ _ _ _ rfl w2.heap.size rfl _ _ s3 hAl hFl) (run_loadC _ _ _ _ rfl w2.heap.size rfl _ _ s3 hAl hFl) (run_loadC _ _ _ _ rfl w3.heap.size rfl _ _ s4 hBl hFl) (run_loadC _ _ _ _ rfl w3.heap.size rfl _ _ s4 hBl hFl) (run_loadC _ _ _ _ rfl w3.heap.size rfl _ _ h4 hBl hFl)
    (run_storeC _ _ _ _ _ rfl (w.heap.size + 1) _ _ rfl rfl _ s1 rfl hAl hFl) (run_storeC _ _ _ _ _ rfl (w.heap.size + 1) _ _ rfl rfl _ s1 rfl hAl hFl) rfl ?_
  simp only [Act.put, List.setIfInBounds_toArray, List.set_cons_succ, List.set_cons_zero]
  go_wp2_with (first
    | (refine wl_storeC rfl _ _ rfl (w.heap.size + 2) _ _ rfl rfl _ h2 rfl hBl hFl _ rfl ?_))
  refine retCCe (p := 4) (q := 5) (u := 6) rfl rfl (w.heap.size + 1) (w.heap.size + 2) rfl rfl _ _ _ _ hAl hFl hBl hFl k1 k2 _ rfl ⟨rfl, ?_⟩
  exact below_setRow (below_setRow hB6 (by omega) _) (by omega) _
end Go.Proofs.Ytbhnjhiecoapbaa
namespace Go.Proofs.Ytbhnjhiecoapbaa
open Go Go.RowKit
set_option maxRecDepth 20000

/-- How many bits of a byte are one. -/
def ones (x : Int) : Int := ((List.range 8).filter fun j => yb x j).length

theorem ones_fin : ∀ n : Fin 256, ones (n.val : Int) = (Lib.onesCount n.val : Int) := by decide +kernel
theorem ones_bd : ∀ n : Fin 256, 0 ≤ ones (n.val : Int) ∧ ones (n.val : Int) ≤ 8 := by decide +kernel
theorem ones_le (x : Int) (h0 : 0 ≤ x) (h1 : x < 256) : 0 ≤ ones x ∧ ones x ≤ 8 := by
  have := ones_bd ⟨x.toNat, by omega⟩
  simpa only [Int.toNat_of_nonneg h0] using this

theorem run_idx (L : List Int) (hL : L.length = 13) (k : Nat) (hk : k < 13) (w : World) : (Instr.index 24 (.agg (hv L)) (.int .i64 (k : Int))).run Try.prog w = .ok (.int .u8 (L.getD k 0)) w := by
  have hx := hv_at L hL k hk
  have hz : ∀ w, (sizeOf 5).run Try.prog w = .ok 1 w := fun w => by kernel_rfl
  simp [Instr.index, run_underlying Try.underlying24, asIntOf, go_sem, hz, hx, hk]

/-- How many of the first k bytes' bits are one. -/
def onesN (M : List Int) : Nat → Int
  | 0 => 0
  | k + 1 => onesN M k + ones (M.getD k 0)
theorem onesN_bd (M : List Int) (hM : Byt M) : ∀ k, 0 ≤ onesN M k ∧ onesN M k ≤ 8 * k
  | 0 => by simp [onesN]
  | k + 1 => by
    have := onesN_bd M hM k
    have := ones_le (M.getD k 0) (hM.2 k).1 (hM.2 k).2
    simp only [onesN]
    omega
/-- How many bits of a cube are free. -/
def free (M : List Int) : Int := ((List.range 104).filter fun i => !(bt M i)).length

theorem filter_not_len {α : Type} (p : α → Bool) (l : List α) : (l.filter fun i => !(p i)).length + (l.filter p).length = l.length := by
  induction l with
  | nil => rfl
  | cons a l ih => cases h : p a <;> simp [h] <;> omega

theorem range_add_filter (p : Nat → Bool) (n m : Nat) : ((List.range (n + m)).filter p).length = ((List.range n).filter p).length + ((List.range m).filter fun j => p (n + j)).length := by
  rw [List.range_add, List.filter_append, List.length_append, List.filter_map, List.length_map]
  rfl

theorem onesN_eq (M : List Int) : ∀ k, onesN M k = (((List.range (8 * k)).filter fun i => bt M i).length : Int)
  | 0 => rfl
  | k + 1 => by
    rw [show 8 * (k + 1) = 8 * k + 8 by omega, range_add_filter, onesN, onesN_eq M k]
    have : (fun j => bt M (8 * k + j)) = fun j => yb (M.getD ((8 * k + j) / 8) 0) ((8 * k + j) % 8) := rfl
    have e : ((List.range 8).filter fun j => bt M (8 * k + j)) = ((List.range 8).filter fun j => yb (M.getD k 0) j) := by
      apply List.filter_congr
      intro j hj
      have hj' : j < 8 := List.mem_range.1 hj
      unfold bt
      rw [show (8 * k + j) / 8 = k by omega, show (8 * k + j) % 8 = j by omega]
    rw [e]
    unfold ones
    push_cast
    rfl
theorem free_eq (M : List Int) : 104 - onesN M 13 = free M := by
  rw [onesN_eq, show 8 * 13 = 104 from rfl]
  unfold free
  have := filter_not_len (fun i => bt M i) (List.range 104)
  rw [List.length_range] at this
  omega

end Go.Proofs.Ytbhnjhiecoapbaa
namespace Go.Proofs.Ytbhnjhiecoapbaa
open Go Go.RowKit
set_option maxRecDepth 20000

/-- The letter of a bit. -/
def letter (V M : List Int) (i : Nat) : UInt8 := if bt M i then (if bt V i then 49 else 48) else 42
def txt (V M : List Int) : List UInt8 := (List.range 104).map (letter V M)

/-- Bytes as cells. -/
def bv (L : List UInt8) : Array Value := (L.map fun b => Value.int .u8 (b.toNat : Int)).toArray

theorem bv_size (L : List UInt8) : (bv L).size = L.length := by simp [bv]
theorem bv_at (L : List UInt8) (k : Nat) (hk : k < L.length) : (bv L)[k]? = some (.int .u8 ((L.getD k 0).toNat : Int)) := by
  unfold bv
  simp [List.getElem?_eq_getElem hk, List.getD]
theorem bv_set (L : List UInt8) (k : Nat) (b : UInt8) : (bv L).setIfInBounds k (.int .u8 (b.toNat : Int)) = bv (L.set k b) := by
  unfold bv
  rw [List.setIfInBounds_toArray, ← List.map_set]
theorem bset_getD (L : List UInt8) (j k : Nat) (v : UInt8) (hj : j < L.length) : (L.set j v).getD k 0 = if j = k then v else L.getD k 0 := by
  simp only [List.getD, List.getElem?_set]
  by_cases h : j = k
  · subst h; simp [hj]
  · simp [h]

theorem text_step (V M : List Int) (L : List UInt8) (k : Nat) (hL : L.length = 104) (hk : k < 104) (h : ∀ j, j < k → L.getD j 0 = letter V M j) (b : UInt8) (hb : b = letter V M k) : ∀ j, j < k + 1 → (L.set k b).getD j 0 = letter V M j := fun j hj => by
  rw [bset_getD _ _ _ _ (by omega)]
  by_cases e : k = j
  · subst e; rw [if_pos rfl, hb]
  · rw [if_neg e]; exact h j (by omega)

end Go.Proofs.Ytbhnjhiecoapbaa
namespace Go.Proofs.Ytbhnjhiecoapbaa
open Go Go.RowKit
set_option maxRecDepth 20000

theorem fold_get (off : Nat) : ∀ (xs : List Value) (n : Nat) (cells : Array Value) (k : Nat), off + n + xs.length ≤ cells.size →
    ((xs.zipIdx n).foldl (fun cs (x : Value × Nat) => cs.setIfInBounds (off + x.2) x.1) cells)[k]? = if off + n ≤ k ∧ k < off + n + xs.length then xs[k - (off + n)]? else cells[k]?
  | [], n, cells, k, _ => by
    simp only [List.zipIdx_nil, List.foldl_nil, List.length_nil, Nat.add_zero]
    rw [if_neg (by omega)]
  | x :: xs, n, cells, k, h => by
    simp only [List.length_cons] at h
    rw [List.zipIdx_cons, List.foldl_cons, fold_get off xs (n + 1) _ k (by simp; omega)]
    simp only [List.length_cons]
    by_cases h1 : off + (n + 1) ≤ k ∧ k < off + (n + 1) + xs.length
    · rw [if_pos h1, if_pos (by omega), show k - (off + n) = (k - (off + (n + 1))) + 1 by omega, List.getElem?_cons_succ]
    · rw [if_neg h1]
      by_cases h2 : k = off + n
      · subst h2
        rw [if_pos (by omega), Nat.sub_self, List.getElem?_cons_zero, Array.getElem?_setIfInBounds_self_of_lt (by omega)]
      · rw [if_neg (by omega), Array.getElem?_setIfInBounds_ne (by omega)]

theorem fold_all (xs cells : Array Value) (h : xs.size = cells.size) : xs.zipIdx.foldl (fun cs (x : Value × Nat) => cs.setIfInBounds (0 + x.2) x.1) cells = xs := by
  have e : xs.zipIdx.foldl (fun cs (x : Value × Nat) => cs.setIfInBounds (0 + x.2) x.1) cells = (xs.toList.zipIdx 0).foldl (fun cs (x : Value × Nat) => cs.setIfInBounds (0 + x.2) x.1) cells := by
    rw [← Array.foldl_toList]; simp
  rw [e]
  apply Array.ext_getElem?
  intro k
  rw [fold_get 0 xs.toList 0 cells k (by simp; omega)]
  by_cases hk : k < xs.size
  · rw [if_pos (by simp; omega)]; simp
  · rw [if_neg (by simp; omega), Array.getElem?_eq_none (by omega), Array.getElem?_eq_none (by omega)]

theorem infoC : ∃ i, Try.prog.info? 26 = some i ∧ i.zero = some (.agg zeroC) ∧ i.size = 26 ∧ i.bytes = 26 := by
  cases h : Try.prog.info? 26 with
  | none => exact absurd (show (Try.prog.info? 26).isSome = true by kernel_rfl) (by rw [h]; simp)
  | some i =>
    have h1 : (Try.prog.info? 26).map (fun i => (i.zero, i.size, i.bytes)) = some (some (.agg zeroC), 26, 26) := by kernel_rfl
    rw [h] at h1
    simp only [Option.map_some, Option.some.injEq, Prod.mk.injEq] at h1
    exact ⟨i, rfl, h1.1, h1.2.1, h1.2.2⟩

/-- The cells of a list of cubes. -/
def ccells (C : List (List Int × List Int)) : List Value := C.flatMap fun c => (cv c.1 c.2).toList
theorem ccells_append (C D : List (List Int × List Int)) : ccells (C ++ D) = ccells C ++ ccells D := by simp [ccells]
theorem ccells_one (V M : List Int) : ccells [(V, M)] = (cv V M).toList := by simp [ccells]

theorem cells_new (w : World) (cs : Array Value) (t : TypeId) : ∀ j u, cs.toList[j]? = some u → (w.alloc (.cells cs t)).cell? ((⟨w.heap.size, 0, none⟩ : Addr).add j) = some u := fun j u hu => by
  have hadd : (⟨w.heap.size, 0, none⟩ : Addr).add j = ⟨w.heap.size, j, none⟩ := by unfold Addr.add; split <;> simp_all
  rw [hadd, cell_of_row _ _ _ _ _ _ (heap_new w _ _ rfl)]
  simpa using hu

theorem own_below {w w' : World} {B : Nat} {e : TypeId} {s : Nat} {v : Value} {n : Nat} {xs : List Value} (h : w.ownsRow B e s v n xs) (hb : Below w.heap.size w w') : w'.ownsRow B e s v n xs := by
  obtain ⟨h1, h2 | ⟨g, cap, cur, rfl, hB, hcur, h3⟩⟩ := h
  · exact ⟨h1, .inl h2⟩
  · exact ⟨h1, .inr ⟨g, cap, cur, rfl, hB, (hb.block g (Array.getElem?_eq_some_iff.1 hcur).1).trans hcur, h3⟩⟩
theorem own_setRow {w : World} {B : Nat} {e : TypeId} {s : Nat} {v : Value} {n : Nat} {xs : List Value} (h : w.ownsRow B e s v n xs) (g : Nat) (hg : g < B) (cs : Array Value) : (w.setRow g cs).ownsRow B e s v n xs := by
  obtain ⟨h1, h2 | ⟨g', cap, cur, rfl, hB, hcur, h3⟩⟩ := h
  · exact ⟨h1, .inl h2⟩
  · exact ⟨h1, .inr ⟨g', cap, cur, rfl, hB, (setRow_other _ _ _ _ (by omega)).trans hcur, h3⟩⟩
theorem own_base {w : World} {B B' : Nat} {e : TypeId} {s : Nat} {v : Value} {n : Nat} {xs : List Value} (h : w.ownsRow B e s v n xs) (hB' : B' ≤ B) : w.ownsRow B' e s v n xs := by
  obtain ⟨h1, h2 | ⟨g', cap, cur, rfl, hB, h3⟩⟩ := h
  · exact ⟨h1, .inl h2⟩
  · exact ⟨h1, .inr ⟨g', cap, cur, rfl, by omega, h3⟩⟩
end Go.Proofs.Ytbhnjhiecoapbaa
namespace Go.Proofs.Ytbhnjhiecoapbaa
open Go Go.RowKit
set_option maxRecDepth 20000

/-- What the loop of Minus lays, from a bit on. -/
def mGo (bV bM : List Int) : Nat → Nat → List Int → List Int → List (List Int × List Int)
  | 0, _, _, _ => []
  | f + 1, i, V, M => if (V == bV && M == bM) = true then [] else if bt M i = true ∨ bt bM i = false then mGo bV bM f (i + 1) V M else (fixV V M i (!(bt bV i)), fixM M i) :: mGo bV bM f (i + 1) (fixV V M i (bt bV i)) (fixM M i)
/-- What Minus answers. -/
def minusC (V M V' M' : List Int) : List (List Int × List Int) :=
  if meets V M V' M' = true then mGo (meetV V M V' M') (meetM M M') 104 0 (can V M) M else [(can V M, M)]

theorem minusC_no (V M V' M' : List Int) (h : meets V M V' M' = false) : minusC V M V' M' = [(can V M, M)] := by unfold minusC; rw [h]; rfl
theorem minusC_yes (V M V' M' : List Int) (h : meets V M V' M' = true) : minusC V M V' M' = mGo (meetV V M V' M') (meetM M M') 104 0 (can V M) M := by unfold minusC; rw [if_pos h]

/-- A goal at which the walk stands still. -/
def Stopped (p : Prop) : Prop := p
theorem of_stopped {p : Prop} (h : Stopped p) : p := h

theorem mGo_stop (bV bM : List Int) (f i : Nat) (V M : List Int) (h : (V == bV && M == bM) = true) : mGo bV bM f i V M = [] := by
  cases f
  · rfl
  · unfold mGo; rw [if_pos h]
theorem mGo_pass (bV bM : List Int) (f i : Nat) (V M : List Int) (h : (V == bV && M == bM) = false) (h2 : bt M i = true ∨ bt bM i = false) : mGo bV bM (f + 1) i V M = mGo bV bM f (i + 1) V M := by
  rw [mGo, if_neg (by rw [h]; decide), if_pos h2]
theorem mGo_cut (bV bM : List Int) (f i : Nat) (V M : List Int) (h : (V == bV && M == bM) = false) (h2 : bt M i = false) (h3 : bt bM i = true) : mGo bV bM (f + 1) i V M = (fixV V M i (!(bt bV i)), fixM M i) :: mGo bV bM f (i + 1) (fixV V M i (bt bV i)) (fixM M i) := by
  rw [mGo, if_neg (by rw [h]; decide), if_neg (by rw [h2, h3]; simp)]

theorem fixV_byt (V M : List Int) (i : Nat) (b : Bool) : Byt (fixV V M i b) := setb_byt _ _ _
theorem fixM_byt (M : List Int) (i : Nat) : Byt (fixM M i) := setb_byt _ _ _

end Go.Proofs.Ytbhnjhiecoapbaa
namespace Go.Proofs.Ytbhnjhiecoapbaa
open Go Go.RowKit
set_option maxRecDepth 20000

/-- A cube that lies within a block, from a place on. -/
theorem load_cube (w : World) (g off : Nat) (cs : Array Value) (t : TypeId) (fr : Nat × Nat) (V M : List Int) (hV : V.length = 13) (hM : M.length = 13) (hg : w.heap[g]? = some (.cells cs t fr)) (hc : ∀ j, j < 26 → cs[off + j]? = (cv V M)[j]?) :
    (loadVar 26 ⟨g, off, none⟩).run Try.prog w = .ok (.agg (cv V M)) w := by
  have hsz := cv_size V M hV hM
  have hl : (loadCells ⟨g, off, none⟩ (cv V M).toList.length).run Try.prog w = .ok (cv V M).toList.toArray w :=
    run_loadCells_list (P := Try.prog) w ⟨g, off, none⟩ (cv V M).toList (fun j v hv => by
      have hadd : (⟨g, off, none⟩ : Addr).add j = ⟨g, off + j, none⟩ := by unfold Addr.add; split <;> simp_all
      have hj : j < 26 := by
        have := (List.getElem?_eq_some_iff.1 hv).1
        simpa [hsz] using this
      rw [hadd, cell_of_row w g (off + j) cs t fr hg, hc j hj]
      simpa using hv)
  obtain ⟨i, hq, _, hs, _⟩ := infoC
  have hagg : (isAgg 26).run Try.prog w = .ok true w := by
    unfold isAgg
    rw [Sem.run_bind, run_underlying Try.underlying26 w]
    rfl
  rw [Array.length_toList, hsz, Array.toArray_toList] at hl
  simp [loadVar, Sem.run_bind, hagg, sizeOf, typeInfo, hq, hs, hl]
theorem wl_loadCat {ops : Array Oper} {rest : List Oper} {o : Oper} {a : Act} {w : World} {Q : Exit → Act → World → Prop} (hw : Region.wanted o (yielded ops a.tmps) = true) (x : Operand) (ho : o.op = .load 26 x)
    (g off : Nat) (hx : a.eval x = .pointer (some ⟨g, off, none⟩)) (cs : Array Value) (t : TypeId) (fr : Nat × Nat) (V M : List Int) (hV : V.length = 13) (hM : M.length = 13) (hg : w.heap[g]? = some (.cells cs t fr)) (hc : ∀ j, j < 26 → cs[off + j]? = (cv V M)[j]?)
    (h : wpList Try.prog ops Q rest (a.put o.dst (.agg (cv V M))) w) : wpList Try.prog ops Q (o :: rest) a w := by
  refine wpList_step fun K hK => ?_
  rw [if_pos hw]
  unfold Oper.wp execOp
  simp only [ho, hx, Instr.loadAt, Instr.sureAddr, Sem.run_bind, Sem.run_pure, Result.andThen_ok, load_cube w g off cs t fr V M hV hM hg hc]
  exact hK _ _ h

def m128 : List Int := [128, 0, 0, 0, 0, 0, 0, 0, 0, 0, 0, 0, 0]
def m64 : List Int := [64, 0, 0, 0, 0, 0, 0, 0, 0, 0, 0, 0, 0]
def m192 : List Int := [192, 0, 0, 0, 0, 0, 0, 0, 0, 0, 0, 0, 0]
def m0 : List Int := [0, 0, 0, 0, 0, 0, 0, 0, 0, 0, 0, 0, 0]
theorem Z_m0 : Z = m0 := Z_eq
theorem byt_of (L : List Int) (h1 : L.length = 13) (h2 : ∀ x ∈ L, 0 ≤ x ∧ x < 256) : Byt L := by
  refine ⟨h1, fun k => ?_⟩
  rcases Nat.lt_or_ge k 13 with h | h
  · rw [List.getD, List.getElem?_eq_getElem (by omega)]; exact h2 _ (List.getElem_mem _)
  · rw [List.getD, List.getElem?_eq_none (by omega)]; decide
theorem b128 : Byt m128 := byt_of _ rfl (by decide)
theorem b64 : Byt m64 := byt_of _ rfl (by decide)
theorem b192 : Byt m192 := byt_of _ rfl (by decide)
theorem b0 : Byt m0 := byt_of _ rfl (by decide)

theorem ex1 : fixV m0 m0 0 false = m0 := by kernel_rfl
theorem ex2 : fixM m0 0 = m128 := by kernel_rfl
theorem ex3 : fixV m0 m0 1 true = m64 := by kernel_rfl
theorem ex4 : fixM m0 1 = m64 := by kernel_rfl
theorem ex5 : meets m0 m128 m64 m64 = true := by kernel_rfl
theorem ex6 : meetV m0 m128 m64 m64 = m64 := by kernel_rfl
theorem ex7 : meetM m128 m64 = m192 := by kernel_rfl
theorem ex8 : bt m128 0 = true := by kernel_rfl
theorem ex9 : meets m0 m0 m64 m192 = true := by kernel_rfl
theorem ex10 : meetV m0 m0 m64 m192 = m64 := by kernel_rfl
theorem ex11 : meetM m0 m192 = m192 := by kernel_rfl
theorem ex12 : can m0 m0 = m0 := by kernel_rfl
theorem ex13 : fixV m0 m0 0 true = m128 := by kernel_rfl
theorem ex14 : fixV m0 m128 1 false = m0 := by kernel_rfl
theorem ex15 : fixV m0 m128 1 true = m64 := by kernel_rfl
theorem ex16 : fixM m128 1 = m192 := by kernel_rfl
theorem ex17 : minusC m0 m0 m64 m192 = [(m128, m128), (m0, m192)] := by
  rw [minusC_yes _ _ _ _ ex9, ex10, ex11, ex12, mGo_cut _ _ _ _ _ _ (by kernel_rfl) (by kernel_rfl) (by kernel_rfl), show bt m64 0 = false by kernel_rfl, Bool.not_false, ex13, ex2, ex1, mGo_cut _ _ _ _ _ _ (by kernel_rfl) (by kernel_rfl) (by kernel_rfl), show bt m64 (0 + 1) = true by kernel_rfl, Bool.not_true, ex14, ex15, ex16, mGo_stop _ _ _ _ _ _ (by kernel_rfl)]
theorem ex18 : free m0 = 104 := by kernel_rfl
theorem ex19 : (txt m64 m192).take 3 = [48, 49, 42] := by kernel_rfl
theorem ex20 : (txt m0 m192).take 3 = [48, 48, 42] := by kernel_rfl
theorem txt_length (V M : List Int) : (txt V M).length = 104 := by simp [txt]

theorem all0 (w : World) : Calls Try.prog 22 #[] w fun e w' => e = .returned (.agg (cv m0 m0)) ∧ Below w.heap.size w w' := by
  have := all_any w; rwa [Z_m0] at this
theorem fixA (w : World) : Calls Try.prog 40 #[.agg (cv m0 m0), .int .i64 0, .bool false] w fun e w' => e = .returned (.tuple #[.agg (cv m0 m128), .int .i64 0]) ∧ Below w.heap.size w w' := by
  have := fix_in m0 m0 b0 b0 0 false (by decide) w; rwa [ex1, ex2] at this
theorem fixB (w : World) : Calls Try.prog 40 #[.agg (cv m0 m0), .int .i64 1, .bool true] w fun e w' => e = .returned (.tuple #[.agg (cv m64 m64), .int .i64 0]) ∧ Below w.heap.size w w' := by
  have := fix_in m0 m0 b0 b0 1 true (by decide) w; rwa [ex3, ex4] at this
theorem meetAB (w : World) : Calls Try.prog 23 #[.agg (cv m0 m128), .agg (cv m64 m64)] w fun e w' => e = .returned (.tuple #[.agg (cv m64 m192), .bool true]) ∧ Below w.heap.size w w' := by
  have := meet_any m0 m128 m64 m64 b0 b128 b64 b64 w; rwa [meetR_yes _ _ _ _ ex5, ex6, ex7] at this
theorem splitA (w : World) : Calls Try.prog 21 #[.agg (cv m0 m128), .int .i64 0] w fun e w' => e = .returned (.tuple #[.agg (cv m0 m0), .agg (cv m0 m0), .int .i64 3]) ∧ Below w.heap.size w w' := by
  have := split_fixed m0 m128 rfl b128 0 (by decide) ex8 w; rwa [Z_m0] at this
theorem take3 (T : List UInt8) : ((⟨T.toArray⟩ : ByteArray).extract 0 3).toList = T.take 3 := by
  rw [ByteArray.toList_eq, ByteArray.data_extract, Array.toList_extract]
  simp

end Go.Proofs.Ytbhnjhiecoapbaa
namespace Go.Proofs.Ytbhnjhiecoapbaa
open Go.ChangeShapes Go.WideShapes Go.ChangeAt Go.WideMaps Go.WideElems Go.RowKit
set_option maxRecDepth 20000

theorem own : ownKnob Try.prog.godebug = none := by kernel_rfl
theorem laidOut : laidOutB Try.prog = true := by kernel_rfl

theorem bytes_of {H : Type} {enc : TypeId × Value → H} {W : World} {base : Nat} {spare : Nat → Bool} {held : Bool} {fuel : Nat} {cs : List Value} {x : DataW H × List MemPlace} (hl : cs.length = 13)
    (h : DataW.trod enc Try.prog W base spare held fuel 24 cs = some x) : ∃ L : List Int, cs = L.map (Value.int .u8) ∧ Byt L := by
  have c5 : Try.prog.cellsOf 5 = 1 := by kernel_rfl
  obtain ⟨xs, m, rfl, hx, hlen, hn, hel⟩ := DataW.trod_array Try.underlying24 h
  have each : ∀ i, i < 13 → ∃ z : Int, cs[i]? = some (.int .u8 z) ∧ 0 ≤ z ∧ z < 256 := fun i hi => by
    have h1 := hel i hi
    rw [List.getElem?_eq_getElem (show i < xs.length by omega), c5, Nat.mul_one] at h1
    obtain ⟨z, ez, _, wz⟩ := DataW.trod_int Try.underlying5 h1
    refine ⟨z, ?_, ?_⟩
    · have := congrArg (·[0]?) ez
      simpa [List.getElem?_take, List.getElem?_drop] using this
    · have := bounds_u8 wz
      omega
  refine ⟨cs.map intOf, ?_, by simp [hl], fun k => ?_⟩
  · apply List.ext_getElem?
    intro k
    rcases Nat.lt_or_ge k 13 with hk | hk
    · obtain ⟨z, hz, _⟩ := each k hk
      simp only [List.getElem?_map, hz]
      rfl
    · rw [List.getElem?_eq_none (by omega), List.getElem?_eq_none (by simpa [hl] using hk)]
  · rcases Nat.lt_or_ge k 13 with hk | hk
    · obtain ⟨z, hz, hb⟩ := each k hk
      rw [List.getD, List.getElem?_map, hz]
      exact hb
    · rw [List.getD, List.getElem?_eq_none (by simpa [hl] using hk)]
      decide

/-- A header that comes in: thirteen bytes. -/
theorem open_head {H : Type} {enc : TypeId × Value → H} {W : World} {r : Reach} {b0 base : Nat} {spare : Nat → Bool} {held : Bool} {v : Value} {d : DataW H} {p : List MemPlace}
    (hok : Value.okWide Try.prog W r b0 24 v) (h : DataW.Trod enc Try.prog W base spare held 24 v d p) :
    ∃ L : List Int, v = .agg (hv L) ∧ Byt L := by
  have c : Try.prog.cellsOf 24 = 13 := by kernel_rfl
  simp only [Value.okWide, Try.underlying24] at hok
  obtain ⟨cs, rfl, hsz, _⟩ := hok
  obtain ⟨fuel, hf⟩ := h
  obtain ⟨L, hL, hb⟩ := bytes_of (by simp only [Value.cells, Array.length_toList]; rw [hsz, c]) hf
  refine ⟨L, ?_, hb⟩
  unfold hv
  rw [← hL]
  simp [Value.cells]

/-- A cube that comes in. -/
theorem open_cube {H : Type} {enc : TypeId × Value → H} {W : World} {r : Reach} {b0 base : Nat} {spare : Nat → Bool} {held : Bool} {v : Value} {d : DataW H} {p : List MemPlace}
    (hok : Value.okWide Try.prog W r b0 26 v) (h : DataW.Trod enc Try.prog W base spare held 26 v d p) :
    ∃ V M : List Int, v = .agg (cv V M) ∧ Byt V ∧ Byt M := by
  have c : Try.prog.cellsOf 26 = 26 := by kernel_rfl
  have c13 : Try.prog.cellsOf 24 = 13 := by kernel_rfl
  simp only [Value.okWide, Try.underlying26] at hok
  obtain ⟨cs, rfl, hsz, _⟩ := hok
  rw [c] at hsz
  obtain ⟨fuel, hf⟩ := h
  obtain ⟨y0, y1, k, hy, _, t0, t1⟩ := trod_struct2 Try.underlying26 hf
  simp only [Value.cells] at t0 t1
  rw [c13] at t0 t1
  obtain ⟨V, hV, bV⟩ := bytes_of (by simp; omega) t0
  obtain ⟨M, hM, bM⟩ := bytes_of (by simp; omega) t1
  refine ⟨V, M, ?_, bV, bM⟩
  congr 1
  unfold cv hv
  rw [List.map_append, ← hV, ← hM]
  apply Array.ext'
  simp only [List.drop_zero]
  rw [List.take_of_length_le (l := List.drop 13 cs.toList) (by simp; omega), List.take_append_drop]
end Go.Proofs.Ytbhnjhiecoapbaa
namespace Go.Proofs.Ytbhnjhiecoapbaa
open Go.ChangeShapes Go.WideShapes Go.ChangeAt Go.WideMaps Go.WideElems Go.RowKit
set_option maxRecDepth 20000

theorem ownK : ownKnob Try.prog.godebug = none := by kernel_rfl
theorem laidK : laidOutB Try.prog = true := by kernel_rfl
end Go.Proofs.Ytbhnjhiecoapbaa
