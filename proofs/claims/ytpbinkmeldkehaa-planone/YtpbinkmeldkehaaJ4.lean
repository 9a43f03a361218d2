import Derived.Test.YtpbinkmeldkehaaJ3
import Derived.Lib.BitFns
import Derived.Great.BuildSlice
import Derived.Laws.AppendOwn
import Derived.Laws.OwnMore
import Derived.WalkMore
import Derived.Test.YtpbinkmeldkehaaRows
import Derived.ProofKit
import Derived.OpenShut
import Derived.Carry
import Derived.Test.YtpbinkmeldkehaaProg
import Derived.Test.YtpbinkmeldkehaaJ1
import Derived.Maps.AppendAt
namespace Go.Proofs.Ytpbinkmeldkehaa
open Go Go.RowKit
set_option maxRecDepth 20000

/-- Two reads, then two stores; the second read may come behind the first store. -/
def twoB (ops : Array Oper) (n : Nat) : Bool :=
  let l := Array.replicate ops.size false
  decide (Region.ready .any ops l = [0, 1]) && decide (Region.ready .any ops (l.setIfInBounds 0 true) = [1, 2]) && decide (Region.ready .any ops (l.setIfInBounds 1 true) = [0]) &&
  decide (Region.ready .any ops ((l.setIfInBounds 0 true).setIfInBounds 1 true) = [2]) && decide (Region.ready .any ops ((l.setIfInBounds 0 true).setIfInBounds 2 true) = [1]) &&
  Region.seqB .any ops n 3 (((l.setIfInBounds 0 true).setIfInBounds 1 true).setIfInBounds 2 true) && decide (ops.size = n + 3)

theorem any_step {P : Program} {md : Region.Mode} {ops : Array Oper} {Q : Exit → Act → World → Prop} {fuel : Nat} {listed : Array Bool} {a : Act} {w : World} (rs : List Nat) (hr : Region.ready md ops listed = rs) (hne : rs ≠ [])
    (h : ∀ i ∈ rs, wpOp P ops Q i (wpAny P md ops Q fuel (listed.setIfInBounds i true)) a w) : wpAny P md ops Q (fuel + 1) listed a w :=
  ⟨fun h0 => absurd (hr.symm.trans h0) hne, fun i hi => h i (hr ▸ hi)⟩
theorem wpOp_value {P : Program} {ops : Array Oper} {Q : Exit → Act → World → Prop} {i : Nat} {o : Oper} {K : Act → World → Prop} {a : Act} {w w' : World} {v : Value} (hi : ops[i]? = some o) (hg : o.guard = none) (hr : (execOp a.eval o).run P w = .ok (.value v) w') (h : K (a.put o.dst v) w') : wpOp P ops Q i K a w := by
  have hw : Region.wanted o (yielded ops a.tmps) = true := by unfold Region.wanted; rw [hg]
  unfold Go.wpOp
  simp only [hi, hw, if_true]
  left
  unfold Oper.wp
  rw [hr]
  exact h
theorem wpOp_skip {P : Program} {ops : Array Oper} {Q : Exit → Act → World → Prop} {i : Nat} {o : Oper} {K : Act → World → Prop} {a : Act} {w w' : World} (hi : ops[i]? = some o) (hg : o.guard = none) (hr : (execOp a.eval o).run P w = .ok .skip w') (h : K (a.put o.dst undef) w') : wpOp P ops Q i K a w := by
  have hw : Region.wanted o (yielded ops a.tmps) = true := by unfold Region.wanted; rw [hg]
  unfold Go.wpOp
  simp only [hi, hw, if_true]
  left
  unfold Oper.wp
  rw [hr]
  exact h

theorem wp_region_two {P : Program} {id : Nat} {Q : Exit → Act → World → Prop} {a : Act} {w w' : World} {o0 o1 o2 : Oper} {rest : List Oper} {v0 v1 : Value} (hm : P.follows .mixedOrders = true)
    (hB : twoB (o0 :: o1 :: o2 :: rest).toArray rest.length = true) (q0 : o0.guard = none) (q1 : o1.guard = none) (q2 : o2.guard = none) (q3 : o2.dst = none)
    (e0 : (execOp a.eval o0).run P w.drew = .ok (.value v0) w.drew) (e0' : (execOp (a.put o1.dst v1).eval o0).run P w.drew = .ok (.value v0) w.drew)
    (e1 : (execOp a.eval o1).run P w.drew = .ok (.value v1) w.drew) (e1a : (execOp (a.put o0.dst v0).eval o1).run P w.drew = .ok (.value v1) w.drew) (e1b : (execOp (a.put o0.dst v0).eval o1).run P w' = .ok (.value v1) w')
    (e2 : (execOp (a.put o0.dst v0).eval o2).run P w.drew = .ok .skip w') (e2a : (execOp ((a.put o0.dst v0).put o1.dst v1).eval o2).run P w.drew = .ok .skip w')
    (comm : (a.put o1.dst v1).put o0.dst v0 = (a.put o0.dst v0).put o1.dst v1)
    (h : wpList P (o0 :: o1 :: o2 :: rest).toArray Q rest ((a.put o0.dst v0).put o1.dst v1) w') : (Code.region id (o0 :: o1 :: o2 :: rest).toArray true).wp P Q a w := by
  simp only [twoB, Bool.and_eq_true, decide_eq_true_eq] at hB
  obtain ⟨⟨⟨⟨⟨⟨r0, r1⟩, r2⟩, r3⟩, r4⟩, hq⟩, hsz⟩ := hB
  have pn : ∀ (b : Act) (v : Value), b.put none v = b := fun b v => rfl
  have fin : wpAny P .any (o0 :: o1 :: o2 :: rest).toArray Q rest.length ((((Array.replicate (o0 :: o1 :: o2 :: rest).toArray.size false).setIfInBounds 0 true).setIfInBounds 1 true).setIfInBounds 2 true) ((a.put o0.dst v0).put o1.dst v1) w' :=
    wpAny_of_seq rest 3 _ _ w' (fun j => by simp [Nat.add_comm 3 j]) hq h
  refine wp_region_any hm ?_
  rw [hsz]
  refine any_step [0, 1] r0 (by simp) fun i hi => ?_
  simp only [List.mem_cons, List.not_mem_nil, or_false] at hi
  rcases hi with rfl | rfl
  · refine wpOp_value (o := o0) (by simp) q0 e0 (any_step [1, 2] r1 (by simp) fun i hi => ?_)
    simp only [List.mem_cons, List.not_mem_nil, or_false] at hi
    rcases hi with rfl | rfl
    · refine wpOp_value (o := o1) (by simp) q1 e1a (any_step [2] r3 (by simp) fun i hi => ?_)
      simp only [List.mem_cons, List.not_mem_nil, or_false] at hi
      subst hi
      refine wpOp_skip (o := o2) (by simp) q2 e2a ?_
      rw [q3, pn]
      exact fin
    · refine wpOp_skip (o := o2) (by simp) q2 e2 ?_
      rw [q3, pn]
      refine any_step [1] r4 (by simp) fun i hi => ?_
      simp only [List.mem_cons, List.not_mem_nil, or_false] at hi
      subst hi
      refine wpOp_value (o := o1) (by simp) q1 e1b ?_
      rw [Array.setIfInBounds_comm _ _ (by decide : (2 : Nat) ≠ 1)]
      exact fin
  · refine wpOp_value (o := o1) (by simp) q1 e1 (any_step [0] r2 (by simp) fun i hi => ?_)
    simp only [List.mem_cons, List.not_mem_nil, or_false] at hi
    subst hi
    refine wpOp_value (o := o0) (by simp) q0 e0' ?_
    rw [comm, Array.setIfInBounds_comm _ _ (by decide : (1 : Nat) ≠ 0)]
    refine any_step [2] r3 (by simp) fun i hi => ?_
    simp only [List.mem_cons, List.not_mem_nil, or_false] at hi
    subst hi
    refine wpOp_skip (o := o2) (by simp) q2 e2a ?_
    rw [q3, pn]
    exact fin

theorem run_store_row (a : Act) (o : Oper) (w : World) (ty : TypeId) (x y : Operand) (ho : o.op = .store ty x y) (g : Nat) (cells : Array Value) (hx : a.eval x = .pointer (some ⟨g, 0, none⟩)) (hy : a.eval y = .agg cells) (t : TypeId) (old : Array Value) (hg : w.heap[g]? = some (.cells old t (0, 0)))
    (hi : (Try.prog.info? ty).map (·.size) = some cells.size) (hold : old.size = cells.size) (h1 : cells.all (·.oneCell') = true) : (execOp a.eval o).run Try.prog w = .ok .skip (w.setRow g cells) := by
  unfold execOp
  simp only [ho, hx, hy, Instr.storeAt, Instr.sureAddr, Sem.run_bind, Sem.run_pure, Result.andThen_ok, run_storeVar_row w g t ty old cells hg hi hold h1]
theorem run_loadC (a : Act) (o : Oper) (w : World) (x : Operand) (ho : o.op = .load 42 x) (g : Nat) (hx : a.eval x = .pointer (some ⟨g, 0, none⟩)) (V M : List Int) (hg : w.heap[g]? = some (.cells (cv V M) 42 (0, 0))) (hV : V.length = 13) (hM : M.length = 13) : (execOp a.eval o).run Try.prog w = .ok (.value (.agg (cv V M))) w :=
  by
  unfold execOp
  simp only [ho, hx, Instr.loadAt, Instr.sureAddr, Sem.run_bind, Sem.run_pure, Result.andThen_ok, run_loadVar_row w g _ _ (cv V M) (0, 0) _ hg Try.underlying42 rfl (sizeC V M hV hM)]
theorem run_storeC (a : Act) (o : Oper) (w : World) (x y : Operand) (ho : o.op = .store 42 x y) (g : Nat) (V M : List Int) (hx : a.eval x = .pointer (some ⟨g, 0, none⟩)) (hy : a.eval y = .agg (cv V M)) (old : Array Value) (hg : w.heap[g]? = some (.cells old 42 (0, 0))) (hold : old.size = 26) (hV : V.length = 13) (hM : M.length = 13) : (execOp a.eval o).run Try.prog w = .ok .skip (w.setRow g (cv V M)) :=
  run_store_row a o w _ x y ho g _ hx hy _ old hg (sizeC V M hV hM) (by rw [cv_size V M hV hM, hold]) (cv_one V M)
end Go.Proofs.Ytpbinkmeldkehaa
namespace Go.Proofs.Ytpbinkmeldkehaa
open Go Go.RowKit
set_option maxRecDepth 20000

/-- The end of a function whose results are two cubes in memory, and a plain one. -/
theorem retCCe {fn : Func} {R : Ending → World → Prop} {a : Act} {w : World} {p q u : Tmp} (hr : fn.results = #[.cell p 42, .cell q 42, .tmp u]) (hd : a.defers = []) (g g' : Nat) (hp : a.tmps.getD p undef = .pointer (some ⟨g, 0, none⟩)) (hq : a.tmps.getD q undef = .pointer (some ⟨g', 0, none⟩)) (V M V' M' : List Int) (hV : V.length = 13) (hM : M.length = 13) (hV' : V'.length = 13) (hM' : M'.length = 13)
    (hg : w.heap[g]? = some (.cells (cv V M) 42 (0, 0))) (hg' : w.heap[g']? = some (.cells (cv V' M') 42 (0, 0))) (v : Value) (hu : a.tmps.getD u undef = v) (h : R (.returned (.tuple #[.agg (cv V M), .agg (cv V' M'), v])) w) : bodyPost Try.prog fn R .ret a w := by
  refine bodyPost_ret (v := .tuple #[.agg (cv V M), .agg (cv V' M'), v]) ?_ hd h
  simp only [results, hr]
  have hp' : a.tmps[p]?.getD undef = .pointer (some ⟨g, 0, none⟩) := by simpa using hp
  have hq' : a.tmps[q]?.getD undef = .pointer (some ⟨g', 0, none⟩) := by simpa using hq
  have hu' : a.tmps[u]?.getD undef = v := by simpa using hu
  simp [Sem.run_bind, hp', hq', hu', asAddr, run_loadVar_row w g 42 42 (cv V M) (0, 0) _ hg Try.underlying42 rfl (sizeC V M hV hM), run_loadVar_row w g' 42 42 (cv V' M') (0, 0) _ hg' Try.underlying42 rfl (sizeC V' M' hV' hM')]

set_option maxHeartbeats 2000000 in
/-- The bit is fixed. -/
theorem split_fixed (V M : List Int) (hVl : V.length = 13) (hM : Byt M) (i : Nat) (hi : i < 104) (h : bt M i = true) (w : World) :
    Calls Try.prog 47 #[.agg (cv V M), .int .i64 (i : Int)] w fun e w' => e = .returned (.tuple #[.agg (cv Z Z), .agg (cv Z Z), .int .i64 3]) ∧ Below w.heap.size w w' := by
  have hMl := hM.1
  have C1 : Hid (∀ W, Calls Try.prog 64 #[.agg (hv M), .int .i64 (i : Int)] W fun e w' => e = .returned (.bool true) ∧ Below W.heap.size W w') := by
    have := hbit_nat M hM i hi; rwa [h] at this
  clear hM h
  go_enter Try.func47, Try.ntmps47
  have g0 : (((w.alloc (.cells (cv V M) 42)).alloc (.cells zeroC 42)).alloc (.cells zeroC 42)).heap[w.heap.size]? = some (.cells (cv V M) 42 (0, 0)) := heap_past _ _ _ _ (heap_past _ _ _ _ (heap_new _ _ _ rfl))
  have g1 : (((w.alloc (.cells (cv V M) 42)).alloc (.cells zeroC 42)).alloc (.cells zeroC 42)).heap[w.heap.size + 1]? = some (.cells zeroC 42 (0, 0)) := heap_past _ _ _ _ (heap_new _ _ _ (by simp))
  have g2 : (((w.alloc (.cells (cv V M) 42)).alloc (.cells zeroC 42)).alloc (.cells zeroC 42)).heap[w.heap.size + 2]? = some (.cells zeroC 42 (0, 0)) := heap_new _ _ _ (by simp)
  have hb : Below w.heap.size w (((w.alloc (.cells (cv V M) 42)).alloc (.cells zeroC 42)).alloc (.cells zeroC 42)) := (((Below.refl _ _).alloc (Nat.le_refl _) _).alloc (by simp) _).alloc (by simp; omega) _
  go_wp2_with (first
    | (go_at_call 63; refine (cisBit_yes _ _ (by omega) (by omega)).mono ?_; rintro e w' ⟨rfl, rfl⟩)
    | (refine wl_loadM rfl _ rfl w.heap.size rfl V M g0 hVl hMl ?_))
  refine (C1.out _).mono ?_
  rintro e w1 ⟨rfl, hb1⟩
  have m1 : w1.heap[w.heap.size + 1]? = some (.cells zeroC 42 (0, 0)) := by rw [hb1.block _ (by simp)]; exact g1
  have m2 : w1.heap[w.heap.size + 2]? = some (.cells zeroC 42 (0, 0)) := by rw [hb1.block _ (by simp)]; exact g2
  have hB1 := hb.trans (hb1.mono hb.size)
  clear g0 g1 g2 hb hb1 C1
  have h1 := (setRow_heap _ _ _ (cv Z Z) _ _ m1)
  have h2 := (setRow_other _ (w.heap.size + 1) (w.heap.size + 2) (cv Z Z) (by omega)).trans m2
  have k1 := (setRow_other _ (w.heap.size + 2) (w.heap.size + 1) (cv Z Z) (by omega)).trans h1
  have k2 := (setRow_heap _ _ _ (cv Z Z) _ _ h2)
  go_wp2_with (first
    | (refine wl_storeC rfl _ _ rfl (w.heap.size + 1) Z Z rfl (by rw [← zeroC_eq]; rfl) _ m1 rfl Z_byt.1 Z_byt.1 _ rfl ?_)
    | (refine wl_storeC rfl _ _ rfl (w.heap.size + 2) Z Z rfl (by rw [← zeroC_eq]; rfl) _ h2 rfl Z_byt.1 Z_byt.1 _ rfl ?_))
  refine retCCe (p := 4) (q := 5) (u := 6) rfl rfl (w.heap.size + 1) (w.heap.size + 2) rfl rfl Z Z Z Z Z_byt.1 Z_byt.1 Z_byt.1 Z_byt.1 k1 k2 _ rfl ⟨rfl, ?_⟩
  exact below_setRow (below_setRow hB1 (by omega) _) (by omega) _

set_option maxHeartbeats 4000000 in
/-- The bit is free. -/
theorem split_free (V M : List Int) (hV : Byt V) (hM : Byt M) (i : Nat) (hi : i < 104) (h : bt M i = false) (w : World) :
    Calls Try.prog 47 #[.agg (cv V M), .int .i64 (i : Int)] w fun e w' => e = .returned (.tuple #[.agg (cv (fixV V M i false) (fixM M i)), .agg (cv (fixV V M i true) (fixM M i)), .int .i64 0]) ∧ Below w.heap.size w w' := by
  have hVl := hV.1
  have hMl := hM.1
  have hFl : (fixM M i).length = 13 := (setb_byt M i true).1
  have hAl : (fixV V M i false).length = 13 := (setb_byt _ i false).1
  have hBl : (fixV V M i true).length = 13 := (setb_byt _ i true).1
  have C1 : Hid (∀ W, Calls Try.prog 64 #[.agg (hv M), .int .i64 (i : Int)] W fun e w' => e = .returned (.bool false) ∧ Below W.heap.size W w') := by
    have := hbit_nat M hM i hi; rwa [h] at this
  have C2 : Hid (∀ W, Calls Try.prog 65 #[.agg (cv V M), .int .i64 (i : Int), .bool false] W fun e w' => e = .returned (.tuple #[.agg (cv (fixV V M i false) (fixM M i)), .int .i64 0]) ∧ Below W.heap.size W w') := fix_in V M hV hM i false hi
  have C3 : Hid (∀ W, Calls Try.prog 65 #[.agg (cv V M), .int .i64 (i : Int), .bool true] W fun e w' => e = .returned (.tuple #[.agg (cv (fixV V M i true) (fixM M i)), .int .i64 0]) ∧ Below W.heap.size W w') := fix_in V M hV hM i true hi
  clear hV hM h
  go_enter Try.func47, Try.ntmps47
  have g0 : (((w.alloc (.cells (cv V M) 42)).alloc (.cells zeroC 42)).alloc (.cells zeroC 42)).heap[w.heap.size]? = some (.cells (cv V M) 42 (0, 0)) := heap_past _ _ _ _ (heap_past _ _ _ _ (heap_new _ _ _ rfl))
  have g1 : (((w.alloc (.cells (cv V M) 42)).alloc (.cells zeroC 42)).alloc (.cells zeroC 42)).heap[w.heap.size + 1]? = some (.cells zeroC 42 (0, 0)) := heap_past _ _ _ _ (heap_new _ _ _ (by simp))
  have g2 : (((w.alloc (.cells (cv V M) 42)).alloc (.cells zeroC 42)).alloc (.cells zeroC 42)).heap[w.heap.size + 2]? = some (.cells zeroC 42 (0, 0)) := heap_new _ _ _ (by simp)
  have hb : Below w.heap.size w (((w.alloc (.cells (cv V M) 42)).alloc (.cells zeroC 42)).alloc (.cells zeroC 42)) := (((Below.refl _ _).alloc (Nat.le_refl _) _).alloc (by simp) _).alloc (by simp; omega) _
  go_wp2_with (first
    | (go_at_call 63; refine (cisBit_yes _ _ (by omega) (by omega)).mono ?_; rintro e w' ⟨rfl, rfl⟩)
    | (refine wl_loadM rfl _ rfl w.heap.size rfl V M g0 hVl hMl ?_))
  refine (C1.out _).mono ?_
  rintro e w1 ⟨rfl, hb1⟩
  have m0 : w1.heap[w.heap.size]? = some (.cells (cv V M) 42 (0, 0)) := by rw [hb1.block _ (by simp; omega)]; exact g0
  have m1 : w1.heap[w.heap.size + 1]? = some (.cells zeroC 42 (0, 0)) := by rw [hb1.block _ (by simp)]; exact g1
  have m2 : w1.heap[w.heap.size + 2]? = some (.cells zeroC 42 (0, 0)) := by rw [hb1.block _ (by simp)]; exact g2
  have hz1 : w.heap.size + 3 ≤ w1.heap.size := Nat.le_trans (by simp) hb1.size
  have hB1 := hb.trans (hb1.mono hb.size)
  clear g0 g1 g2 hb hb1 C1
  go_wp2_with (first
    | (refine wl_loadC rfl _ rfl w.heap.size rfl V M m0 hVl hMl ?_))
  refine (C2.out _).mono ?_
  rintro e w2 ⟨rfl, hb2⟩
  have n0 : w2.heap[w.heap.size]? = some (.cells (cv V M) 42 (0, 0)) := by rw [hb2.block _ (by omega)]; exact m0
  have n1 : w2.heap[w.heap.size + 1]? = some (.cells zeroC 42 (0, 0)) := by rw [hb2.block _ (by omega)]; exact m1
  have n2 : w2.heap[w.heap.size + 2]? = some (.cells zeroC 42 (0, 0)) := by rw [hb2.block _ (by omega)]; exact m2
  have hz2 : w.heap.size + 3 ≤ w2.heap.size := Nat.le_trans hz1 hb2.size
  have hB2 := hB1.trans (hb2.mono hB1.size)
  clear m0 m1 m2 hB1 hb2 hz1 C2
  have p0 := heap_past w2 (.cells (cv (fixV V M i false) (fixM M i)) 42) _ _ n0
  have p1 := heap_past w2 (.cells (cv (fixV V M i false) (fixM M i)) 42) _ _ n1
  have p2 := heap_past w2 (.cells (cv (fixV V M i false) (fixM M i)) 42) _ _ n2
  have p3 := heap_new w2 (.cells (cv (fixV V M i false) (fixM M i)) 42) _ rfl
  have hB3 := hB2.alloc (by omega) (.cells (cv (fixV V M i false) (fixM M i)) 42)
  have hz3 : w.heap.size + 3 ≤ (w2.alloc (.cells (cv (fixV V M i false) (fixM M i)) 42)).heap.size := by simp; omega
  go_wp2_with (first
    | (refine wl_storeC rfl _ _ rfl w2.heap.size (fixV V M i false) (fixM M i) rfl rfl _ (heap_new _ _ _ rfl) rfl hAl hFl _ (setRow_new _ _ _ _ _ rfl) ?_)
    | (refine wl_loadC rfl _ rfl w.heap.size rfl V M p0 hVl hMl ?_))
  refine (C3.out _).mono ?_
  rintro e w3 ⟨rfl, hb3⟩
  have q1 : w3.heap[w.heap.size + 1]? = some (.cells zeroC 42 (0, 0)) := by rw [hb3.block _ (by omega)]; exact p1
  have q2 : w3.heap[w.heap.size + 2]? = some (.cells zeroC 42 (0, 0)) := by rw [hb3.block _ (by omega)]; exact p2
  have q3 : w3.heap[w2.heap.size]? = some (.cells (cv (fixV V M i false) (fixM M i)) 42 (0, 0)) := by rw [hb3.block _ (by simp)]; exact p3
  have hz4 : w.heap.size + 3 ≤ w3.heap.size := Nat.le_trans hz3 hb3.size
  have hB4 := hB3.trans (hb3.mono hB3.size)
  clear n0 n1 n2 hB2 p0 p1 p2 p3 hB3 hb3 hz3 C3
  have r1 := heap_past w3 (.cells (cv (fixV V M i true) (fixM M i)) 42) _ _ q1
  have r2 := heap_past w3 (.cells (cv (fixV V M i true) (fixM M i)) 42) _ _ q2
  have r3 := heap_past w3 (.cells (cv (fixV V M i true) (fixM M i)) 42) _ _ q3
  have r4 := heap_new w3 (.cells (cv (fixV V M i true) (fixM M i)) 42) _ rfl
  have hB5 := hB4.alloc (by omega) (.cells (cv (fixV V M i true) (fixM M i)) 42)
  obtain ⟨W, hW⟩ : ∃ W, W = w3.alloc (.cells (cv (fixV V M i true) (fixM M i)) 42) := ⟨_, rfl⟩
  go_wp2_with (first
    | (refine wl_storeC rfl _ _ rfl w3.heap.size (fixV V M i true) (fixM M i) rfl rfl _ (heap_new _ _ _ rfl) rfl hBl hFl _ (setRow_new _ _ _ _ _ rfl) ?_))
  rw [← hW] at r1 r2 r3 r4 hB5 ⊢
  clear hW q1 q2 q3 hB4
  have s1 := heap_drew r1
  have s2 := heap_drew r2
  have s3 := heap_drew r3
  have s4 := heap_drew r4
  have hB6 := hB5.drew
  clear r1 r2 r3 r4 hB5
  have h1 := (setRow_heap _ _ _ (cv (fixV V M i false) (fixM M i)) _ _ s1)
  have h2 := (setRow_other _ (w.heap.size + 1) (w.heap.size + 2) (cv (fixV V M i false) (fixM M i)) (by omega)).trans s2
  have h4 := (setRow_other _ (w.heap.size + 1) w3.heap.size (cv (fixV V M i false) (fixM M i)) (by omega)).trans s4
  have k1 := (setRow_other _ (w.heap.size + 2) (w.heap.size + 1) (cv (fixV V M i true) (fixM M i)) (by omega)).trans h1
  have k2 := (setRow_heap _ _ _ (cv (fixV V M i true) (fixM M i)) _ _ h2)
  refine wp_region_two (v0 := .agg (cv (fixV V M i false) (fixM M i))) (v1 := .agg (cv (fixV V M i true) (fixM M i))) (w' := W.drew.setRow (w.heap.size + 1) (cv (fixV V M i false) (fixM M i))) (by kernel_rfl) (by kernel_rfl) rfl rfl rfl rfl
    (run_loadC _ _ _ _ rfl w2.heap.size rfl _ _ s3 hAl hFl) (run_loadC _ _ _ _ rfl w2.heap.size rfl _ _ s3 hAl hFl) (run_loadC _ _ _ _ rfl w3.heap.size rfl _ _ s4 hBl hFl) (run_loadC _ _ _ _ rfl w3.heap.size rfl _ _ s4 hBl hFl) (run_loadC _ _ _ _ rfl w3.heap.size rfl _ _ h4 hBl hFl)
    (run_storeC _ _ _ _ _ rfl (w.heap.size + 1) _ _ rfl rfl _ s1 rfl hAl hFl) (run_storeC _ _ _ _ _ rfl (w.heap.size + 1) _ _ rfl rfl _ s1 rfl hAl hFl) rfl ?_
  simp only [Act.put, List.setIfInBounds_toArray, List.set_cons_succ, List.set_cons_zero]
  go_wp2_with (first
    | (refine wl_storeC rfl _ _ rfl (w.heap.size + 2) _ _ rfl rfl _ h2 rfl hBl hFl _ rfl ?_))
  refine retCCe (p := 4) (q := 5) (u := 6) rfl rfl (w.heap.size + 1) (w.heap.size + 2) rfl rfl _ _ _ _ hAl hFl hBl hFl k1 k2 _ rfl ⟨rfl, ?_⟩
  exact below_setRow (below_setRow hB6 (by omega) _) (by omega) _
end Go.Proofs.Ytpbinkmeldkehaa
namespace Go.Proofs.Ytpbinkmeldkehaa
open Go Go.RowKit
set_option maxRecDepth 20000

/-- How many bits of a cube are free. -/
def free (M : List Int) : Int := ((List.range 104).filter fun i => !(bt M i)).length

end Go.Proofs.Ytpbinkmeldkehaa
namespace Go.Proofs.Ytpbinkmeldkehaa
open Go Go.RowKit
set_option maxRecDepth 20000

/-- Bytes as cells. -/
def bv (L : List UInt8) : Array Value := (L.map fun b => Value.int .u8 (b.toNat : Int)).toArray

end Go.Proofs.Ytpbinkmeldkehaa
namespace Go.Proofs.Ytpbinkmeldkehaa
open Go Go.RowKit
set_option maxRecDepth 20000

theorem own_base {w : World} {B B' : Nat} {e : TypeId} {s : Nat} {v : Value} {n : Nat} {xs : List Value} (h : w.ownsRow B e s v n xs) (hB' : B' ≤ B) : w.ownsRow B' e s v n xs := by
  obtain ⟨h1, h2 | ⟨g', cap, cur, rfl, hB, h3⟩⟩ := h
  · exact ⟨h1, .inl h2⟩
  · exact ⟨h1, .inr ⟨g', cap, cur, rfl, by omega, h3⟩⟩
end Go.Proofs.Ytpbinkmeldkehaa
namespace Go.Proofs.Ytpbinkmeldkehaa
open Go Go.RowKit
set_option maxRecDepth 20000

end Go.Proofs.Ytpbinkmeldkehaa
namespace Go.Proofs.Ytpbinkmeldkehaa
open Go Go.RowKit
set_option maxRecDepth 20000

def m0 : List Int := [0, 0, 0, 0, 0, 0, 0, 0, 0, 0, 0, 0, 0]
theorem Z_m0 : Z = m0 := Z_eq
theorem byt_of (L : List Int) (h1 : L.length = 13) (h2 : ∀ x ∈ L, 0 ≤ x ∧ x < 256) : Byt L := by
  refine ⟨h1, fun k => ?_⟩
  rcases Nat.lt_or_ge k 13 with h | h
  · rw [List.getD, List.getElem?_eq_getElem (by omega)]; exact h2 _ (List.getElem_mem _)
  · rw [List.getD, List.getElem?_eq_none (by omega)]; decide
theorem b0 : Byt m0 := byt_of _ rfl (by decide)

theorem all0 (w : World) : Calls Try.prog 37 #[] w fun e w' => e = .returned (.agg (cv m0 m0)) ∧ Below w.heap.size w w' := by
  have := all_any w; rwa [Z_m0] at this
end Go.Proofs.Ytpbinkmeldkehaa
namespace Go.Proofs.Ytpbinkmeldkehaa
open Go.ChangeShapes Go.WideShapes Go.ChangeAt Go.WideMaps Go.WideElems Go.RowKit
set_option maxRecDepth 20000

theorem own : ownKnob Try.prog.godebug = none := by kernel_rfl
theorem bytes_of {H : Type} {enc : TypeId × Value → H} {W : World} {base : Nat} {spare : Nat → Bool} {held : Bool} {fuel : Nat} {cs : List Value} {x : DataW H × List MemPlace} (hl : cs.length = 13)
    (h : DataW.trod enc Try.prog W base spare held fuel 38 cs = some x) : ∃ L : List Int, cs = L.map (Value.int .u8) ∧ Byt L := by
  have c5 : Try.prog.cellsOf 5 = 1 := by kernel_rfl
  obtain ⟨xs, m, rfl, hx, hlen, hn, hel⟩ := DataW.trod_array Try.underlying38 h
  have each : ∀ i, i < 13 → ∃ z : Int, cs[i]? = some (.int .u8 z) ∧ 0 ≤ z ∧ z < 256 := fun i hi => by
    have h1 := hel i hi
    rw [List.getElem?_eq_getElem (show i < xs.length by omega), c5, Nat.mul_one] at h1
    obtain ⟨z, ez, _, wz⟩ := DataW.trod_int Try.underlying5 h1
    refine ⟨z, ?_, ?_⟩
    · have := congrArg (·[0]?) ez
      simpa [List.getElem?_take, List.getElem?_drop] using this
    · have := bounds_u8 wz
      omega
  refine ⟨cs.map intOf, ?_, by simp [hl], fun k => ?_⟩
  · apply List.ext_getElem?
    intro k
    rcases Nat.lt_or_ge k 13 with hk | hk
    · obtain ⟨z, hz, _⟩ := each k hk
      simp only [List.getElem?_map, hz]
      rfl
    · rw [List.getElem?_eq_none (by omega), List.getElem?_eq_none (by simpa [hl] using hk)]
  · rcases Nat.lt_or_ge k 13 with hk | hk
    · obtain ⟨z, hz, hb⟩ := each k hk
      rw [List.getD, List.getElem?_map, hz]
      exact hb
    · rw [List.getD, List.getElem?_eq_none (by simpa [hl] using hk)]
      decide

/-- A header that comes in: thirteen bytes. -/
theorem open_head {H : Type} {enc : TypeId × Value → H} {W : World} {r : Reach} {b0 base : Nat} {spare : Nat → Bool} {held : Bool} {v : Value} {d : DataW H} {p : List MemPlace}
    (hok : Value.okWide Try.prog W r b0 38 v) (h : DataW.Trod enc Try.prog W base spare held 38 v d p) :
    ∃ L : List Int, v = .agg (hv L) ∧ Byt L := by
  have c : Try.prog.cellsOf 38 = 13 := by kernel_rfl
  simp only [Value.okWide, Try.underlying38] at hok
  obtain ⟨cs, rfl, hsz, _⟩ := hok
  obtain ⟨fuel, hf⟩ := h
  obtain ⟨L, hL, hb⟩ := bytes_of (by simp only [Value.cells, Array.length_toList]; rw [hsz, c]) hf
  refine ⟨L, ?_, hb⟩
  unfold hv
  rw [← hL]
  simp [Value.cells]

end Go.Proofs.Ytpbinkmeldkehaa
namespace Go.Proofs.Ytpbinkmeldkehaa
open Go.ChangeShapes Go.WideShapes Go.ChangeAt Go.WideMaps Go.WideElems Go.RowKit
set_option maxRecDepth 20000

theorem ownK : ownKnob Try.prog.godebug = none := by kernel_rfl
theorem laidK : laidOutB Try.prog = true := by kernel_rfl
end Go.Proofs.Ytpbinkmeldkehaa
namespace Go.Proofs.Ytpbinkmeldkehaa
open Go Go.RowKit
set_option maxRecDepth 20000

/-- A type of elements that are structs or arrays, and the type of its slices. -/
structure El where
  elem : TypeId
  slice : TypeId
  size : Nat
  bytes : Nat
  zero : Array Value
/-- What the program says of it. -/
structure El.Ok (E : El) : Prop where
  hs : Try.prog.underlying E.slice = some (.slice E.elem)
  hu : ∃ d, Try.prog.underlying E.elem = some d ∧ (match d with | .struct _ | .array _ _ => true | _ => false) = true
  hi : (Try.prog.info? E.elem).map (fun i => (i.zero, i.size, i.bytes)) = some (some (.agg E.zero), E.size, E.bytes)
  hz : E.zero.size = E.size
  hp : 0 < E.size
  hb : E.bytes ≤ 100000
  hn : E.size ≤ 100000
theorem El.Ok.info {E : El} (H : E.Ok) : ∃ i, Try.prog.info? E.elem = some i ∧ i.zero = some (.agg E.zero) ∧ i.size = E.size ∧ i.bytes = E.bytes := by
  have h1 := H.hi
  cases h : Try.prog.info? E.elem with
  | none => rw [h] at h1; simp at h1
  | some i =>
    rw [h] at h1
    simp only [Option.map_some, Option.some.injEq, Prod.mk.injEq] at h1
    exact ⟨i, rfl, h1.1, h1.2.1, h1.2.2⟩
theorem El.Ok.cellsz {E : El} (H : E.Ok) (cs : Array Value) (hc : cs.size = E.size) : (Try.prog.info? E.elem).map (·.size) = some cs.size := by
  obtain ⟨i, h1, _, h2, _⟩ := H.info
  rw [h1, Option.map_some, h2, hc]

/-- A value that is laid in cells, one each. -/
def Fits (E : El) (cs : Array Value) : Prop := cs.size = E.size ∧ cs.all (·.oneCell') = true

/-- An element that lies within a block, from a place on. -/
theorem El.Ok.load {E : El} (H : E.Ok) (w : World) (g off : Nat) (cur : Array Value) (t : TypeId) (fr : Nat × Nat) (cs : Array Value) (hcs : cs.size = E.size) (hg : w.heap[g]? = some (.cells cur t fr)) (hc : ∀ j, j < E.size → cur[off + j]? = cs[j]?) :
    (loadVar E.elem ⟨g, off, none⟩).run Try.prog w = .ok (.agg cs) w := by
  have hl : (loadCells ⟨g, off, none⟩ cs.toList.length).run Try.prog w = .ok cs.toList.toArray w :=
    run_loadCells_list (P := Try.prog) w ⟨g, off, none⟩ cs.toList (fun j v hv => by
      have hadd : (⟨g, off, none⟩ : Addr).add j = ⟨g, off + j, none⟩ := by unfold Addr.add; split <;> simp_all
      have hj : j < E.size := by
        have := (List.getElem?_eq_some_iff.1 hv).1
        rw [Array.length_toList] at this
        omega
      rw [hadd, cell_of_row w g (off + j) cur t fr hg, hc j hj]
      simpa using hv)
  obtain ⟨i, hq, _, hs, _⟩ := H.info
  have hagg : (isAgg E.elem).run Try.prog w = .ok true w := by
    obtain ⟨d, hd, hm⟩ := H.hu
    unfold isAgg
    rw [Sem.run_bind, run_underlying hd w]
    revert hm
    cases d <;> simp [go_sem]
  rw [Array.length_toList, hcs, Array.toArray_toList] at hl
  simp [loadVar, Sem.run_bind, hagg, sizeOf, typeInfo, hq, hs, hl]
theorem wl_loadE {E : El} (H : E.Ok) {ops : Array Oper} {rest : List Oper} {o : Oper} {a : Act} {w : World} {Q : Exit → Act → World → Prop} (hw : Region.wanted o (yielded ops a.tmps) = true) (x : Operand) (ho : o.op = .load E.elem x)
    (g off : Nat) (hx : a.eval x = .pointer (some ⟨g, off, none⟩)) (cur : Array Value) (t : TypeId) (fr : Nat × Nat) (cs : Array Value) (hcs : cs.size = E.size) (hg : w.heap[g]? = some (.cells cur t fr)) (hc : ∀ j, j < E.size → cur[off + j]? = cs[j]?)
    (h : wpList Try.prog ops Q rest (a.put o.dst (.agg cs)) w) : wpList Try.prog ops Q (o :: rest) a w := by
  refine wpList_step fun K hK => ?_
  rw [if_pos hw]
  unfold Oper.wp execOp
  simp only [ho, hx, Instr.loadAt, Instr.sureAddr, Sem.run_bind, Sem.run_pure, Result.andThen_ok, H.load w g off cur t fr cs hcs hg hc]
  exact hK _ _ h
theorem own_cells (n : Nat) (cs : Array Value) : ∀ j, j < n → cs[0 + j]? = cs[j]? := fun j _ => by rw [Nat.zero_add]
theorem wl_storeE {E : El} (H : E.Ok) {ops : Array Oper} {rest : List Oper} {o : Oper} {a : Act} {w : World} {Q : Exit → Act → World → Prop} (hgd : o.guard = none) (x y : Operand) (ho : o.op = .store E.elem x y)
    (g : Nat) (cs : Array Value) (hf : Fits E cs) (hx : a.eval x = .pointer (some ⟨g, 0, none⟩)) (hy : a.eval y = .agg cs) (old : Array Value) (hg : w.heap[g]? = some (.cells old E.elem (0, 0))) (hold : old.size = E.size)
    (w' : World) (hw' : w.setRow g cs = w')
    (h : wpList Try.prog ops Q rest (a.put o.dst undef) w') : wpList Try.prog ops Q (o :: rest) a w :=
  wpList_store_row hgd E.elem x y ho g cs hx hy E.elem old hg (H.cellsz cs hf.1) (by rw [hf.1, hold]) hf.2 (by rw [hw']; exact h)
theorem qlE {E : El} (H : E.Ok) {C : World → Prop} {ops : Array Oper} {Q : Act → Prop} {rest : List Oper} {o : Oper} {a : Act} (hw : Region.wanted o (yielded ops a.tmps) = true) (x : Operand) (ho : o.op = .load E.elem x)
    (g off : Nat) (hx : a.eval x = .pointer (some ⟨g, off, none⟩)) (cur : Array Value) (t : TypeId) (fr : Nat × Nat) (cs : Array Value) (hcs : cs.size = E.size) (hg : ∀ w', C w' → w'.heap[g]? = some (.cells cur t fr)) (hc : ∀ j, j < E.size → cur[off + j]? = cs[j]?)
    (h : wpQuiet Try.prog ops C Q rest (a.put o.dst (.agg cs))) : wpQuiet Try.prog ops C Q (o :: rest) a := by
  refine BigFrame.wpQuiet_want hw fun K hK => ⟨.agg cs, fun w hC => ?_, hK _ h⟩
  unfold Oper.quietAt execOp
  simp only [ho, hx, Instr.loadAt, Instr.sureAddr, Sem.run_bind, Sem.run_pure, Result.andThen_ok, H.load w g off cur t fr cs hcs (hg w hC) hc]
  exact ⟨rfl, rfl⟩

/-- The cells of a list of elements. -/
def gcells {α : Type} (enc : α → Array Value) (C : List α) : List Value := C.flatMap fun c => (enc c).toList
theorem gcells_append {α : Type} (enc : α → Array Value) (C D : List α) : gcells enc (C ++ D) = gcells enc C ++ gcells enc D := by simp [gcells]
theorem gcells_one {α : Type} (enc : α → Array Value) (c : α) : gcells enc [c] = (enc c).toList := by simp [gcells]
theorem gcells_cons {α : Type} (enc : α → Array Value) (c : α) (C : List α) : gcells enc (c :: C) = (enc c).toList ++ gcells enc C := by simp [gcells]
theorem gcells_at {α : Type} (enc : α → Array Value) (n : Nat) : ∀ (C : List α), (∀ c ∈ C, (enc c).size = n) → ∀ (i : Nat) (hi : i < C.length) (j : Nat), j < n → (gcells enc C)[n * i + j]? = (enc C[i])[j]?
  | [], _, i, hi, _, _ => absurd hi (by simp)
  | c :: C, h, 0, _, j, hj => by
    have h1 := h c (by simp)
    rw [gcells_cons, Nat.mul_zero, Nat.zero_add, List.getElem?_append_left (by rw [Array.length_toList, h1]; exact hj)]
    simp
  | c :: C, h, i + 1, hi, j, hj => by
    have h1 := h c (by simp)
    have ih := gcells_at enc n C (fun d hd => h d (by simp [hd])) i (by simpa using hi) j hj
    rw [gcells_cons, show n * (i + 1) + j = n + (n * i + j) by rw [Nat.mul_add, Nat.mul_one]; omega, List.getElem?_append_right (by rw [Array.length_toList, h1]; omega), Array.length_toList, h1, Nat.add_sub_cancel_left]
    simpa using ih

theorem gfold_get (off : Nat) : ∀ (xs : List Value) (n : Nat) (cells : Array Value) (k : Nat), off + n + xs.length ≤ cells.size →
    ((xs.zipIdx n).foldl (fun cs (x : Value × Nat) => cs.setIfInBounds (off + x.2) x.1) cells)[k]? = if off + n ≤ k ∧ k < off + n + xs.length then xs[k - (off + n)]? else cells[k]?
  | [], n, cells, k, _ => by
    simp only [List.zipIdx_nil, List.foldl_nil, List.length_nil, Nat.add_zero]
    rw [if_neg (by omega)]
  | x :: xs, n, cells, k, h => by
    simp only [List.length_cons] at h
    rw [List.zipIdx_cons, List.foldl_cons, gfold_get off xs (n + 1) _ k (by simp; omega)]
    simp only [List.length_cons]
    by_cases h1 : off + (n + 1) ≤ k ∧ k < off + (n + 1) + xs.length
    · rw [if_pos h1, if_pos (by omega), show k - (off + n) = (k - (off + (n + 1))) + 1 by omega, List.getElem?_cons_succ]
    · rw [if_neg h1]
      by_cases h2 : k = off + n
      · subst h2
        rw [if_pos (by omega), Nat.sub_self, List.getElem?_cons_zero, Array.getElem?_setIfInBounds_self_of_lt (by omega)]
      · rw [if_neg (by omega), Array.getElem?_setIfInBounds_ne (by omega)]
theorem gfold_all (xs cells : Array Value) (h : xs.size = cells.size) : xs.zipIdx.foldl (fun cs (x : Value × Nat) => cs.setIfInBounds (0 + x.2) x.1) cells = xs := by
  have e : xs.zipIdx.foldl (fun cs (x : Value × Nat) => cs.setIfInBounds (0 + x.2) x.1) cells = (xs.toList.zipIdx 0).foldl (fun cs (x : Value × Nat) => cs.setIfInBounds (0 + x.2) x.1) cells := by
    rw [← Array.foldl_toList]; simp
  rw [e]
  apply Array.ext_getElem?
  intro k
  rw [gfold_get 0 xs.toList 0 cells k (by simp; omega)]
  by_cases hk : k < xs.size
  · rw [if_pos (by simp; omega)]; simp
  · rw [if_neg (by simp; omega), Array.getElem?_eq_none (by omega), Array.getElem?_eq_none (by omega)]

set_option maxRecDepth 20000 in
/-- A slice of one element. -/
theorem wl_buildE {E : El} (H : E.Ok) {ops : Array Oper} {rest : List Oper} {o : Oper} {a : Act} {w : World} {Q : Exit → Act → World → Prop} (hg : o.guard = none) (x : Operand) (ho : o.op = .buildSlice E.slice 1 #[(0, x)]) (cs : Array Value) (hcs : cs.size = E.size) (hx : a.eval x = .agg cs)
    (h : wpList Try.prog ops Q rest (a.put o.dst (.slice (some ⟨w.heap.size, 0, none⟩) 1 1)) (w.alloc (.cells cs E.elem))) : wpList Try.prog ops Q (o :: rest) a w := by
  obtain ⟨ie, hie, hz, hs, _⟩ := H.info
  refine wpList_buildSlice hg E.slice E.elem 1 _ ho cs ie (.agg E.zero) H.hs hie hz (by rw [hs]; have := H.hn; omega) (by rw [hs]; have := H.hp; omega) ?_ h
  simp only [List.map_toArray, List.map_cons, List.map_nil, hx, Instr.fill, hs, Nat.zero_mul, Value.cells, hcs]
  rw [if_neg (by simp)]
  congr 1
  exact gfold_all _ _ (by rw [hcs]; simp)

/-- One element appended to one's own row of them, and where the new row lies. -/
theorem wl_appendE {E : El} (H : E.Ok) {α : Type} (enc : α → Array Value) {ops : Array Oper} {rest : List Oper} {o : Oper} {a : Act} {w : World} {Q : Exit → Act → World → Prop} (hgd : o.guard = none) (s x : Operand) (ho : o.op = .call { callee := .builtin .append, args := #[s, x], argTypes := #[E.slice, E.slice] })
    (base : Nat) (v : Value) (C : List α) (c : α) (hf : Fits E (enc c)) (hs : a.eval s = v) (hown : w.ownsRow base E.elem E.size v C.length (gcells enc C)) (g cap : Nat) (hx : a.eval x = .slice (some ⟨g, 0, none⟩) 1 cap) (hg : w.heap[g]? = some (.cells (enc c) E.elem (0, 0)))
    (hn : C.length ≤ 1000000) (hbase : base ≤ w.heap.size)
    (h : ∀ v' w', w'.ownsRow base E.elem E.size v' (C ++ [c]).length (gcells enc (C ++ [c])) → w.grownBy w' v.ownBlock → (v'.ownBlock = v.ownBlock ∨ v'.ownBlock = some w.heap.size) → wpList Try.prog ops Q rest (a.put o.dst v') w') : wpList Try.prog ops Q (o :: rest) a w := by
  obtain ⟨i0, hi, hz0, hz1, hz2⟩ := H.info
  have hb := H.hb
  refine wpList_append_own_at _ hgd s x E.slice ho base E.elem i0 (.agg E.zero) E.size E.bytes H.hs hi hz0 hz1 hz2 (by simpa [Value.cells] using H.hz) H.hp v _ _ hs hown ⟨g, 0, none⟩ 1 cap (enc c).toList hx (by rw [Array.length_toList, hf.1, Nat.one_mul]) (fun j y hy => ?_) (fun u hu => ?_) (by unfold maxLen; omega) ?_ hbase ?_
  · have hadd : (⟨g, 0, none⟩ : Addr).add j = ⟨g, j, none⟩ := by unfold Addr.add; split <;> simp_all
    rw [hadd, cell_of_row w g j _ _ _ hg, ← hy]
    simp
  · exact (Array.all_eq_true_iff_forall_mem.1 hf.2) u (by simpa using hu)
  · exact Nat.le_trans (Nat.mul_le_mul (show C.length + 1 ≤ 1000001 by omega) hb) (by decide)
  · intro v' w' h5 h6 _ h7
    refine h v' w' ?_ h6 h7
    rw [List.length_append, gcells_append, gcells_one]; exact h5

/-- A slice, wherever it lies, whose elements are these. -/
def GSl {α : Type} (E : El) (enc : α → Array Value) (w : World) (v : Value) (C : List α) : Prop :=
  ∃ (o : Option Addr) (cap : Nat), v = .slice o C.length cap ∧ C.length ≤ cap ∧ cap ≤ maxLen ∧ ∀ (i : Nat) (hi : i < C.length), ∃ g off cur t fr, o = some ⟨g, off, none⟩ ∧ w.heap[g]? = some (.cells cur t fr) ∧ ∀ j, j < E.size → cur[off + i * E.size + j]? = (enc C[i])[j]?
theorem GSl.below {α : Type} {E : El} {enc : α → Array Value} {w w' : World} {v : Value} {C : List α} (h : GSl E enc w v C) (hb : Below w.heap.size w w') : GSl E enc w' v C := by
  obtain ⟨o, cap, rfl, h1, h2, h3⟩ := h
  refine ⟨o, cap, rfl, h1, h2, fun i hi => ?_⟩
  obtain ⟨g, off, cur, t, fr, h4, h5, h6⟩ := h3 i hi
  exact ⟨g, off, cur, t, fr, h4, (hb.block g (Array.getElem?_eq_some_iff.1 h5).1).trans h5, h6⟩
theorem GSl.slice {α : Type} {E : El} {enc : α → Array Value} {w : World} {v : Value} {C : List α} (h : GSl E enc w v C) : ∃ (o : Option Addr) (cap : Nat), v = .slice o C.length cap ∧ C.length ≤ cap ∧ cap ≤ maxLen := by
  obtain ⟨o, cap, h1, h2, h3, _⟩ := h
  exact ⟨o, cap, h1, h2, h3⟩
theorem GSl.at {α : Type} {E : El} {enc : α → Array Value} {w : World} {o : Option Addr} {n cap : Nat} {C : List α} (h : GSl E enc w (.slice o n cap) C) (k : Nat) (hk : k < n) :
    ∃ g off cur t fr, ∃ c : α, o = some ⟨g, off, none⟩ ∧ w.heap[g]? = some (.cells cur t fr) ∧ (∀ j, j < E.size → cur[off + k * E.size + j]? = (enc c)[j]?) ∧ C[k]? = some c := by
  obtain ⟨o', cap', h1, _, _, h3⟩ := h
  simp only [Value.slice.injEq] at h1
  obtain ⟨rfl, rfl, rfl⟩ := h1
  obtain ⟨g, off, cur, t, fr, h4, h5, h6⟩ := h3 k hk
  exact ⟨g, off, cur, t, fr, C[k], h4, h5, h6, List.getElem?_eq_getElem hk⟩
theorem gsl_of {α : Type} {E : El} {enc : α → Array Value} {w : World} {B : Nat} {v : Value} {C : List α} (h : w.ownsRow B E.elem E.size v C.length (gcells enc C)) (hC : ∀ c ∈ C, (enc c).size = E.size) : GSl E enc w v C := by
  obtain ⟨h1, ⟨rfl, h2⟩ | ⟨g, cap, cur, rfl, hB, hcur, h5, h6, _, h4⟩⟩ := h
  · exact ⟨none, 0, by rw [h2], by omega, Nat.zero_le _, fun i hi => by omega⟩
  · refine ⟨_, cap, rfl, h5, h6, fun i hi => ⟨g, 0, cur, _, _, rfl, hcur, fun j hj => ?_⟩⟩
    have hlt : E.size * i + j < C.length * E.size := by
      have : E.size * (i + 1) ≤ E.size * C.length := Nat.mul_le_mul_left _ hi
      rw [Nat.mul_add, Nat.mul_one] at this
      rw [Nat.mul_comm C.length]
      omega
    rw [← gcells_at enc E.size C hC i hi j hj, ← h4, List.getElem?_take_of_lt hlt, Nat.zero_add, Nat.mul_comm]
    simp
theorem gsl_nil {α : Type} (E : El) (enc : α → Array Value) (w : World) : GSl E enc w (.slice none 0 0) [] := ⟨none, 0, rfl, Nat.le_refl _, Nat.zero_le _, fun i hi => absurd hi (by simp)⟩
theorem gown_slice {w : World} {B : Nat} {e : TypeId} {s : Nat} {v : Value} {n : Nat} {xs : List Value} (h : w.ownsRow B e s v n xs) : ∃ o cap, v = .slice o n cap := by
  obtain ⟨_, ⟨rfl, rfl⟩ | ⟨g, cap, cur, rfl, _⟩⟩ := h
  · exact ⟨none, 0, rfl⟩
  · exact ⟨_, cap, rfl⟩
theorem gown_below {w w' : World} {B : Nat} {e : TypeId} {s : Nat} {v : Value} {n : Nat} {xs : List Value} (h : w.ownsRow B e s v n xs) (hb : Below w.heap.size w w') : w'.ownsRow B e s v n xs := by
  obtain ⟨h1, h2 | ⟨g, cap, cur, rfl, hB, hcur, h3⟩⟩ := h
  · exact ⟨h1, .inl h2⟩
  · exact ⟨h1, .inr ⟨g, cap, cur, rfl, hB, (hb.block g (Array.getElem?_eq_some_iff.1 hcur).1).trans hcur, h3⟩⟩
theorem gown_base {w : World} {B B' : Nat} {e : TypeId} {s : Nat} {v : Value} {n : Nat} {xs : List Value} (h : w.ownsRow B e s v n xs) (hB' : B' ≤ B) : w.ownsRow B' e s v n xs := by
  obtain ⟨h1, h2 | ⟨g', cap, cur, rfl, hB, h3⟩⟩ := h
  · exact ⟨h1, .inl h2⟩
  · exact ⟨h1, .inr ⟨g', cap, cur, rfl, by omega, h3⟩⟩
end Go.Proofs.Ytpbinkmeldkehaa
