import Derived.Test.YthekoeinnillpaaLawFixes1
namespace Go.Proofs.Ythekoeinnillpaa
open Go Go.RowKit

set_option maxHeartbeats 8000000 in
set_option maxRecDepth 100000 in
theorem fixes_free_tn (V M H CV AV AM BV BM XV XM YV YM : List Int) (i : Nat) (hi : i < 104) (hVl : V.length = 13) (hMl : M.length = 13) (hHl : H.length = 13) (hAl : AV.length = 13) (hAm : AM.length = 13) (hBl : BV.length = 13) (hBm : BM.length = 13) (hXl : XV.length = 13) (hXm : XM.length = 13) (hYl : YV.length = 13) (hYm : YM.length = 13)
    (c1 : ∀ W, Calls Try.prog 25 #[.agg (cv V M), .int .i64 (i : Int), .bool true] W fun e w' => e = .returned (.tuple #[.agg (cv AV AM), .int .i64 0]) ∧ Below W.heap.size W w')
    (c2 : ∀ W, Calls Try.prog 26 #[.agg (cv V M), .int .i64 (i : Int)] W fun e w' => e = .returned (.tuple #[.agg (cv BV BM), .int .i64 0]) ∧ Below W.heap.size W w')
    (c3 : ∀ W, Calls Try.prog 27 #[.agg (cv V M), .int .i64 (i : Int)] W fun e w' => e = .returned (.tuple #[.agg (cv XV XM), .agg (cv YV YM), .int .i64 0]) ∧ Below W.heap.size W w')
    (c4 : ∀ W, Calls Try.prog 13 #[.agg (cv V M)] W fun e w' => e = .returned (.agg (cv CV M)) ∧ Below W.heap.size W w')
    (c5 : ∀ W, Calls Try.prog 28 #[.agg (cv CV M), .int .i64 (i : Int), .int .i64 1] W fun e w' => e = .returned (.agg (cv AV AM)) ∧ Below W.heap.size W w')
    (c6 : ∀ W, Calls Try.prog 28 #[.agg (cv CV M), .int .i64 (i : Int), .int .i64 2] W fun e w' => e = .returned (.agg (cv BV BM)) ∧ Below W.heap.size W w')
    (c7 : ∀ W, Calls Try.prog 29 #[.agg (cv V M), .int .i64 (i : Int)] W fun e w' => e = .returned (.int .i64 2) ∧ Below W.heap.size W w')
    (c8 : ∀ W, Calls Try.prog 28 #[.agg (cv CV M), .int .i64 (i : Int), .int .i64 0] W fun e w' => e = .returned (.agg (cv XV XM)) ∧ Below W.heap.size W w')
    (c9 : ∀ W, Calls Try.prog 28 #[.agg (cv CV M), .int .i64 (i : Int), .int .i64 1] W fun e w' => e = .returned (.agg (cv YV YM)) ∧ Below W.heap.size W w')
    (c10 : ∀ W, Calls Try.prog 11 #[.agg (cv V M), .agg (hv H)] W fun e w' => e = .returned (.bool false) ∧ Below W.heap.size W w')
    (c11 : ∀ W, Calls Try.prog 11 #[.agg (cv XV XM), .agg (hv H)] W fun e w' => e = .returned (.bool false) ∧ Below W.heap.size W w')
    (c12 : ∀ W, Calls Try.prog 11 #[.agg (cv YV YM), .agg (hv H)] W fun e w' => e = .returned (.bool false) ∧ Below W.heap.size W w')
    (w : World) : Calls Try.prog 8 #[.agg (cv V M), .int .i64 (i : Int), .bool true, .agg (hv H)] w fun e w' => e = .returned (.bool true) ∧ Below w.heap.size w w' := by
  have C1 : Hid (∀ W, Calls Try.prog 25 #[.agg (cv V M), .int .i64 (i : Int), .bool true] W fun e w' => e = .returned (.tuple #[.agg (cv AV AM), .int .i64 0]) ∧ Below W.heap.size W w') := c1
  have C2 : Hid (∀ W, Calls Try.prog 26 #[.agg (cv V M), .int .i64 (i : Int)] W fun e w' => e = .returned (.tuple #[.agg (cv BV BM), .int .i64 0]) ∧ Below W.heap.size W w') := c2
  have C3 : Hid (∀ W, Calls Try.prog 27 #[.agg (cv V M), .int .i64 (i : Int)] W fun e w' => e = .returned (.tuple #[.agg (cv XV XM), .agg (cv YV YM), .int .i64 0]) ∧ Below W.heap.size W w') := c3
  have C4 : Hid (∀ W, Calls Try.prog 13 #[.agg (cv V M)] W fun e w' => e = .returned (.agg (cv CV M)) ∧ Below W.heap.size W w') := c4
  have C5 : Hid (∀ W, Calls Try.prog 28 #[.agg (cv CV M), .int .i64 (i : Int), .int .i64 1] W fun e w' => e = .returned (.agg (cv AV AM)) ∧ Below W.heap.size W w') := c5
  have C6 : Hid (∀ W, Calls Try.prog 28 #[.agg (cv CV M), .int .i64 (i : Int), .int .i64 2] W fun e w' => e = .returned (.agg (cv BV BM)) ∧ Below W.heap.size W w') := c6
  have C7 : Hid (∀ W, Calls Try.prog 29 #[.agg (cv V M), .int .i64 (i : Int)] W fun e w' => e = .returned (.int .i64 2) ∧ Below W.heap.size W w') := c7
  have C8 : Hid (∀ W, Calls Try.prog 28 #[.agg (cv CV M), .int .i64 (i : Int), .int .i64 0] W fun e w' => e = .returned (.agg (cv XV XM)) ∧ Below W.heap.size W w') := c8
  have C9 : Hid (∀ W, Calls Try.prog 28 #[.agg (cv CV M), .int .i64 (i : Int), .int .i64 1] W fun e w' => e = .returned (.agg (cv YV YM)) ∧ Below W.heap.size W w') := c9
  have C10 : Hid (∀ W, Calls Try.prog 11 #[.agg (cv V M), .agg (hv H)] W fun e w' => e = .returned (.bool false) ∧ Below W.heap.size W w') := c10
  have C11 : Hid (∀ W, Calls Try.prog 11 #[.agg (cv XV XM), .agg (hv H)] W fun e w' => e = .returned (.bool false) ∧ Below W.heap.size W w') := c11
  have C12 : Hid (∀ W, Calls Try.prog 11 #[.agg (cv YV YM), .agg (hv H)] W fun e w' => e = .returned (.bool false) ∧ Below W.heap.size W w') := c12
  have e1 : ∀ w, (Op.equalIn 10000 25 (.agg (cv AV AM)) (.agg (cv AV AM))).run Try.prog w = .ok true w := fun w => by rw [eqC _ _ _ _ hAl hAm hAl hAm]; simp
  have e2 : ∀ w, (Op.equalIn 10000 25 (.agg (cv BV BM)) (.agg (cv BV BM))).run Try.prog w = .ok true w := fun w => by rw [eqC _ _ _ _ hBl hBm hBl hBm]; simp
  have e3 : ∀ w, (Op.equalIn 10000 25 (.agg (cv XV XM)) (.agg (cv XV XM))).run Try.prog w = .ok true w := fun w => by rw [eqC _ _ _ _ hXl hXm hXl hXm]; simp
  have e4 : ∀ w, (Op.equalIn 10000 25 (.agg (cv YV YM)) (.agg (cv YV YM))).run Try.prog w = .ok true w := fun w => by rw [eqC _ _ _ _ hYl hYm hYl hYm]; simp
  have eg : ∀ op x y (xs ys : Array Value) w, (eqGuard op 25 x y (.agg xs) (.agg ys)).run Try.prog w = .ok () w := egC
  have hzl := Z_byt.1
  clear c1 c2 c3 c4 c5 c6 c7 c8 c9 c10 c11 c12
  go_enter Try.func8, Try.ntmps8
  go_wp2_with fail
  refine (awake_any _).mono ?_
  rintro e w1 ⟨rfl, hb1⟩
  have g0 : w1.heap[w.heap.size]? = some (.cells (cv V M) 25 (0, 0)) := by rw [hb1.block _ (by simp; omega)]; exact heap_past _ _ _ _ (heap_new _ _ _ rfl)
  have g1 : w1.heap[w.heap.size + 1]? = some (.cells (hv H) 23 (0, 0)) := by rw [hb1.block _ (by simp)]; exact heap_new _ _ _ (by simp)
  have B1 : Below w.heap.size w w1 := (((Below.refl _ _).alloc (Nat.le_refl _) _).alloc (by simp) _).trans (hb1.mono (by simp; omega))
  have z1 : w.heap.size + 2 ≤ w1.heap.size := Nat.le_trans (by simp) hb1.size
  clear hb1
  go_wp2_with (first
    | (refine wl_loadC rfl _ rfl w.heap.size rfl V M g0 hVl hMl ?_))
  refine (C1.out _).mono ?_
  rintro e w2 ⟨rfl, hb2⟩
  have k0 : w2.heap[w.heap.size]? = some (.cells (cv V M) 25 (0, 0)) := by rw [hb2.block _ (by omega)]; exact g0
  have k1 : w2.heap[w.heap.size + 1]? = some (.cells (hv H) 23 (0, 0)) := by rw [hb2.block _ (by omega)]; exact g1
  have B2 := B1.trans (hb2.mono B1.size)
  have z2 : w.heap.size + 2 ≤ w2.heap.size := Nat.le_trans z1 hb2.size
  clear g0 g1 B1 z1 hb2 C1
  have l0 := heap_past w2 (.cells (cv AV AM) 25) _ _ k0
  have l1 := heap_past w2 (.cells (cv AV AM) 25) _ _ k1
  have l2 := heap_new w2 (.cells (cv AV AM) 25) _ rfl
  have B3 := B2.alloc B2.size (.cells (cv AV AM) 25)
  go_wp2_with (first
    | (refine wl_storeC rfl _ _ rfl w2.heap.size AV AM rfl rfl _ (heap_new _ _ _ rfl) rfl hAl hAm _ (setRow_new _ _ _ _ _ rfl) ?_)
    | (refine wl_loadC rfl _ rfl w.heap.size rfl V M l0 hVl hMl ?_))
  refine (C2.out _).mono ?_
  rintro e w3 ⟨rfl, hb3⟩
  have m0 : w3.heap[w.heap.size]? = some (.cells (cv V M) 25 (0, 0)) := by rw [hb3.block _ (by simp; omega)]; exact l0
  have m1 : w3.heap[w.heap.size + 1]? = some (.cells (hv H) 23 (0, 0)) := by rw [hb3.block _ (by simp; omega)]; exact l1
  have m2 : w3.heap[w2.heap.size]? = some (.cells (cv AV AM) 25 (0, 0)) := by rw [hb3.block _ (by simp)]; exact l2
  have B4 := B3.trans (hb3.mono B3.size)
  have z4 : w2.heap.size + 1 ≤ w3.heap.size := Nat.le_trans (by simp) hb3.size
  clear k0 k1 B2 l0 l1 l2 B3 hb3 C2
  have p0 := heap_past w3 (.cells (cv BV BM) 25) _ _ m0
  have p1 := heap_past w3 (.cells (cv BV BM) 25) _ _ m1
  have p2 := heap_past w3 (.cells (cv BV BM) 25) _ _ m2
  have p3 := heap_new w3 (.cells (cv BV BM) 25) _ rfl
  have B5 := B4.alloc B4.size (.cells (cv BV BM) 25)
  go_wp2_with (first
    | (refine wl_storeC rfl _ _ rfl w3.heap.size BV BM rfl rfl _ (heap_new _ _ _ rfl) rfl hBl hBm _ (setRow_new _ _ _ _ _ rfl) ?_)
    | (refine wl_loadC rfl _ rfl w.heap.size rfl V M p0 hVl hMl ?_))
  refine (C3.out _).mono ?_
  rintro e w4 ⟨rfl, hb4⟩
  have q0 : w4.heap[w.heap.size]? = some (.cells (cv V M) 25 (0, 0)) := by rw [hb4.block _ (by simp; omega)]; exact p0
  have q1 : w4.heap[w.heap.size + 1]? = some (.cells (hv H) 23 (0, 0)) := by rw [hb4.block _ (by simp; omega)]; exact p1
  have q2 : w4.heap[w2.heap.size]? = some (.cells (cv AV AM) 25 (0, 0)) := by rw [hb4.block _ (by simp; omega)]; exact p2
  have q3 : w4.heap[w3.heap.size]? = some (.cells (cv BV BM) 25 (0, 0)) := by rw [hb4.block _ (by simp)]; exact p3
  have B6 := B5.trans (hb4.mono B5.size)
  clear m0 m1 m2 B4 p0 p1 p2 p3 B5 hb4 C3
  have n0 := heap_past (w4.alloc (.cells (cv XV XM) 25)) (.cells (cv YV YM) 25) _ _ (heap_past w4 (.cells (cv XV XM) 25) _ _ q0)
  have n1 := heap_past (w4.alloc (.cells (cv XV XM) 25)) (.cells (cv YV YM) 25) _ _ (heap_past w4 (.cells (cv XV XM) 25) _ _ q1)
  have n2 := heap_past (w4.alloc (.cells (cv XV XM) 25)) (.cells (cv YV YM) 25) _ _ (heap_past w4 (.cells (cv XV XM) 25) _ _ q2)
  have n3 := heap_past (w4.alloc (.cells (cv XV XM) 25)) (.cells (cv YV YM) 25) _ _ (heap_past w4 (.cells (cv XV XM) 25) _ _ q3)
  have n4 := heap_past (w4.alloc (.cells (cv XV XM) 25)) (.cells (cv YV YM) 25) _ _ (heap_new w4 (.cells (cv XV XM) 25) _ rfl)
  have n5 := heap_new (w4.alloc (.cells (cv XV XM) 25)) (.cells (cv YV YM) 25) (w4.heap.size + 1) (by simp)
  have B7 := (B6.alloc B6.size (.cells (cv XV XM) 25)).alloc (by simp; exact Nat.le_trans B6.size (by omega)) (.cells (cv YV YM) 25)
  clear q0 q1 q2 q3
  obtain ⟨W, hW⟩ : ∃ W, W = (w4.alloc (.cells (cv XV XM) 25)).alloc (.cells (cv YV YM) 25) := ⟨_, rfl⟩
  have hi0 : ¬ (i : Int) < 0 := by omega
  have hi1 : ¬ (104 : Int) ≤ (i : Int) := by omega
  go_wp2_with (first
    | (refine wl_storeC rfl _ _ rfl w4.heap.size XV XM rfl rfl _ (heap_past _ _ _ _ (heap_new _ _ _ rfl)) rfl hXl hXm _ (by rw [setRow_past _ _ _ _ (by simp), setRow_new _ _ _ _ _ rfl]) ?_)
    | (refine wl_storeC rfl _ _ rfl (w4.heap.size + 1) YV YM rfl rfl _ (heap_new _ _ _ (by simp)) rfl hYl hYm _ (setRow_new _ _ _ _ _ (by simp)) ?_))
  rw [← hW] at n0 n1 n2 n3 n4 n5 B7 ⊢
  clear hW B6
  have ne1 := Later.ne W
  refine wp_region_later (by kernel_rfl) (by kernel_rfl) ?_
  go_big_quiet_step (fail)
  go_big_quiet_step (fail)
  go_big_quiet_step (fail)
  go_big_quiet_step (fail)
  go_big_quiet_step (fail)
  go_big_quiet_step (fail)
  go_big_quiet_step (fail)
  refine qlC rfl _ rfl w2.heap.size rfl AV AM n2 hAl hAm ?_
  simp only [Act.put, List.setIfInBounds_toArray, List.set_cons_succ, List.set_cons_zero]
  refine qlC rfl _ rfl w.heap.size rfl V M n0 hVl hMl ?_
  simp only [Act.put, List.setIfInBounds_toArray, List.set_cons_succ, List.set_cons_zero]
  go_big_quiet_want; go_big_quiet_op
  refine ⟨_, fun u => Calls.later_of (C4.out u.world), ?_⟩
  go_big_quiet_on
  go_big_quiet_step (fail)
  go_big_quiet_step (fail)
  go_big_quiet_want; go_big_quiet_op
  refine ⟨_, fun u => Calls.later_of (C5.out u.world), ?_⟩
  go_big_quiet_on
  go_big_quiet_step (fail)
  go_big_quiet_step (fail)
  go_big_quiet_step (fail)
  refine qlC rfl _ rfl w3.heap.size rfl BV BM n3 hBl hBm ?_
  simp only [Act.put, List.setIfInBounds_toArray, List.set_cons_succ, List.set_cons_zero]
  refine qlC rfl _ rfl w.heap.size rfl V M n0 hVl hMl ?_
  simp only [Act.put, List.setIfInBounds_toArray, List.set_cons_succ, List.set_cons_zero]
  go_big_quiet_want; go_big_quiet_op
  refine ⟨_, fun u => Calls.later_of (C4.out u.world), ?_⟩
  go_big_quiet_on
  go_big_quiet_step (fail)
  go_big_quiet_want; go_big_quiet_op
  refine ⟨_, fun u => Calls.later_of (C6.out u.world), ?_⟩
  go_big_quiet_on
  go_big_quiet_step (fail)
  go_big_quiet_step (fail)
  refine wpQuiet_nil ?_
  rintro w' ⟨u, rfl⟩
  obtain ⟨W1, hW1⟩ : ∃ W1, W1 = u.world := ⟨_, rfl⟩
  have r0 : W1.heap[w.heap.size]? = some (.cells (cv V M) 25 (0, 0)) := by rw [hW1]; exact later_block n0 _ ⟨u, rfl⟩
  have r1 : W1.heap[w.heap.size + 1]? = some (.cells (hv H) 23 (0, 0)) := by rw [hW1]; exact later_block n1 _ ⟨u, rfl⟩
  have r4 : W1.heap[w4.heap.size]? = some (.cells (cv XV XM) 25 (0, 0)) := by rw [hW1]; exact later_block n4 _ ⟨u, rfl⟩
  have r5 : W1.heap[w4.heap.size + 1]? = some (.cells (cv YV YM) 25 (0, 0)) := by rw [hW1]; exact later_block n5 _ ⟨u, rfl⟩
  have B8 : Below w.heap.size w W1 := by rw [hW1]; exact B7.trans (u.below.mono B7.size)
  rw [← hW1]
  have z8 := (Array.getElem?_eq_some_iff.1 r5).1
  have z9 := (Array.getElem?_eq_some_iff.1 r4).1
  have z10 := (Array.getElem?_eq_some_iff.1 r1).1
  clear hW1 n0 n1 n2 n3 n4 n5 B7 ne1 C5 C6
  go_wp2_with (first
    | (refine wl_loadC rfl _ rfl w.heap.size rfl V M r0 hVl hMl ?_))
  refine (C7.out _).mono ?_
  rintro e w5 ⟨rfl, hb5⟩
  have t0 : w5.heap[w.heap.size]? = some (.cells (cv V M) 25 (0, 0)) := by rw [hb5.block _ (by omega)]; exact r0
  have t1 : w5.heap[w.heap.size + 1]? = some (.cells (hv H) 23 (0, 0)) := by rw [hb5.block _ (by omega)]; exact r1
  have t4 : w5.heap[w4.heap.size]? = some (.cells (cv XV XM) 25 (0, 0)) := by rw [hb5.block _ (by omega)]; exact r4
  have t5 : w5.heap[w4.heap.size + 1]? = some (.cells (cv YV YM) 25 (0, 0)) := by rw [hb5.block _ (by omega)]; exact r5
  have B9 := B8.trans (hb5.mono B8.size)
  clear r0 r1 r4 r5 B8 hb5 z8 z9 z10 C7
  go_wp2_with fail
  have ne2 := Later.ne w5
  refine wp_region_later (by kernel_rfl) (by kernel_rfl) ?_
  go_big_quiet_step (fail)
  go_big_quiet_step (fail)
  go_big_quiet_step (fail)
  refine qlC rfl _ rfl w4.heap.size rfl XV XM t4 hXl hXm ?_
  simp only [Act.put, List.setIfInBounds_toArray, List.set_cons_succ, List.set_cons_zero]
  refine qlC rfl _ rfl w.heap.size rfl V M t0 hVl hMl ?_
  simp only [Act.put, List.setIfInBounds_toArray, List.set_cons_succ, List.set_cons_zero]
  go_big_quiet_want; go_big_quiet_op
  refine ⟨_, fun u => Calls.later_of (C4.out u.world), ?_⟩
  go_big_quiet_on
  go_big_quiet_step (fail)
  go_big_quiet_want; go_big_quiet_op
  refine ⟨_, fun u => Calls.later_of (C8.out u.world), ?_⟩
  go_big_quiet_on
  go_big_quiet_step (fail)
  go_big_quiet_step (fail)
  go_big_quiet_step (fail)
  refine qlC rfl _ rfl (w4.heap.size + 1) rfl YV YM t5 hYl hYm ?_
  simp only [Act.put, List.setIfInBounds_toArray, List.set_cons_succ, List.set_cons_zero]
  refine qlC rfl _ rfl w.heap.size rfl V M t0 hVl hMl ?_
  simp only [Act.put, List.setIfInBounds_toArray, List.set_cons_succ, List.set_cons_zero]
  go_big_quiet_want; go_big_quiet_op
  refine ⟨_, fun u => Calls.later_of (C4.out u.world), ?_⟩
  go_big_quiet_on
  go_big_quiet_step (fail)
  go_big_quiet_want; go_big_quiet_op
  refine ⟨_, fun u => Calls.later_of (C9.out u.world), ?_⟩
  go_big_quiet_on
  go_big_quiet_step (fail)
  go_big_quiet_step (fail)
  go_big_quiet_step (fail)
  refine qlC rfl _ rfl w.heap.size rfl V M t0 hVl hMl ?_
  simp only [Act.put, List.setIfInBounds_toArray, List.set_cons_succ, List.set_cons_zero]
  refine qlH rfl _ rfl (w.heap.size + 1) rfl H t1 hHl ?_
  simp only [Act.put, List.setIfInBounds_toArray, List.set_cons_succ, List.set_cons_zero]
  go_big_quiet_want; go_big_quiet_op
  refine ⟨_, fun u => Calls.later_of (C10.out u.world), ?_⟩
  go_big_quiet_on
  refine qlC rfl _ rfl w4.heap.size rfl XV XM t4 hXl hXm ?_
  simp only [Act.put, List.setIfInBounds_toArray, List.set_cons_succ, List.set_cons_zero]
  refine qlH rfl _ rfl (w.heap.size + 1) rfl H t1 hHl ?_
  simp only [Act.put, List.setIfInBounds_toArray, List.set_cons_succ, List.set_cons_zero]
  go_big_quiet_want; go_big_quiet_op
  refine ⟨_, fun u => Calls.later_of (C11.out u.world), ?_⟩
  go_big_quiet_on
  go_big_quiet_step (fail)
  refine qlC rfl _ rfl (w4.heap.size + 1) rfl YV YM t5 hYl hYm ?_
  simp only [Act.put, List.setIfInBounds_toArray, List.set_cons_succ, List.set_cons_zero]
  refine qlH rfl _ rfl (w.heap.size + 1) rfl H t1 hHl ?_
  simp only [Act.put, List.setIfInBounds_toArray, List.set_cons_succ, List.set_cons_zero]
  go_big_quiet_want; go_big_quiet_op
  refine ⟨_, fun u => Calls.later_of (C12.out u.world), ?_⟩
  go_big_quiet_on
  go_big_quiet_step (fail)
  go_big_quiet_step (fail)
  go_big_quiet_step (fail)
  go_big_quiet_step (fail)
  refine qlC rfl _ rfl w4.heap.size rfl XV XM t4 hXl hXm ?_
  simp only [Act.put, List.setIfInBounds_toArray, List.set_cons_succ, List.set_cons_zero]
  refine qlH rfl _ rfl (w.heap.size + 1) rfl H t1 hHl ?_
  simp only [Act.put, List.setIfInBounds_toArray, List.set_cons_succ, List.set_cons_zero]
  go_big_quiet_want; go_big_quiet_op
  refine ⟨_, fun u => Calls.later_of (C11.out u.world), ?_⟩
  go_big_quiet_on
  go_big_quiet_step (fail)
  go_big_quiet_step (fail)
  go_big_quiet_step (fail)
  go_big_quiet_step (fail)
  go_big_quiet_step (fail)
  go_big_quiet_step (fail)
  go_big_quiet_step (fail)
  go_big_quiet_step (fail)
  refine wpQuiet_nil ?_
  rintro w' ⟨u2, rfl⟩
  go_wp2
  go_ret
  exact ⟨rfl, B9.trans (u2.below.mono B9.size)⟩

set_option maxHeartbeats 8000000 in
set_option maxRecDepth 100000 in
theorem fixes_free_tx (V M H CV AV AM BV BM XV XM YV YM : List Int) (i : Nat) (hi : i < 104) (hVl : V.length = 13) (hMl : M.length = 13) (hHl : H.length = 13) (hAl : AV.length = 13) (hAm : AM.length = 13) (hBl : BV.length = 13) (hBm : BM.length = 13) (hXl : XV.length = 13) (hXm : XM.length = 13) (hYl : YV.length = 13) (hYm : YM.length = 13)
    (c1 : ∀ W, Calls Try.prog 25 #[.agg (cv V M), .int .i64 (i : Int), .bool true] W fun e w' => e = .returned (.tuple #[.agg (cv AV AM), .int .i64 0]) ∧ Below W.heap.size W w')
    (c2 : ∀ W, Calls Try.prog 26 #[.agg (cv V M), .int .i64 (i : Int)] W fun e w' => e = .returned (.tuple #[.agg (cv BV BM), .int .i64 0]) ∧ Below W.heap.size W w')
    (c3 : ∀ W, Calls Try.prog 27 #[.agg (cv V M), .int .i64 (i : Int)] W fun e w' => e = .returned (.tuple #[.agg (cv XV XM), .agg (cv YV YM), .int .i64 0]) ∧ Below W.heap.size W w')
    (c4 : ∀ W, Calls Try.prog 13 #[.agg (cv V M)] W fun e w' => e = .returned (.agg (cv CV M)) ∧ Below W.heap.size W w')
    (c5 : ∀ W, Calls Try.prog 28 #[.agg (cv CV M), .int .i64 (i : Int), .int .i64 1] W fun e w' => e = .returned (.agg (cv AV AM)) ∧ Below W.heap.size W w')
    (c6 : ∀ W, Calls Try.prog 28 #[.agg (cv CV M), .int .i64 (i : Int), .int .i64 2] W fun e w' => e = .returned (.agg (cv BV BM)) ∧ Below W.heap.size W w')
    (c7 : ∀ W, Calls Try.prog 29 #[.agg (cv V M), .int .i64 (i : Int)] W fun e w' => e = .returned (.int .i64 2) ∧ Below W.heap.size W w')
    (c8 : ∀ W, Calls Try.prog 28 #[.agg (cv CV M), .int .i64 (i : Int), .int .i64 0] W fun e w' => e = .returned (.agg (cv XV XM)) ∧ Below W.heap.size W w')
    (c9 : ∀ W, Calls Try.prog 28 #[.agg (cv CV M), .int .i64 (i : Int), .int .i64 1] W fun e w' => e = .returned (.agg (cv YV YM)) ∧ Below W.heap.size W w')
    (c10 : ∀ W, Calls Try.prog 11 #[.agg (cv V M), .agg (hv H)] W fun e w' => e = .returned (.bool true) ∧ Below W.heap.size W w')
    (c11 : ∀ W, Calls Try.prog 11 #[.agg (cv XV XM), .agg (hv H)] W fun e w' => e = .returned (.bool true) ∧ Below W.heap.size W w')
    (c12 : ∀ W, Calls Try.prog 11 #[.agg (cv YV YM), .agg (hv H)] W fun e w' => e = .returned (.bool false) ∧ Below W.heap.size W w')
    (w : World) : Calls Try.prog 8 #[.agg (cv V M), .int .i64 (i : Int), .bool true, .agg (hv H)] w fun e w' => e = .returned (.bool true) ∧ Below w.heap.size w w' := by
  have C1 : Hid (∀ W, Calls Try.prog 25 #[.agg (cv V M), .int .i64 (i : Int), .bool true] W fun e w' => e = .returned (.tuple #[.agg (cv AV AM), .int .i64 0]) ∧ Below W.heap.size W w') := c1
  have C2 : Hid (∀ W, Calls Try.prog 26 #[.agg (cv V M), .int .i64 (i : Int)] W fun e w' => e = .returned (.tuple #[.agg (cv BV BM), .int .i64 0]) ∧ Below W.heap.size W w') := c2
  have C3 : Hid (∀ W, Calls Try.prog 27 #[.agg (cv V M), .int .i64 (i : Int)] W fun e w' => e = .returned (.tuple #[.agg (cv XV XM), .agg (cv YV YM), .int .i64 0]) ∧ Below W.heap.size W w') := c3
  have C4 : Hid (∀ W, Calls Try.prog 13 #[.agg (cv V M)] W fun e w' => e = .returned (.agg (cv CV M)) ∧ Below W.heap.size W w') := c4
  have C5 : Hid (∀ W, Calls Try.prog 28 #[.agg (cv CV M), .int .i64 (i : Int), .int .i64 1] W fun e w' => e = .returned (.agg (cv AV AM)) ∧ Below W.heap.size W w') := c5
  have C6 : Hid (∀ W, Calls Try.prog 28 #[.agg (cv CV M), .int .i64 (i : Int), .int .i64 2] W fun e w' => e = .returned (.agg (cv BV BM)) ∧ Below W.heap.size W w') := c6
  have C7 : Hid (∀ W, Calls Try.prog 29 #[.agg (cv V M), .int .i64 (i : Int)] W fun e w' => e = .returned (.int .i64 2) ∧ Below W.heap.size W w') := c7
  have C8 : Hid (∀ W, Calls Try.prog 28 #[.agg (cv CV M), .int .i64 (i : Int), .int .i64 0] W fun e w' => e = .returned (.agg (cv XV XM)) ∧ Below W.heap.size W w') := c8
  have C9 : Hid (∀ W, Calls Try.prog 28 #[.agg (cv CV M), .int .i64 (i : Int), .int .i64 1] W fun e w' => e = .returned (.agg (cv YV YM)) ∧ Below W.heap.size W w') := c9
  have C10 : Hid (∀ W, Calls Try.prog 11 #[.agg (cv V M), .agg (hv H)] W fun e w' => e = .returned (.bool true) ∧ Below W.heap.size W w') := c10
  have C11 : Hid (∀ W, Calls Try.prog 11 #[.agg (cv XV XM), .agg (hv H)] W fun e w' => e = .returned (.bool true) ∧ Below W.heap.size W w') := c11
  have C12 : Hid (∀ W, Calls Try.prog 11 #[.agg (cv YV YM), .agg (hv H)] W fun e w' => e = .returned (.bool false) ∧ Below W.heap.size W w') := c12
  have e1 : ∀ w, (Op.equalIn 10000 25 (.agg (cv AV AM)) (.agg (cv AV AM))).run Try.prog w = .ok true w := fun w => by rw [eqC _ _ _ _ hAl hAm hAl hAm]; simp
  have e2 : ∀ w, (Op.equalIn 10000 25 (.agg (cv BV BM)) (.agg (cv BV BM))).run Try.prog w = .ok true w := fun w => by rw [eqC _ _ _ _ hBl hBm hBl hBm]; simp
  have e3 : ∀ w, (Op.equalIn 10000 25 (.agg (cv XV XM)) (.agg (cv XV XM))).run Try.prog w = .ok true w := fun w => by rw [eqC _ _ _ _ hXl hXm hXl hXm]; simp
  have e4 : ∀ w, (Op.equalIn 10000 25 (.agg (cv YV YM)) (.agg (cv YV YM))).run Try.prog w = .ok true w := fun w => by rw [eqC _ _ _ _ hYl hYm hYl hYm]; simp
  have eg : ∀ op x y (xs ys : Array Value) w, (eqGuard op 25 x y (.agg xs) (.agg ys)).run Try.prog w = .ok () w := egC
  have hzl := Z_byt.1
  clear c1 c2 c3 c4 c5 c6 c7 c8 c9 c10 c11 c12
  go_enter Try.func8, Try.ntmps8
  go_wp2_with fail
  refine (awake_any _).mono ?_
  rintro e w1 ⟨rfl, hb1⟩
  have g0 : w1.heap[w.heap.size]? = some (.cells (cv V M) 25 (0, 0)) := by rw [hb1.block _ (by simp; omega)]; exact heap_past _ _ _ _ (heap_new _ _ _ rfl)
  have g1 : w1.heap[w.heap.size + 1]? = some (.cells (hv H) 23 (0, 0)) := by rw [hb1.block _ (by simp)]; exact heap_new _ _ _ (by simp)
  have B1 : Below w.heap.size w w1 := (((Below.refl _ _).alloc (Nat.le_refl _) _).alloc (by simp) _).trans (hb1.mono (by simp; omega))
  have z1 : w.heap.size + 2 ≤ w1.heap.size := Nat.le_trans (by simp) hb1.size
  clear hb1
  go_wp2_with (first
    | (refine wl_loadC rfl _ rfl w.heap.size rfl V M g0 hVl hMl ?_))
  refine (C1.out _).mono ?_
  rintro e w2 ⟨rfl, hb2⟩
  have k0 : w2.heap[w.heap.size]? = some (.cells (cv V M) 25 (0, 0)) := by rw [hb2.block _ (by omega)]; exact g0
  have k1 : w2.heap[w.heap.size + 1]? = some (.cells (hv H) 23 (0, 0)) := by rw [hb2.block _ (by omega)]; exact g1
  have B2 := B1.trans (hb2.mono B1.size)
  have z2 : w.heap.size + 2 ≤ w2.heap.size := Nat.le_trans z1 hb2.size
  clear g0 g1 B1 z1 hb2 C1
  have l0 := heap_past w2 (.cells (cv AV AM) 25) _ _ k0
  have l1 := heap_past w2 (.cells (cv AV AM) 25) _ _ k1
  have l2 := heap_new w2 (.cells (cv AV AM) 25) _ rfl
  have B3 := B2.alloc B2.size (.cells (cv AV AM) 25)
  go_wp2_with (first
    | (refine wl_storeC rfl _ _ rfl w2.heap.size AV AM rfl rfl _ (heap_new _ _ _ rfl) rfl hAl hAm _ (setRow_new _ _ _ _ _ rfl) ?_)
    | (refine wl_loadC rfl _ rfl w.heap.size rfl V M l0 hVl hMl ?_))
  refine (C2.out _).mono ?_
  rintro e w3 ⟨rfl, hb3⟩
  have m0 : w3.heap[w.heap.size]? = some (.cells (cv V M) 25 (0, 0)) := by rw [hb3.block _ (by simp; omega)]; exact l0
  have m1 : w3.heap[w.heap.size + 1]? = some (.cells (hv H) 23 (0, 0)) := by rw [hb3.block _ (by simp; omega)]; exact l1
  have m2 : w3.heap[w2.heap.size]? = some (.cells (cv AV AM) 25 (0, 0)) := by rw [hb3.block _ (by simp)]; exact l2
  have B4 := B3.trans (hb3.mono B3.size)
  have z4 : w2.heap.size + 1 ≤ w3.heap.size := Nat.le_trans (by simp) hb3.size
  clear k0 k1 B2 l0 l1 l2 B3 hb3 C2
  have p0 := heap_past w3 (.cells (cv BV BM) 25) _ _ m0
  have p1 := heap_past w3 (.cells (cv BV BM) 25) _ _ m1
  have p2 := heap_past w3 (.cells (cv BV BM) 25) _ _ m2
  have p3 := heap_new w3 (.cells (cv BV BM) 25) _ rfl
  have B5 := B4.alloc B4.size (.cells (cv BV BM) 25)
  go_wp2_with (first
    | (refine wl_storeC rfl _ _ rfl w3.heap.size BV BM rfl rfl _ (heap_new _ _ _ rfl) rfl hBl hBm _ (setRow_new _ _ _ _ _ rfl) ?_)
    | (refine wl_loadC rfl _ rfl w.heap.size rfl V M p0 hVl hMl ?_))
  refine (C3.out _).mono ?_
  rintro e w4 ⟨rfl, hb4⟩
  have q0 : w4.heap[w.heap.size]? = some (.cells (cv V M) 25 (0, 0)) := by rw [hb4.block _ (by simp; omega)]; exact p0
  have q1 : w4.heap[w.heap.size + 1]? = some (.cells (hv H) 23 (0, 0)) := by rw [hb4.block _ (by simp; omega)]; exact p1
  have q2 : w4.heap[w2.heap.size]? = some (.cells (cv AV AM) 25 (0, 0)) := by rw [hb4.block _ (by simp; omega)]; exact p2
  have q3 : w4.heap[w3.heap.size]? = some (.cells (cv BV BM) 25 (0, 0)) := by rw [hb4.block _ (by simp)]; exact p3
  have B6 := B5.trans (hb4.mono B5.size)
  clear m0 m1 m2 B4 p0 p1 p2 p3 B5 hb4 C3
  have n0 := heap_past (w4.alloc (.cells (cv XV XM) 25)) (.cells (cv YV YM) 25) _ _ (heap_past w4 (.cells (cv XV XM) 25) _ _ q0)
  have n1 := heap_past (w4.alloc (.cells (cv XV XM) 25)) (.cells (cv YV YM) 25) _ _ (heap_past w4 (.cells (cv XV XM) 25) _ _ q1)
  have n2 := heap_past (w4.alloc (.cells (cv XV XM) 25)) (.cells (cv YV YM) 25) _ _ (heap_past w4 (.cells (cv XV XM) 25) _ _ q2)
  have n3 := heap_past (w4.alloc (.cells (cv XV XM) 25)) (.cells (cv YV YM) 25) _ _ (heap_past w4 (.cells (cv XV XM) 25) _ _ q3)
  have n4 := heap_past (w4.alloc (.cells (cv XV XM) 25)) (.cells (cv YV YM) 25) _ _ (heap_new w4 (.cells (cv XV XM) 25) _ rfl)
  have n5 := heap_new (w4.alloc (.cells (cv XV XM) 25)) (.cells (cv YV YM) 25) (w4.heap.size + 1) (by simp)
  have B7 := (B6.alloc B6.size (.cells (cv XV XM) 25)).alloc (by simp; exact Nat.le_trans B6.size (by omega)) (.cells (cv YV YM) 25)
  clear q0 q1 q2 q3
  obtain ⟨W, hW⟩ : ∃ W, W = (w4.alloc (.cells (cv XV XM) 25)).alloc (.cells (cv YV YM) 25) := ⟨_, rfl⟩
  have hi0 : ¬ (i : Int) < 0 := by omega
  have hi1 : ¬ (104 : Int) ≤ (i : Int) := by omega
  go_wp2_with (first
    | (refine wl_storeC rfl _ _ rfl w4.heap.size XV XM rfl rfl _ (heap_past _ _ _ _ (heap_new _ _ _ rfl)) rfl hXl hXm _ (by rw [setRow_past _ _ _ _ (by simp), setRow_new _ _ _ _ _ rfl]) ?_)
    | (refine wl_storeC rfl _ _ rfl (w4.heap.size + 1) YV YM rfl rfl _ (heap_new _ _ _ (by simp)) rfl hYl hYm _ (setRow_new _ _ _ _ _ (by simp)) ?_))
  rw [← hW] at n0 n1 n2 n3 n4 n5 B7 ⊢
  clear hW B6
  have ne1 := Later.ne W
  refine wp_region_later (by kernel_rfl) (by kernel_rfl) ?_
  go_big_quiet_step (fail)
  go_big_quiet_step (fail)
  go_big_quiet_step (fail)
  go_big_quiet_step (fail)
  go_big_quiet_step (fail)
  go_big_quiet_step (fail)
  go_big_quiet_step (fail)
  refine qlC rfl _ rfl w2.heap.size rfl AV AM n2 hAl hAm ?_
  simp only [Act.put, List.setIfInBounds_toArray, List.set_cons_succ, List.set_cons_zero]
  refine qlC rfl _ rfl w.heap.size rfl V M n0 hVl hMl ?_
  simp only [Act.put, List.setIfInBounds_toArray, List.set_cons_succ, List.set_cons_zero]
  go_big_quiet_want; go_big_quiet_op
  refine ⟨_, fun u => Calls.later_of (C4.out u.world), ?_⟩
  go_big_quiet_on
  go_big_quiet_step (fail)
  go_big_quiet_step (fail)
  go_big_quiet_want; go_big_quiet_op
  refine ⟨_, fun u => Calls.later_of (C5.out u.world), ?_⟩
  go_big_quiet_on
  go_big_quiet_step (fail)
  go_big_quiet_step (fail)
  go_big_quiet_step (fail)
  refine qlC rfl _ rfl w3.heap.size rfl BV BM n3 hBl hBm ?_
  simp only [Act.put, List.setIfInBounds_toArray, List.set_cons_succ, List.set_cons_zero]
  refine qlC rfl _ rfl w.heap.size rfl V M n0 hVl hMl ?_
  simp only [Act.put, List.setIfInBounds_toArray, List.set_cons_succ, List.set_cons_zero]
  go_big_quiet_want; go_big_quiet_op
  refine ⟨_, fun u => Calls.later_of (C4.out u.world), ?_⟩
  go_big_quiet_on
  go_big_quiet_step (fail)
  go_big_quiet_want; go_big_quiet_op
  refine ⟨_, fun u => Calls.later_of (C6.out u.world), ?_⟩
  go_big_quiet_on
  go_big_quiet_step (fail)
  go_big_quiet_step (fail)
  refine wpQuiet_nil ?_
  rintro w' ⟨u, rfl⟩
  obtain ⟨W1, hW1⟩ : ∃ W1, W1 = u.world := ⟨_, rfl⟩
  have r0 : W1.heap[w.heap.size]? = some (.cells (cv V M) 25 (0, 0)) := by rw [hW1]; exact later_block n0 _ ⟨u, rfl⟩
  have r1 : W1.heap[w.heap.size + 1]? = some (.cells (hv H) 23 (0, 0)) := by rw [hW1]; exact later_block n1 _ ⟨u, rfl⟩
  have r4 : W1.heap[w4.heap.size]? = some (.cells (cv XV XM) 25 (0, 0)) := by rw [hW1]; exact later_block n4 _ ⟨u, rfl⟩
  have r5 : W1.heap[w4.heap.size + 1]? = some (.cells (cv YV YM) 25 (0, 0)) := by rw [hW1]; exact later_block n5 _ ⟨u, rfl⟩
  have B8 : Below w.heap.size w W1 := by rw [hW1]; exact B7.trans (u.below.mono B7.size)
  rw [← hW1]
  have z8 := (Array.getElem?_eq_some_iff.1 r5).1
  have z9 := (Array.getElem?_eq_some_iff.1 r4).1
  have z10 := (Array.getElem?_eq_some_iff.1 r1).1
  clear hW1 n0 n1 n2 n3 n4 n5 B7 ne1 C5 C6
  go_wp2_with (first
    | (refine wl_loadC rfl _ rfl w.heap.size rfl V M r0 hVl hMl ?_))
  refine (C7.out _).mono ?_
  rintro e w5 ⟨rfl, hb5⟩
  have t0 : w5.heap[w.heap.size]? = some (.cells (cv V M) 25 (0, 0)) := by rw [hb5.block _ (by omega)]; exact r0
  have t1 : w5.heap[w.heap.size + 1]? = some (.cells (hv H) 23 (0, 0)) := by rw [hb5.block _ (by omega)]; exact r1
  have t4 : w5.heap[w4.heap.size]? = some (.cells (cv XV XM) 25 (0, 0)) := by rw [hb5.block _ (by omega)]; exact r4
  have t5 : w5.heap[w4.heap.size + 1]? = some (.cells (cv YV YM) 25 (0, 0)) := by rw [hb5.block _ (by omega)]; exact r5
  have B9 := B8.trans (hb5.mono B8.size)
  clear r0 r1 r4 r5 B8 hb5 z8 z9 z10 C7
  go_wp2_with fail
  have ne2 := Later.ne w5
  refine wp_region_later (by kernel_rfl) (by kernel_rfl) ?_
  go_big_quiet_step (fail)
  go_big_quiet_step (fail)
  go_big_quiet_step (fail)
  refine qlC rfl _ rfl w4.heap.size rfl XV XM t4 hXl hXm ?_
  simp only [Act.put, List.setIfInBounds_toArray, List.set_cons_succ, List.set_cons_zero]
  refine qlC rfl _ rfl w.heap.size rfl V M t0 hVl hMl ?_
  simp only [Act.put, List.setIfInBounds_toArray, List.set_cons_succ, List.set_cons_zero]
  go_big_quiet_want; go_big_quiet_op
  refine ⟨_, fun u => Calls.later_of (C4.out u.world), ?_⟩
  go_big_quiet_on
  go_big_quiet_step (fail)
  go_big_quiet_want; go_big_quiet_op
  refine ⟨_, fun u => Calls.later_of (C8.out u.world), ?_⟩
  go_big_quiet_on
  go_big_quiet_step (fail)
  go_big_quiet_step (fail)
  go_big_quiet_step (fail)
  refine qlC rfl _ rfl (w4.heap.size + 1) rfl YV YM t5 hYl hYm ?_
  simp only [Act.put, List.setIfInBounds_toArray, List.set_cons_succ, List.set_cons_zero]
  refine qlC rfl _ rfl w.heap.size rfl V M t0 hVl hMl ?_
  simp only [Act.put, List.setIfInBounds_toArray, List.set_cons_succ, List.set_cons_zero]
  go_big_quiet_want; go_big_quiet_op
  refine ⟨_, fun u => Calls.later_of (C4.out u.world), ?_⟩
  go_big_quiet_on
  go_big_quiet_step (fail)
  go_big_quiet_want; go_big_quiet_op
  refine ⟨_, fun u => Calls.later_of (C9.out u.world), ?_⟩
  go_big_quiet_on
  go_big_quiet_step (fail)
  go_big_quiet_step (fail)
  go_big_quiet_step (fail)
  refine qlC rfl _ rfl w.heap.size rfl V M t0 hVl hMl ?_
  simp only [Act.put, List.setIfInBounds_toArray, List.set_cons_succ, List.set_cons_zero]
  refine qlH rfl _ rfl (w.heap.size + 1) rfl H t1 hHl ?_
  simp only [Act.put, List.setIfInBounds_toArray, List.set_cons_succ, List.set_cons_zero]
  go_big_quiet_want; go_big_quiet_op
  refine ⟨_, fun u => Calls.later_of (C10.out u.world), ?_⟩
  go_big_quiet_on
  refine qlC rfl _ rfl w4.heap.size rfl XV XM t4 hXl hXm ?_
  simp only [Act.put, List.setIfInBounds_toArray, List.set_cons_succ, List.set_cons_zero]
  refine qlH rfl _ rfl (w.heap.size + 1) rfl H t1 hHl ?_
  simp only [Act.put, List.setIfInBounds_toArray, List.set_cons_succ, List.set_cons_zero]
  go_big_quiet_want; go_big_quiet_op
  refine ⟨_, fun u => Calls.later_of (C11.out u.world), ?_⟩
  go_big_quiet_on
  go_big_quiet_step (fail)
  go_big_quiet_step (fail)
  go_big_quiet_step (fail)
  go_big_quiet_step (fail)
  go_big_quiet_step (fail)
  go_big_quiet_step (fail)
  go_big_quiet_step (fail)
  go_big_quiet_step (fail)
  refine qlC rfl _ rfl w4.heap.size rfl XV XM t4 hXl hXm ?_
  simp only [Act.put, List.setIfInBounds_toArray, List.set_cons_succ, List.set_cons_zero]
  refine qlH rfl _ rfl (w.heap.size + 1) rfl H t1 hHl ?_
  simp only [Act.put, List.setIfInBounds_toArray, List.set_cons_succ, List.set_cons_zero]
  go_big_quiet_want; go_big_quiet_op
  refine ⟨_, fun u => Calls.later_of (C11.out u.world), ?_⟩
  go_big_quiet_on
  go_big_quiet_step (fail)
  refine qlC rfl _ rfl (w4.heap.size + 1) rfl YV YM t5 hYl hYm ?_
  simp only [Act.put, List.setIfInBounds_toArray, List.set_cons_succ, List.set_cons_zero]
  refine qlH rfl _ rfl (w.heap.size + 1) rfl H t1 hHl ?_
  simp only [Act.put, List.setIfInBounds_toArray, List.set_cons_succ, List.set_cons_zero]
  go_big_quiet_want; go_big_quiet_op
  refine ⟨_, fun u => Calls.later_of (C12.out u.world), ?_⟩
  go_big_quiet_on
  go_big_quiet_step (fail)
  go_big_quiet_step (fail)
  go_big_quiet_step (fail)
  go_big_quiet_step (fail)
  refine wpQuiet_nil ?_
  rintro w' ⟨u2, rfl⟩
  go_wp2
  go_ret
  exact ⟨rfl, B9.trans (u2.below.mono B9.size)⟩

set_option maxHeartbeats 8000000 in
set_option maxRecDepth 100000 in
theorem fixes_free_ty (V M H CV AV AM BV BM XV XM YV YM : List Int) (i : Nat) (hi : i < 104) (hVl : V.length = 13) (hMl : M.length = 13) (hHl : H.length = 13) (hAl : AV.length = 13) (hAm : AM.length = 13) (hBl : BV.length = 13) (hBm : BM.length = 13) (hXl : XV.length = 13) (hXm : XM.length = 13) (hYl : YV.length = 13) (hYm : YM.length = 13)
    (c1 : ∀ W, Calls Try.prog 25 #[.agg (cv V M), .int .i64 (i : Int), .bool true] W fun e w' => e = .returned (.tuple #[.agg (cv AV AM), .int .i64 0]) ∧ Below W.heap.size W w')
    (c2 : ∀ W, Calls Try.prog 26 #[.agg (cv V M), .int .i64 (i : Int)] W fun e w' => e = .returned (.tuple #[.agg (cv BV BM), .int .i64 0]) ∧ Below W.heap.size W w')
    (c3 : ∀ W, Calls Try.prog 27 #[.agg (cv V M), .int .i64 (i : Int)] W fun e w' => e = .returned (.tuple #[.agg (cv XV XM), .agg (cv YV YM), .int .i64 0]) ∧ Below W.heap.size W w')
    (c4 : ∀ W, Calls Try.prog 13 #[.agg (cv V M)] W fun e w' => e = .returned (.agg (cv CV M)) ∧ Below W.heap.size W w')
    (c5 : ∀ W, Calls Try.prog 28 #[.agg (cv CV M), .int .i64 (i : Int), .int .i64 1] W fun e w' => e = .returned (.agg (cv AV AM)) ∧ Below W.heap.size W w')
    (c6 : ∀ W, Calls Try.prog 28 #[.agg (cv CV M), .int .i64 (i : Int), .int .i64 2] W fun e w' => e = .returned (.agg (cv BV BM)) ∧ Below W.heap.size W w')
    (c7 : ∀ W, Calls Try.prog 29 #[.agg (cv V M), .int .i64 (i : Int)] W fun e w' => e = .returned (.int .i64 2) ∧ Below W.heap.size W w')
    (c8 : ∀ W, Calls Try.prog 28 #[.agg (cv CV M), .int .i64 (i : Int), .int .i64 0] W fun e w' => e = .returned (.agg (cv XV XM)) ∧ Below W.heap.size W w')
    (c9 : ∀ W, Calls Try.prog 28 #[.agg (cv CV M), .int .i64 (i : Int), .int .i64 1] W fun e w' => e = .returned (.agg (cv YV YM)) ∧ Below W.heap.size W w')
    (c10 : ∀ W, Calls Try.prog 11 #[.agg (cv V M), .agg (hv H)] W fun e w' => e = .returned (.bool true) ∧ Below W.heap.size W w')
    (c11 : ∀ W, Calls Try.prog 11 #[.agg (cv XV XM), .agg (hv H)] W fun e w' => e = .returned (.bool false) ∧ Below W.heap.size W w')
    (c12 : ∀ W, Calls Try.prog 11 #[.agg (cv YV YM), .agg (hv H)] W fun e w' => e = .returned (.bool true) ∧ Below W.heap.size W w')
    (w : World) : Calls Try.prog 8 #[.agg (cv V M), .int .i64 (i : Int), .bool true, .agg (hv H)] w fun e w' => e = .returned (.bool true) ∧ Below w.heap.size w w' := by
  have C1 : Hid (∀ W, Calls Try.prog 25 #[.agg (cv V M), .int .i64 (i : Int), .bool true] W fun e w' => e = .returned (.tuple #[.agg (cv AV AM), .int .i64 0]) ∧ Below W.heap.size W w') := c1
  have C2 : Hid (∀ W, Calls Try.prog 26 #[.agg (cv V M), .int .i64 (i : Int)] W fun e w' => e = .returned (.tuple #[.agg (cv BV BM), .int .i64 0]) ∧ Below W.heap.size W w') := c2
  have C3 : Hid (∀ W, Calls Try.prog 27 #[.agg (cv V M), .int .i64 (i : Int)] W fun e w' => e = .returned (.tuple #[.agg (cv XV XM), .agg (cv YV YM), .int .i64 0]) ∧ Below W.heap.size W w') := c3
  have C4 : Hid (∀ W, Calls Try.prog 13 #[.agg (cv V M)] W fun e w' => e = .returned (.agg (cv CV M)) ∧ Below W.heap.size W w') := c4
  have C5 : Hid (∀ W, Calls Try.prog 28 #[.agg (cv CV M), .int .i64 (i : Int), .int .i64 1] W fun e w' => e = .returned (.agg (cv AV AM)) ∧ Below W.heap.size W w') := c5
  have C6 : Hid (∀ W, Calls Try.prog 28 #[.agg (cv CV M), .int .i64 (i : Int), .int .i64 2] W fun e w' => e = .returned (.agg (cv BV BM)) ∧ Below W.heap.size W w') := c6
  have C7 : Hid (∀ W, Calls Try.prog 29 #[.agg (cv V M), .int .i64 (i : Int)] W fun e w' => e = .returned (.int .i64 2) ∧ Below W.heap.size W w') := c7
  have C8 : Hid (∀ W, Calls Try.prog 28 #[.agg (cv CV M), .int .i64 (i : Int), .int .i64 0] W fun e w' => e = .returned (.agg (cv XV XM)) ∧ Below W.heap.size W w') := c8
  have C9 : Hid (∀ W, Calls Try.prog 28 #[.agg (cv CV M), .int .i64 (i : Int), .int .i64 1] W fun e w' => e = .returned (.agg (cv YV YM)) ∧ Below W.heap.size W w') := c9
  have C10 : Hid (∀ W, Calls Try.prog 11 #[.agg (cv V M), .agg (hv H)] W fun e w' => e = .returned (.bool true) ∧ Below W.heap.size W w') := c10
  have C11 : Hid (∀ W, Calls Try.prog 11 #[.agg (cv XV XM), .agg (hv H)] W fun e w' => e = .returned (.bool false) ∧ Below W.heap.size W w') := c11
  have C12 : Hid (∀ W, Calls Try.prog 11 #[.agg (cv YV YM), .agg (hv H)] W fun e w' => e = .returned (.bool true) ∧ Below W.heap.size W w') := c12
  have e1 : ∀ w, (Op.equalIn 10000 25 (.agg (cv AV AM)) (.agg (cv AV AM))).run Try.prog w = .ok true w := fun w => by rw [eqC _ _ _ _ hAl hAm hAl hAm]; simp
  have e2 : ∀ w, (Op.equalIn 10000 25 (.agg (cv BV BM)) (.agg (cv BV BM))).run Try.prog w = .ok true w := fun w => by rw [eqC _ _ _ _ hBl hBm hBl hBm]; simp
  have e3 : ∀ w, (Op.equalIn 10000 25 (.agg (cv XV XM)) (.agg (cv XV XM))).run Try.prog w = .ok true w := fun w => by rw [eqC _ _ _ _ hXl hXm hXl hXm]; simp
  have e4 : ∀ w, (Op.equalIn 10000 25 (.agg (cv YV YM)) (.agg (cv YV YM))).run Try.prog w = .ok true w := fun w => by rw [eqC _ _ _ _ hYl hYm hYl hYm]; simp
  have eg : ∀ op x y (xs ys : Array Value) w, (eqGuard op 25 x y (.agg xs) (.agg ys)).run Try.prog w = .ok () w := egC
  have hzl := Z_byt.1
  clear c1 c2 c3 c4 c5 c6 c7 c8 c9 c10 c11 c12
  go_enter Try.func8, Try.ntmps8
  go_wp2_with fail
  refine (awake_any _).mono ?_
  rintro e w1 ⟨rfl, hb1⟩
  have g0 : w1.heap[w.heap.size]? = some (.cells (cv V M) 25 (0, 0)) := by rw [hb1.block _ (by simp; omega)]; exact heap_past _ _ _ _ (heap_new _ _ _ rfl)
  have g1 : w1.heap[w.heap.size + 1]? = some (.cells (hv H) 23 (0, 0)) := by rw [hb1.block _ (by simp)]; exact heap_new _ _ _ (by simp)
  have B1 : Below w.heap.size w w1 := (((Below.refl _ _).alloc (Nat.le_refl _) _).alloc (by simp) _).trans (hb1.mono (by simp; omega))
  have z1 : w.heap.size + 2 ≤ w1.heap.size := Nat.le_trans (by simp) hb1.size
  clear hb1
  go_wp2_with (first
    | (refine wl_loadC rfl _ rfl w.heap.size rfl V M g0 hVl hMl ?_))
  refine (C1.out _).mono ?_
  rintro e w2 ⟨rfl, hb2⟩
  have k0 : w2.heap[w.heap.size]? = some (.cells (cv V M) 25 (0, 0)) := by rw [hb2.block _ (by omega)]; exact g0
  have k1 : w2.heap[w.heap.size + 1]? = some (.cells (hv H) 23 (0, 0)) := by rw [hb2.block _ (by omega)]; exact g1
  have B2 := B1.trans (hb2.mono B1.size)
  have z2 : w.heap.size + 2 ≤ w2.heap.size := Nat.le_trans z1 hb2.size
  clear g0 g1 B1 z1 hb2 C1
  have l0 := heap_past w2 (.cells (cv AV AM) 25) _ _ k0
  have l1 := heap_past w2 (.cells (cv AV AM) 25) _ _ k1
  have l2 := heap_new w2 (.cells (cv AV AM) 25) _ rfl
  have B3 := B2.alloc B2.size (.cells (cv AV AM) 25)
  go_wp2_with (first
    | (refine wl_storeC rfl _ _ rfl w2.heap.size AV AM rfl rfl _ (heap_new _ _ _ rfl) rfl hAl hAm _ (setRow_new _ _ _ _ _ rfl) ?_)
    | (refine wl_loadC rfl _ rfl w.heap.size rfl V M l0 hVl hMl ?_))
  refine (C2.out _).mono ?_
  rintro e w3 ⟨rfl, hb3⟩
  have m0 : w3.heap[w.heap.size]? = some (.cells (cv V M) 25 (0, 0)) := by rw [hb3.block _ (by simp; omega)]; exact l0
  have m1 : w3.heap[w.heap.size + 1]? = some (.cells (hv H) 23 (0, 0)) := by rw [hb3.block _ (by simp; omega)]; exact l1
  have m2 : w3.heap[w2.heap.size]? = some (.cells (cv AV AM) 25 (0, 0)) := by rw [hb3.block _ (by simp)]; exact l2
  have B4 := B3.trans (hb3.mono B3.size)
  have z4 : w2.heap.size + 1 ≤ w3.heap.size := Nat.le_trans (by simp) hb3.size
  clear k0 k1 B2 l0 l1 l2 B3 hb3 C2
  have p0 := heap_past w3 (.cells (cv BV BM) 25) _ _ m0
  have p1 := heap_past w3 (.cells (cv BV BM) 25) _ _ m1
  have p2 := heap_past w3 (.cells (cv BV BM) 25) _ _ m2
  have p3 := heap_new w3 (.cells (cv BV BM) 25) _ rfl
  have B5 := B4.alloc B4.size (.cells (cv BV BM) 25)
  go_wp2_with (first
    | (refine wl_storeC rfl _ _ rfl w3.heap.size BV BM rfl rfl _ (heap_new _ _ _ rfl) rfl hBl hBm _ (setRow_new _ _ _ _ _ rfl) ?_)
    | (refine wl_loadC rfl _ rfl w.heap.size rfl V M p0 hVl hMl ?_))
  refine (C3.out _).mono ?_
  rintro e w4 ⟨rfl, hb4⟩
  have q0 : w4.heap[w.heap.size]? = some (.cells (cv V M) 25 (0, 0)) := by rw [hb4.block _ (by simp; omega)]; exact p0
  have q1 : w4.heap[w.heap.size + 1]? = some (.cells (hv H) 23 (0, 0)) := by rw [hb4.block _ (by simp; omega)]; exact p1
  have q2 : w4.heap[w2.heap.size]? = some (.cells (cv AV AM) 25 (0, 0)) := by rw [hb4.block _ (by simp; omega)]; exact p2
  have q3 : w4.heap[w3.heap.size]? = some (.cells (cv BV BM) 25 (0, 0)) := by rw [hb4.block _ (by simp)]; exact p3
  have B6 := B5.trans (hb4.mono B5.size)
  clear m0 m1 m2 B4 p0 p1 p2 p3 B5 hb4 C3
  have n0 := heap_past (w4.alloc (.cells (cv XV XM) 25)) (.cells (cv YV YM) 25) _ _ (heap_past w4 (.cells (cv XV XM) 25) _ _ q0)
  have n1 := heap_past (w4.alloc (.cells (cv XV XM) 25)) (.cells (cv YV YM) 25) _ _ (heap_past w4 (.cells (cv XV XM) 25) _ _ q1)
  have n2 := heap_past (w4.alloc (.cells (cv XV XM) 25)) (.cells (cv YV YM) 25) _ _ (heap_past w4 (.cells (cv XV XM) 25) _ _ q2)
  have n3 := heap_past (w4.alloc (.cells (cv XV XM) 25)) (.cells (cv YV YM) 25) _ _ (heap_past w4 (.cells (cv XV XM) 25) _ _ q3)
  have n4 := heap_past (w4.alloc (.cells (cv XV XM) 25)) (.cells (cv YV YM) 25) _ _ (heap_new w4 (.cells (cv XV XM) 25) _ rfl)
  have n5 := heap_new (w4.alloc (.cells (cv XV XM) 25)) (.cells (cv YV YM) 25) (w4.heap.size + 1) (by simp)
  have B7 := (B6.alloc B6.size (.cells (cv XV XM) 25)).alloc (by simp; exact Nat.le_trans B6.size (by omega)) (.cells (cv YV YM) 25)
  clear q0 q1 q2 q3
  obtain ⟨W, hW⟩ : ∃ W, W = (w4.alloc (.cells (cv XV XM) 25)).alloc (.cells (cv YV YM) 25) := ⟨_, rfl⟩
  have hi0 : ¬ (i : Int) < 0 := by omega
  have hi1 : ¬ (104 : Int) ≤ (i : Int) := by omega
  go_wp2_with (first
    | (refine wl_storeC rfl _ _ rfl w4.heap.size XV XM rfl rfl _ (heap_past _ _ _ _ (heap_new _ _ _ rfl)) rfl hXl hXm _ (by rw [setRow_past _ _ _ _ (by simp), setRow_new _ _ _ _ _ rfl]) ?_)
    | (refine wl_storeC rfl _ _ rfl (w4.heap.size + 1) YV YM rfl rfl _ (heap_new _ _ _ (by simp)) rfl hYl hYm _ (setRow_new _ _ _ _ _ (by simp)) ?_))
  rw [← hW] at n0 n1 n2 n3 n4 n5 B7 ⊢
  clear hW B6
  have ne1 := Later.ne W
  refine wp_region_later (by kernel_rfl) (by kernel_rfl) ?_
  go_big_quiet_step (fail)
  go_big_quiet_step (fail)
  go_big_quiet_step (fail)
  go_big_quiet_step (fail)
  go_big_quiet_step (fail)
  go_big_quiet_step (fail)
  go_big_quiet_step (fail)
  refine qlC rfl _ rfl w2.heap.size rfl AV AM n2 hAl hAm ?_
  simp only [Act.put, List.setIfInBounds_toArray, List.set_cons_succ, List.set_cons_zero]
  refine qlC rfl _ rfl w.heap.size rfl V M n0 hVl hMl ?_
  simp only [Act.put, List.setIfInBounds_toArray, List.set_cons_succ, List.set_cons_zero]
  go_big_quiet_want; go_big_quiet_op
  refine ⟨_, fun u => Calls.later_of (C4.out u.world), ?_⟩
  go_big_quiet_on
  go_big_quiet_step (fail)
  go_big_quiet_step (fail)
  go_big_quiet_want; go_big_quiet_op
  refine ⟨_, fun u => Calls.later_of (C5.out u.world), ?_⟩
  go_big_quiet_on
  go_big_quiet_step (fail)
  go_big_quiet_step (fail)
  go_big_quiet_step (fail)
  refine qlC rfl _ rfl w3.heap.size rfl BV BM n3 hBl hBm ?_
  simp only [Act.put, List.setIfInBounds_toArray, List.set_cons_succ, List.set_cons_zero]
  refine qlC rfl _ rfl w.heap.size rfl V M n0 hVl hMl ?_
  simp only [Act.put, List.setIfInBounds_toArray, List.set_cons_succ, List.set_cons_zero]
  go_big_quiet_want; go_big_quiet_op
  refine ⟨_, fun u => Calls.later_of (C4.out u.world), ?_⟩
  go_big_quiet_on
  go_big_quiet_step (fail)
  go_big_quiet_want; go_big_quiet_op
  refine ⟨_, fun u => Calls.later_of (C6.out u.world), ?_⟩
  go_big_quiet_on
  go_big_quiet_step (fail)
  go_big_quiet_step (fail)
  refine wpQuiet_nil ?_
  rintro w' ⟨u, rfl⟩
  obtain ⟨W1, hW1⟩ : ∃ W1, W1 = u.world := ⟨_, rfl⟩
  have r0 : W1.heap[w.heap.size]? = some (.cells (cv V M) 25 (0, 0)) := by rw [hW1]; exact later_block n0 _ ⟨u, rfl⟩
  have r1 : W1.heap[w.heap.size + 1]? = some (.cells (hv H) 23 (0, 0)) := by rw [hW1]; exact later_block n1 _ ⟨u, rfl⟩
  have r4 : W1.heap[w4.heap.size]? = some (.cells (cv XV XM) 25 (0, 0)) := by rw [hW1]; exact later_block n4 _ ⟨u, rfl⟩
  have r5 : W1.heap[w4.heap.size + 1]? = some (.cells (cv YV YM) 25 (0, 0)) := by rw [hW1]; exact later_block n5 _ ⟨u, rfl⟩
  have B8 : Below w.heap.size w W1 := by rw [hW1]; exact B7.trans (u.below.mono B7.size)
  rw [← hW1]
  have z8 := (Array.getElem?_eq_some_iff.1 r5).1
  have z9 := (Array.getElem?_eq_some_iff.1 r4).1
  have z10 := (Array.getElem?_eq_some_iff.1 r1).1
  clear hW1 n0 n1 n2 n3 n4 n5 B7 ne1 C5 C6
  go_wp2_with (first
    | (refine wl_loadC rfl _ rfl w.heap.size rfl V M r0 hVl hMl ?_))
  refine (C7.out _).mono ?_
  rintro e w5 ⟨rfl, hb5⟩
  have t0 : w5.heap[w.heap.size]? = some (.cells (cv V M) 25 (0, 0)) := by rw [hb5.block _ (by omega)]; exact r0
  have t1 : w5.heap[w.heap.size + 1]? = some (.cells (hv H) 23 (0, 0)) := by rw [hb5.block _ (by omega)]; exact r1
  have t4 : w5.heap[w4.heap.size]? = some (.cells (cv XV XM) 25 (0, 0)) := by rw [hb5.block _ (by omega)]; exact r4
  have t5 : w5.heap[w4.heap.size + 1]? = some (.cells (cv YV YM) 25 (0, 0)) := by rw [hb5.block _ (by omega)]; exact r5
  have B9 := B8.trans (hb5.mono B8.size)
  clear r0 r1 r4 r5 B8 hb5 z8 z9 z10 C7
  go_wp2_with fail
  have ne2 := Later.ne w5
  refine wp_region_later (by kernel_rfl) (by kernel_rfl) ?_
  go_big_quiet_step (fail)
  go_big_quiet_step (fail)
  go_big_quiet_step (fail)
  refine qlC rfl _ rfl w4.heap.size rfl XV XM t4 hXl hXm ?_
  simp only [Act.put, List.setIfInBounds_toArray, List.set_cons_succ, List.set_cons_zero]
  refine qlC rfl _ rfl w.heap.size rfl V M t0 hVl hMl ?_
  simp only [Act.put, List.setIfInBounds_toArray, List.set_cons_succ, List.set_cons_zero]
  go_big_quiet_want; go_big_quiet_op
  refine ⟨_, fun u => Calls.later_of (C4.out u.world), ?_⟩
  go_big_quiet_on
  go_big_quiet_step (fail)
  go_big_quiet_want; go_big_quiet_op
  refine ⟨_, fun u => Calls.later_of (C8.out u.world), ?_⟩
  go_big_quiet_on
  go_big_quiet_step (fail)
  go_big_quiet_step (fail)
  go_big_quiet_step (fail)
  refine qlC rfl _ rfl (w4.heap.size + 1) rfl YV YM t5 hYl hYm ?_
  simp only [Act.put, List.setIfInBounds_toArray, List.set_cons_succ, List.set_cons_zero]
  refine qlC rfl _ rfl w.heap.size rfl V M t0 hVl hMl ?_
  simp only [Act.put, List.setIfInBounds_toArray, List.set_cons_succ, List.set_cons_zero]
  go_big_quiet_want; go_big_quiet_op
  refine ⟨_, fun u => Calls.later_of (C4.out u.world), ?_⟩
  go_big_quiet_on
  go_big_quiet_step (fail)
  go_big_quiet_want; go_big_quiet_op
  refine ⟨_, fun u => Calls.later_of (C9.out u.world), ?_⟩
  go_big_quiet_on
  go_big_quiet_step (fail)
  go_big_quiet_step (fail)
  go_big_quiet_step (fail)
  refine qlC rfl _ rfl w.heap.size rfl V M t0 hVl hMl ?_
  simp only [Act.put, List.setIfInBounds_toArray, List.set_cons_succ, List.set_cons_zero]
  refine qlH rfl _ rfl (w.heap.size + 1) rfl H t1 hHl ?_
  simp only [Act.put, List.setIfInBounds_toArray, List.set_cons_succ, List.set_cons_zero]
  go_big_quiet_want; go_big_quiet_op
  refine ⟨_, fun u => Calls.later_of (C10.out u.world), ?_⟩
  go_big_quiet_on
  refine qlC rfl _ rfl w4.heap.size rfl XV XM t4 hXl hXm ?_
  simp only [Act.put, List.setIfInBounds_toArray, List.set_cons_succ, List.set_cons_zero]
  refine qlH rfl _ rfl (w.heap.size + 1) rfl H t1 hHl ?_
  simp only [Act.put, List.setIfInBounds_toArray, List.set_cons_succ, List.set_cons_zero]
  go_big_quiet_want; go_big_quiet_op
  refine ⟨_, fun u => Calls.later_of (C11.out u.world), ?_⟩
  go_big_quiet_on
  go_big_quiet_step (fail)
  refine qlC rfl _ rfl (w4.heap.size + 1) rfl YV YM t5 hYl hYm ?_
  simp only [Act.put, List.setIfInBounds_toArray, List.set_cons_succ, List.set_cons_zero]
  refine qlH rfl _ rfl (w.heap.size + 1) rfl H t1 hHl ?_
  simp only [Act.put, List.setIfInBounds_toArray, List.set_cons_succ, List.set_cons_zero]
  go_big_quiet_want; go_big_quiet_op
  refine ⟨_, fun u => Calls.later_of (C12.out u.world), ?_⟩
  go_big_quiet_on
  go_big_quiet_step (fail)
  go_big_quiet_step (fail)
  go_big_quiet_step (fail)
  go_big_quiet_step (fail)
  refine qlC rfl _ rfl w4.heap.size rfl XV XM t4 hXl hXm ?_
  simp only [Act.put, List.setIfInBounds_toArray, List.set_cons_succ, List.set_cons_zero]
  refine qlH rfl _ rfl (w.heap.size + 1) rfl H t1 hHl ?_
  simp only [Act.put, List.setIfInBounds_toArray, List.set_cons_succ, List.set_cons_zero]
  go_big_quiet_want; go_big_quiet_op
  refine ⟨_, fun u => Calls.later_of (C11.out u.world), ?_⟩
  go_big_quiet_on
  go_big_quiet_step (fail)
  go_big_quiet_step (fail)
  go_big_quiet_step (fail)
  go_big_quiet_step (fail)
  go_big_quiet_step (fail)
  go_big_quiet_step (fail)
  go_big_quiet_step (fail)
  go_big_quiet_step (fail)
  refine wpQuiet_nil ?_
  rintro w' ⟨u2, rfl⟩
  go_wp2
  go_ret
  exact ⟨rfl, B9.trans (u2.below.mono B9.size)⟩

set_option maxHeartbeats 8000000 in
set_option maxRecDepth 100000 in
theorem fixes_free_fn (V M H CV AV AM BV BM XV XM YV YM : List Int) (i : Nat) (hi : i < 104) (hVl : V.length = 13) (hMl : M.length = 13) (hHl : H.length = 13) (hAl : AV.length = 13) (hAm : AM.length = 13) (hBl : BV.length = 13) (hBm : BM.length = 13) (hXl : XV.length = 13) (hXm : XM.length = 13) (hYl : YV.length = 13) (hYm : YM.length = 13)
    (c1 : ∀ W, Calls Try.prog 25 #[.agg (cv V M), .int .i64 (i : Int), .bool false] W fun e w' => e = .returned (.tuple #[.agg (cv AV AM), .int .i64 0]) ∧ Below W.heap.size W w')
    (c2 : ∀ W, Calls Try.prog 26 #[.agg (cv V M), .int .i64 (i : Int)] W fun e w' => e = .returned (.tuple #[.agg (cv BV BM), .int .i64 0]) ∧ Below W.heap.size W w')
    (c3 : ∀ W, Calls Try.prog 27 #[.agg (cv V M), .int .i64 (i : Int)] W fun e w' => e = .returned (.tuple #[.agg (cv XV XM), .agg (cv YV YM), .int .i64 0]) ∧ Below W.heap.size W w')
    (c4 : ∀ W, Calls Try.prog 13 #[.agg (cv V M)] W fun e w' => e = .returned (.agg (cv CV M)) ∧ Below W.heap.size W w')
    (c5 : ∀ W, Calls Try.prog 28 #[.agg (cv CV M), .int .i64 (i : Int), .int .i64 0] W fun e w' => e = .returned (.agg (cv AV AM)) ∧ Below W.heap.size W w')
    (c6 : ∀ W, Calls Try.prog 28 #[.agg (cv CV M), .int .i64 (i : Int), .int .i64 2] W fun e w' => e = .returned (.agg (cv BV BM)) ∧ Below W.heap.size W w')
    (c7 : ∀ W, Calls Try.prog 29 #[.agg (cv V M), .int .i64 (i : Int)] W fun e w' => e = .returned (.int .i64 2) ∧ Below W.heap.size W w')
    (c8 : ∀ W, Calls Try.prog 28 #[.agg (cv CV M), .int .i64 (i : Int), .int .i64 0] W fun e w' => e = .returned (.agg (cv XV XM)) ∧ Below W.heap.size W w')
    (c9 : ∀ W, Calls Try.prog 28 #[.agg (cv CV M), .int .i64 (i : Int), .int .i64 1] W fun e w' => e = .returned (.agg (cv YV YM)) ∧ Below W.heap.size W w')
    (c10 : ∀ W, Calls Try.prog 11 #[.agg (cv V M), .agg (hv H)] W fun e w' => e = .returned (.bool false) ∧ Below W.heap.size W w')
    (c11 : ∀ W, Calls Try.prog 11 #[.agg (cv XV XM), .agg (hv H)] W fun e w' => e = .returned (.bool false) ∧ Below W.heap.size W w')
    (c12 : ∀ W, Calls Try.prog 11 #[.agg (cv YV YM), .agg (hv H)] W fun e w' => e = .returned (.bool false) ∧ Below W.heap.size W w')
    (w : World) : Calls Try.prog 8 #[.agg (cv V M), .int .i64 (i : Int), .bool false, .agg (hv H)] w fun e w' => e = .returned (.bool true) ∧ Below w.heap.size w w' := by
  have C1 : Hid (∀ W, Calls Try.prog 25 #[.agg (cv V M), .int .i64 (i : Int), .bool false] W fun e w' => e = .returned (.tuple #[.agg (cv AV AM), .int .i64 0]) ∧ Below W.heap.size W w') := c1
  have C2 : Hid (∀ W, Calls Try.prog 26 #[.agg (cv V M), .int .i64 (i : Int)] W fun e w' => e = .returned (.tuple #[.agg (cv BV BM), .int .i64 0]) ∧ Below W.heap.size W w') := c2
  have C3 : Hid (∀ W, Calls Try.prog 27 #[.agg (cv V M), .int .i64 (i : Int)] W fun e w' => e = .returned (.tuple #[.agg (cv XV XM), .agg (cv YV YM), .int .i64 0]) ∧ Below W.heap.size W w') := c3
  have C4 : Hid (∀ W, Calls Try.prog 13 #[.agg (cv V M)] W fun e w' => e = .returned (.agg (cv CV M)) ∧ Below W.heap.size W w') := c4
  have C5 : Hid (∀ W, Calls Try.prog 28 #[.agg (cv CV M), .int .i64 (i : Int), .int .i64 0] W fun e w' => e = .returned (.agg (cv AV AM)) ∧ Below W.heap.size W w') := c5
  have C6 : Hid (∀ W, Calls Try.prog 28 #[.agg (cv CV M), .int .i64 (i : Int), .int .i64 2] W fun e w' => e = .returned (.agg (cv BV BM)) ∧ Below W.heap.size W w') := c6
  have C7 : Hid (∀ W, Calls Try.prog 29 #[.agg (cv V M), .int .i64 (i : Int)] W fun e w' => e = .returned (.int .i64 2) ∧ Below W.heap.size W w') := c7
  have C8 : Hid (∀ W, Calls Try.prog 28 #[.agg (cv CV M), .int .i64 (i : Int), .int .i64 0] W fun e w' => e = .returned (.agg (cv XV XM)) ∧ Below W.heap.size W w') := c8
  have C9 : Hid (∀ W, Calls Try.prog 28 #[.agg (cv CV M), .int .i64 (i : Int), .int .i64 1] W fun e w' => e = .returned (.agg (cv YV YM)) ∧ Below W.heap.size W w') := c9
  have C10 : Hid (∀ W, Calls Try.prog 11 #[.agg (cv V M), .agg (hv H)] W fun e w' => e = .returned (.bool false) ∧ Below W.heap.size W w') := c10
  have C11 : Hid (∀ W, Calls Try.prog 11 #[.agg (cv XV XM), .agg (hv H)] W fun e w' => e = .returned (.bool false) ∧ Below W.heap.size W w') := c11
  have C12 : Hid (∀ W, Calls Try.prog 11 #[.agg (cv YV YM), .agg (hv H)] W fun e w' => e = .returned (.bool false) ∧ Below W.heap.size W w') := c12
  have e1 : ∀ w, (Op.equalIn 10000 25 (.agg (cv AV AM)) (.agg (cv AV AM))).run Try.prog w = .ok true w := fun w => by rw [eqC _ _ _ _ hAl hAm hAl hAm]; simp
  have e2 : ∀ w, (Op.equalIn 10000 25 (.agg (cv BV BM)) (.agg (cv BV BM))).run Try.prog w = .ok true w := fun w => by rw [eqC _ _ _ _ hBl hBm hBl hBm]; simp
  have e3 : ∀ w, (Op.equalIn 10000 25 (.agg (cv XV XM)) (.agg (cv XV XM))).run Try.prog w = .ok true w := fun w => by rw [eqC _ _ _ _ hXl hXm hXl hXm]; simp
  have e4 : ∀ w, (Op.equalIn 10000 25 (.agg (cv YV YM)) (.agg (cv YV YM))).run Try.prog w = .ok true w := fun w => by rw [eqC _ _ _ _ hYl hYm hYl hYm]; simp
  have eg : ∀ op x y (xs ys : Array Value) w, (eqGuard op 25 x y (.agg xs) (.agg ys)).run Try.prog w = .ok () w := egC
  have hzl := Z_byt.1
  clear c1 c2 c3 c4 c5 c6 c7 c8 c9 c10 c11 c12
  go_enter Try.func8, Try.ntmps8
  go_wp2_with fail
  refine (awake_any _).mono ?_
  rintro e w1 ⟨rfl, hb1⟩
  have g0 : w1.heap[w.heap.size]? = some (.cells (cv V M) 25 (0, 0)) := by rw [hb1.block _ (by simp; omega)]; exact heap_past _ _ _ _ (heap_new _ _ _ rfl)
  have g1 : w1.heap[w.heap.size + 1]? = some (.cells (hv H) 23 (0, 0)) := by rw [hb1.block _ (by simp)]; exact heap_new _ _ _ (by simp)
  have B1 : Below w.heap.size w w1 := (((Below.refl _ _).alloc (Nat.le_refl _) _).alloc (by simp) _).trans (hb1.mono (by simp; omega))
  have z1 : w.heap.size + 2 ≤ w1.heap.size := Nat.le_trans (by simp) hb1.size
  clear hb1
  go_wp2_with (first
    | (refine wl_loadC rfl _ rfl w.heap.size rfl V M g0 hVl hMl ?_))
  refine (C1.out _).mono ?_
  rintro e w2 ⟨rfl, hb2⟩
  have k0 : w2.heap[w.heap.size]? = some (.cells (cv V M) 25 (0, 0)) := by rw [hb2.block _ (by omega)]; exact g0
  have k1 : w2.heap[w.heap.size + 1]? = some (.cells (hv H) 23 (0, 0)) := by rw [hb2.block _ (by omega)]; exact g1
  have B2 := B1.trans (hb2.mono B1.size)
  have z2 : w.heap.size + 2 ≤ w2.heap.size := Nat.le_trans z1 hb2.size
  clear g0 g1 B1 z1 hb2 C1
  have l0 := heap_past w2 (.cells (cv AV AM) 25) _ _ k0
  have l1 := heap_past w2 (.cells (cv AV AM) 25) _ _ k1
  have l2 := heap_new w2 (.cells (cv AV AM) 25) _ rfl
  have B3 := B2.alloc B2.size (.cells (cv AV AM) 25)
  go_wp2_with (first
    | (refine wl_storeC rfl _ _ rfl w2.heap.size AV AM rfl rfl _ (heap_new _ _ _ rfl) rfl hAl hAm _ (setRow_new _ _ _ _ _ rfl) ?_)
    | (refine wl_loadC rfl _ rfl w.heap.size rfl V M l0 hVl hMl ?_))
  refine (C2.out _).mono ?_
  rintro e w3 ⟨rfl, hb3⟩
  have m0 : w3.heap[w.heap.size]? = some (.cells (cv V M) 25 (0, 0)) := by rw [hb3.block _ (by simp; omega)]; exact l0
  have m1 : w3.heap[w.heap.size + 1]? = some (.cells (hv H) 23 (0, 0)) := by rw [hb3.block _ (by simp; omega)]; exact l1
  have m2 : w3.heap[w2.heap.size]? = some (.cells (cv AV AM) 25 (0, 0)) := by rw [hb3.block _ (by simp)]; exact l2
  have B4 := B3.trans (hb3.mono B3.size)
  have z4 : w2.heap.size + 1 ≤ w3.heap.size := Nat.le_trans (by simp) hb3.size
  clear k0 k1 B2 l0 l1 l2 B3 hb3 C2
  have p0 := heap_past w3 (.cells (cv BV BM) 25) _ _ m0
  have p1 := heap_past w3 (.cells (cv BV BM) 25) _ _ m1
  have p2 := heap_past w3 (.cells (cv BV BM) 25) _ _ m2
  have p3 := heap_new w3 (.cells (cv BV BM) 25) _ rfl
  have B5 := B4.alloc B4.size (.cells (cv BV BM) 25)
  go_wp2_with (first
    | (refine wl_storeC rfl _ _ rfl w3.heap.size BV BM rfl rfl _ (heap_new _ _ _ rfl) rfl hBl hBm _ (setRow_new _ _ _ _ _ rfl) ?_)
    | (refine wl_loadC rfl _ rfl w.heap.size rfl V M p0 hVl hMl ?_))
  refine (C3.out _).mono ?_
  rintro e w4 ⟨rfl, hb4⟩
  have q0 : w4.heap[w.heap.size]? = some (.cells (cv V M) 25 (0, 0)) := by rw [hb4.block _ (by simp; omega)]; exact p0
  have q1 : w4.heap[w.heap.size + 1]? = some (.cells (hv H) 23 (0, 0)) := by rw [hb4.block _ (by simp; omega)]; exact p1
  have q2 : w4.heap[w2.heap.size]? = some (.cells (cv AV AM) 25 (0, 0)) := by rw [hb4.block _ (by simp; omega)]; exact p2
  have q3 : w4.heap[w3.heap.size]? = some (.cells (cv BV BM) 25 (0, 0)) := by rw [hb4.block _ (by simp)]; exact p3
  have B6 := B5.trans (hb4.mono B5.size)
  clear m0 m1 m2 B4 p0 p1 p2 p3 B5 hb4 C3
  have n0 := heap_past (w4.alloc (.cells (cv XV XM) 25)) (.cells (cv YV YM) 25) _ _ (heap_past w4 (.cells (cv XV XM) 25) _ _ q0)
  have n1 := heap_past (w4.alloc (.cells (cv XV XM) 25)) (.cells (cv YV YM) 25) _ _ (heap_past w4 (.cells (cv XV XM) 25) _ _ q1)
  have n2 := heap_past (w4.alloc (.cells (cv XV XM) 25)) (.cells (cv YV YM) 25) _ _ (heap_past w4 (.cells (cv XV XM) 25) _ _ q2)
  have n3 := heap_past (w4.alloc (.cells (cv XV XM) 25)) (.cells (cv YV YM) 25) _ _ (heap_past w4 (.cells (cv XV XM) 25) _ _ q3)
  have n4 := heap_past (w4.alloc (.cells (cv XV XM) 25)) (.cells (cv YV YM) 25) _ _ (heap_new w4 (.cells (cv XV XM) 25) _ rfl)
  have n5 := heap_new (w4.alloc (.cells (cv XV XM) 25)) (.cells (cv YV YM) 25) (w4.heap.size + 1) (by simp)
  have B7 := (B6.alloc B6.size (.cells (cv XV XM) 25)).alloc (by simp; exact Nat.le_trans B6.size (by omega)) (.cells (cv YV YM) 25)
  clear q0 q1 q2 q3
  obtain ⟨W, hW⟩ : ∃ W, W = (w4.alloc (.cells (cv XV XM) 25)).alloc (.cells (cv YV YM) 25) := ⟨_, rfl⟩
  have hi0 : ¬ (i : Int) < 0 := by omega
  have hi1 : ¬ (104 : Int) ≤ (i : Int) := by omega
  go_wp2_with (first
    | (refine wl_storeC rfl _ _ rfl w4.heap.size XV XM rfl rfl _ (heap_past _ _ _ _ (heap_new _ _ _ rfl)) rfl hXl hXm _ (by rw [setRow_past _ _ _ _ (by simp), setRow_new _ _ _ _ _ rfl]) ?_)
    | (refine wl_storeC rfl _ _ rfl (w4.heap.size + 1) YV YM rfl rfl _ (heap_new _ _ _ (by simp)) rfl hYl hYm _ (setRow_new _ _ _ _ _ (by simp)) ?_))
  rw [← hW] at n0 n1 n2 n3 n4 n5 B7 ⊢
  clear hW B6
  have ne1 := Later.ne W
  refine wp_region_later (by kernel_rfl) (by kernel_rfl) ?_
  go_big_quiet_step (fail)
  go_big_quiet_step (fail)
  go_big_quiet_step (fail)
  go_big_quiet_step (fail)
  go_big_quiet_step (fail)
  go_big_quiet_step (fail)
  go_big_quiet_step (fail)
  refine qlC rfl _ rfl w2.heap.size rfl AV AM n2 hAl hAm ?_
  simp only [Act.put, List.setIfInBounds_toArray, List.set_cons_succ, List.set_cons_zero]
  refine qlC rfl _ rfl w.heap.size rfl V M n0 hVl hMl ?_
  simp only [Act.put, List.setIfInBounds_toArray, List.set_cons_succ, List.set_cons_zero]
  go_big_quiet_want; go_big_quiet_op
  refine ⟨_, fun u => Calls.later_of (C4.out u.world), ?_⟩
  go_big_quiet_on
  go_big_quiet_step (fail)
  go_big_quiet_step (fail)
  go_big_quiet_want; go_big_quiet_op
  refine ⟨_, fun u => Calls.later_of (C5.out u.world), ?_⟩
  go_big_quiet_on
  go_big_quiet_step (fail)
  go_big_quiet_step (fail)
  go_big_quiet_step (fail)
  refine qlC rfl _ rfl w3.heap.size rfl BV BM n3 hBl hBm ?_
  simp only [Act.put, List.setIfInBounds_toArray, List.set_cons_succ, List.set_cons_zero]
  refine qlC rfl _ rfl w.heap.size rfl V M n0 hVl hMl ?_
  simp only [Act.put, List.setIfInBounds_toArray, List.set_cons_succ, List.set_cons_zero]
  go_big_quiet_want; go_big_quiet_op
  refine ⟨_, fun u => Calls.later_of (C4.out u.world), ?_⟩
  go_big_quiet_on
  go_big_quiet_step (fail)
  go_big_quiet_want; go_big_quiet_op
  refine ⟨_, fun u => Calls.later_of (C6.out u.world), ?_⟩
  go_big_quiet_on
  go_big_quiet_step (fail)
  go_big_quiet_step (fail)
  refine wpQuiet_nil ?_
  rintro w' ⟨u, rfl⟩
  obtain ⟨W1, hW1⟩ : ∃ W1, W1 = u.world := ⟨_, rfl⟩
  have r0 : W1.heap[w.heap.size]? = some (.cells (cv V M) 25 (0, 0)) := by rw [hW1]; exact later_block n0 _ ⟨u, rfl⟩
  have r1 : W1.heap[w.heap.size + 1]? = some (.cells (hv H) 23 (0, 0)) := by rw [hW1]; exact later_block n1 _ ⟨u, rfl⟩
  have r4 : W1.heap[w4.heap.size]? = some (.cells (cv XV XM) 25 (0, 0)) := by rw [hW1]; exact later_block n4 _ ⟨u, rfl⟩
  have r5 : W1.heap[w4.heap.size + 1]? = some (.cells (cv YV YM) 25 (0, 0)) := by rw [hW1]; exact later_block n5 _ ⟨u, rfl⟩
  have B8 : Below w.heap.size w W1 := by rw [hW1]; exact B7.trans (u.below.mono B7.size)
  rw [← hW1]
  have z8 := (Array.getElem?_eq_some_iff.1 r5).1
  have z9 := (Array.getElem?_eq_some_iff.1 r4).1
  have z10 := (Array.getElem?_eq_some_iff.1 r1).1
  clear hW1 n0 n1 n2 n3 n4 n5 B7 ne1 C5 C6
  go_wp2_with (first
    | (refine wl_loadC rfl _ rfl w.heap.size rfl V M r0 hVl hMl ?_))
  refine (C7.out _).mono ?_
  rintro e w5 ⟨rfl, hb5⟩
  have t0 : w5.heap[w.heap.size]? = some (.cells (cv V M) 25 (0, 0)) := by rw [hb5.block _ (by omega)]; exact r0
  have t1 : w5.heap[w.heap.size + 1]? = some (.cells (hv H) 23 (0, 0)) := by rw [hb5.block _ (by omega)]; exact r1
  have t4 : w5.heap[w4.heap.size]? = some (.cells (cv XV XM) 25 (0, 0)) := by rw [hb5.block _ (by omega)]; exact r4
  have t5 : w5.heap[w4.heap.size + 1]? = some (.cells (cv YV YM) 25 (0, 0)) := by rw [hb5.block _ (by omega)]; exact r5
  have B9 := B8.trans (hb5.mono B8.size)
  clear r0 r1 r4 r5 B8 hb5 z8 z9 z10 C7
  go_wp2_with fail
  have ne2 := Later.ne w5
  refine wp_region_later (by kernel_rfl) (by kernel_rfl) ?_
  go_big_quiet_step (fail)
  go_big_quiet_step (fail)
  go_big_quiet_step (fail)
  refine qlC rfl _ rfl w4.heap.size rfl XV XM t4 hXl hXm ?_
  simp only [Act.put, List.setIfInBounds_toArray, List.set_cons_succ, List.set_cons_zero]
  refine qlC rfl _ rfl w.heap.size rfl V M t0 hVl hMl ?_
  simp only [Act.put, List.setIfInBounds_toArray, List.set_cons_succ, List.set_cons_zero]
  go_big_quiet_want; go_big_quiet_op
  refine ⟨_, fun u => Calls.later_of (C4.out u.world), ?_⟩
  go_big_quiet_on
  go_big_quiet_step (fail)
  go_big_quiet_want; go_big_quiet_op
  refine ⟨_, fun u => Calls.later_of (C8.out u.world), ?_⟩
  go_big_quiet_on
  go_big_quiet_step (fail)
  go_big_quiet_step (fail)
  go_big_quiet_step (fail)
  refine qlC rfl _ rfl (w4.heap.size + 1) rfl YV YM t5 hYl hYm ?_
  simp only [Act.put, List.setIfInBounds_toArray, List.set_cons_succ, List.set_cons_zero]
  refine qlC rfl _ rfl w.heap.size rfl V M t0 hVl hMl ?_
  simp only [Act.put, List.setIfInBounds_toArray, List.set_cons_succ, List.set_cons_zero]
  go_big_quiet_want; go_big_quiet_op
  refine ⟨_, fun u => Calls.later_of (C4.out u.world), ?_⟩
  go_big_quiet_on
  go_big_quiet_step (fail)
  go_big_quiet_want; go_big_quiet_op
  refine ⟨_, fun u => Calls.later_of (C9.out u.world), ?_⟩
  go_big_quiet_on
  go_big_quiet_step (fail)
  go_big_quiet_step (fail)
  go_big_quiet_step (fail)
  refine qlC rfl _ rfl w.heap.size rfl V M t0 hVl hMl ?_
  simp only [Act.put, List.setIfInBounds_toArray, List.set_cons_succ, List.set_cons_zero]
  refine qlH rfl _ rfl (w.heap.size + 1) rfl H t1 hHl ?_
  simp only [Act.put, List.setIfInBounds_toArray, List.set_cons_succ, List.set_cons_zero]
  go_big_quiet_want; go_big_quiet_op
  refine ⟨_, fun u => Calls.later_of (C10.out u.world), ?_⟩
  go_big_quiet_on
  refine qlC rfl _ rfl w4.heap.size rfl XV XM t4 hXl hXm ?_
  simp only [Act.put, List.setIfInBounds_toArray, List.set_cons_succ, List.set_cons_zero]
  refine qlH rfl _ rfl (w.heap.size + 1) rfl H t1 hHl ?_
  simp only [Act.put, List.setIfInBounds_toArray, List.set_cons_succ, List.set_cons_zero]
  go_big_quiet_want; go_big_quiet_op
  refine ⟨_, fun u => Calls.later_of (C11.out u.world), ?_⟩
  go_big_quiet_on
  go_big_quiet_step (fail)
  refine qlC rfl _ rfl (w4.heap.size + 1) rfl YV YM t5 hYl hYm ?_
  simp only [Act.put, List.setIfInBounds_toArray, List.set_cons_succ, List.set_cons_zero]
  refine qlH rfl _ rfl (w.heap.size + 1) rfl H t1 hHl ?_
  simp only [Act.put, List.setIfInBounds_toArray, List.set_cons_succ, List.set_cons_zero]
  go_big_quiet_want; go_big_quiet_op
  refine ⟨_, fun u => Calls.later_of (C12.out u.world), ?_⟩
  go_big_quiet_on
  go_big_quiet_step (fail)
  go_big_quiet_step (fail)
  go_big_quiet_step (fail)
  go_big_quiet_step (fail)
  refine qlC rfl _ rfl w4.heap.size rfl XV XM t4 hXl hXm ?_
  simp only [Act.put, List.setIfInBounds_toArray, List.set_cons_succ, List.set_cons_zero]
  refine qlH rfl _ rfl (w.heap.size + 1) rfl H t1 hHl ?_
  simp only [Act.put, List.setIfInBounds_toArray, List.set_cons_succ, List.set_cons_zero]
  go_big_quiet_want; go_big_quiet_op
  refine ⟨_, fun u => Calls.later_of (C11.out u.world), ?_⟩
  go_big_quiet_on
  go_big_quiet_step (fail)
  go_big_quiet_step (fail)
  go_big_quiet_step (fail)
  go_big_quiet_step (fail)
  go_big_quiet_step (fail)
  go_big_quiet_step (fail)
  go_big_quiet_step (fail)
  go_big_quiet_step (fail)
  refine wpQuiet_nil ?_
  rintro w' ⟨u2, rfl⟩
  go_wp2
  go_ret
  exact ⟨rfl, B9.trans (u2.below.mono B9.size)⟩

set_option maxHeartbeats 8000000 in
set_option maxRecDepth 100000 in
theorem fixes_free_fx (V M H CV AV AM BV BM XV XM YV YM : List Int) (i : Nat) (hi : i < 104) (hVl : V.length = 13) (hMl : M.length = 13) (hHl : H.length = 13) (hAl : AV.length = 13) (hAm : AM.length = 13) (hBl : BV.length = 13) (hBm : BM.length = 13) (hXl : XV.length = 13) (hXm : XM.length = 13) (hYl : YV.length = 13) (hYm : YM.length = 13)
    (c1 : ∀ W, Calls Try.prog 25 #[.agg (cv V M), .int .i64 (i : Int), .bool false] W fun e w' => e = .returned (.tuple #[.agg (cv AV AM), .int .i64 0]) ∧ Below W.heap.size W w')
    (c2 : ∀ W, Calls Try.prog 26 #[.agg (cv V M), .int .i64 (i : Int)] W fun e w' => e = .returned (.tuple #[.agg (cv BV BM), .int .i64 0]) ∧ Below W.heap.size W w')
    (c3 : ∀ W, Calls Try.prog 27 #[.agg (cv V M), .int .i64 (i : Int)] W fun e w' => e = .returned (.tuple #[.agg (cv XV XM), .agg (cv YV YM), .int .i64 0]) ∧ Below W.heap.size W w')
    (c4 : ∀ W, Calls Try.prog 13 #[.agg (cv V M)] W fun e w' => e = .returned (.agg (cv CV M)) ∧ Below W.heap.size W w')
    (c5 : ∀ W, Calls Try.prog 28 #[.agg (cv CV M), .int .i64 (i : Int), .int .i64 0] W fun e w' => e = .returned (.agg (cv AV AM)) ∧ Below W.heap.size W w')
    (c6 : ∀ W, Calls Try.prog 28 #[.agg (cv CV M), .int .i64 (i : Int), .int .i64 2] W fun e w' => e = .returned (.agg (cv BV BM)) ∧ Below W.heap.size W w')
    (c7 : ∀ W, Calls Try.prog 29 #[.agg (cv V M), .int .i64 (i : Int)] W fun e w' => e = .returned (.int .i64 2) ∧ Below W.heap.size W w')
    (c8 : ∀ W, Calls Try.prog 28 #[.agg (cv CV M), .int .i64 (i : Int), .int .i64 0] W fun e w' => e = .returned (.agg (cv XV XM)) ∧ Below W.heap.size W w')
    (c9 : ∀ W, Calls Try.prog 28 #[.agg (cv CV M), .int .i64 (i : Int), .int .i64 1] W fun e w' => e = .returned (.agg (cv YV YM)) ∧ Below W.heap.size W w')
    (c10 : ∀ W, Calls Try.prog 11 #[.agg (cv V M), .agg (hv H)] W fun e w' => e = .returned (.bool true) ∧ Below W.heap.size W w')
    (c11 : ∀ W, Calls Try.prog 11 #[.agg (cv XV XM), .agg (hv H)] W fun e w' => e = .returned (.bool true) ∧ Below W.heap.size W w')
    (c12 : ∀ W, Calls Try.prog 11 #[.agg (cv YV YM), .agg (hv H)] W fun e w' => e = .returned (.bool false) ∧ Below W.heap.size W w')
    (w : World) : Calls Try.prog 8 #[.agg (cv V M), .int .i64 (i : Int), .bool false, .agg (hv H)] w fun e w' => e = .returned (.bool true) ∧ Below w.heap.size w w' := by
  have C1 : Hid (∀ W, Calls Try.prog 25 #[.agg (cv V M), .int .i64 (i : Int), .bool false] W fun e w' => e = .returned (.tuple #[.agg (cv AV AM), .int .i64 0]) ∧ Below W.heap.size W w') := c1
  have C2 : Hid (∀ W, Calls Try.prog 26 #[.agg (cv V M), .int .i64 (i : Int)] W fun e w' => e = .returned (.tuple #[.agg (cv BV BM), .int .i64 0]) ∧ Below W.heap.size W w') := c2
  have C3 : Hid (∀ W, Calls Try.prog 27 #[.agg (cv V M), .int .i64 (i : Int)] W fun e w' => e = .returned (.tuple #[.agg (cv XV XM), .agg (cv YV YM), .int .i64 0]) ∧ Below W.heap.size W w') := c3
  have C4 : Hid (∀ W, Calls Try.prog 13 #[.agg (cv V M)] W fun e w' => e = .returned (.agg (cv CV M)) ∧ Below W.heap.size W w') := c4
  have C5 : Hid (∀ W, Calls Try.prog 28 #[.agg (cv CV M), .int .i64 (i : Int), .int .i64 0] W fun e w' => e = .returned (.agg (cv AV AM)) ∧ Below W.heap.size W w') := c5
  have C6 : Hid (∀ W, Calls Try.prog 28 #[.agg (cv CV M), .int .i64 (i : Int), .int .i64 2] W fun e w' => e = .returned (.agg (cv BV BM)) ∧ Below W.heap.size W w') := c6
  have C7 : Hid (∀ W, Calls Try.prog 29 #[.agg (cv V M), .int .i64 (i : Int)] W fun e w' => e = .returned (.int .i64 2) ∧ Below W.heap.size W w') := c7
  have C8 : Hid (∀ W, Calls Try.prog 28 #[.agg (cv CV M), .int .i64 (i : Int), .int .i64 0] W fun e w' => e = .returned (.agg (cv XV XM)) ∧ Below W.heap.size W w') := c8
  have C9 : Hid (∀ W, Calls Try.prog 28 #[.agg (cv CV M), .int .i64 (i : Int), .int .i64 1] W fun e w' => e = .returned (.agg (cv YV YM)) ∧ Below W.heap.size W w') := c9
  have C10 : Hid (∀ W, Calls Try.prog 11 #[.agg (cv V M), .agg (hv H)] W fun e w' => e = .returned (.bool true) ∧ Below W.heap.size W w') := c10
  have C11 : Hid (∀ W, Calls Try.prog 11 #[.agg (cv XV XM), .agg (hv H)] W fun e w' => e = .returned (.bool true) ∧ Below W.heap.size W w') := c11
  have C12 : Hid (∀ W, Calls Try.prog 11 #[.agg (cv YV YM), .agg (hv H)] W fun e w' => e = .returned (.bool false) ∧ Below W.heap.size W w') := c12
  have e1 : ∀ w, (Op.equalIn 10000 25 (.agg (cv AV AM)) (.agg (cv AV AM))).run Try.prog w = .ok true w := fun w => by rw [eqC _ _ _ _ hAl hAm hAl hAm]; simp
  have e2 : ∀ w, (Op.equalIn 10000 25 (.agg (cv BV BM)) (.agg (cv BV BM))).run Try.prog w = .ok true w := fun w => by rw [eqC _ _ _ _ hBl hBm hBl hBm]; simp
  have e3 : ∀ w, (Op.equalIn 10000 25 (.agg (cv XV XM)) (.agg (cv XV XM))).run Try.prog w = .ok true w := fun w => by rw [eqC _ _ _ _ hXl hXm hXl hXm]; simp
  have e4 : ∀ w, (Op.equalIn 10000 25 (.agg (cv YV YM)) (.agg (cv YV YM))).run Try.prog w = .ok true w := fun w => by rw [eqC _ _ _ _ hYl hYm hYl hYm]; simp
  have eg : ∀ op x y (xs ys : Array Value) w, (eqGuard op 25 x y (.agg xs) (.agg ys)).run Try.prog w = .ok () w := egC
  have hzl := Z_byt.1
  clear c1 c2 c3 c4 c5 c6 c7 c8 c9 c10 c11 c12
  go_enter Try.func8, Try.ntmps8
  go_wp2_with fail
  refine (awake_any _).mono ?_
  rintro e w1 ⟨rfl, hb1⟩
  have g0 : w1.heap[w.heap.size]? = some (.cells (cv V M) 25 (0, 0)) := by rw [hb1.block _ (by simp; omega)]; exact heap_past _ _ _ _ (heap_new _ _ _ rfl)
  have g1 : w1.heap[w.heap.size + 1]? = some (.cells (hv H) 23 (0, 0)) := by rw [hb1.block _ (by simp)]; exact heap_new _ _ _ (by simp)
  have B1 : Below w.heap.size w w1 := (((Below.refl _ _).alloc (Nat.le_refl _) _).alloc (by simp) _).trans (hb1.mono (by simp; omega))
  have z1 : w.heap.size + 2 ≤ w1.heap.size := Nat.le_trans (by simp) hb1.size
  clear hb1
  go_wp2_with (first
    | (refine wl_loadC rfl _ rfl w.heap.size rfl V M g0 hVl hMl ?_))
  refine (C1.out _).mono ?_
  rintro e w2 ⟨rfl, hb2⟩
  have k0 : w2.heap[w.heap.size]? = some (.cells (cv V M) 25 (0, 0)) := by rw [hb2.block _ (by omega)]; exact g0
  have k1 : w2.heap[w.heap.size + 1]? = some (.cells (hv H) 23 (0, 0)) := by rw [hb2.block _ (by omega)]; exact g1
  have B2 := B1.trans (hb2.mono B1.size)
  have z2 : w.heap.size + 2 ≤ w2.heap.size := Nat.le_trans z1 hb2.size
  clear g0 g1 B1 z1 hb2 C1
  have l0 := heap_past w2 (.cells (cv AV AM) 25) _ _ k0
  have l1 := heap_past w2 (.cells (cv AV AM) 25) _ _ k1
  have l2 := heap_new w2 (.cells (cv AV AM) 25) _ rfl
  have B3 := B2.alloc B2.size (.cells (cv AV AM) 25)
  go_wp2_with (first
    | (refine wl_storeC rfl _ _ rfl w2.heap.size AV AM rfl rfl _ (heap_new _ _ _ rfl) rfl hAl hAm _ (setRow_new _ _ _ _ _ rfl) ?_)
    | (refine wl_loadC rfl _ rfl w.heap.size rfl V M l0 hVl hMl ?_))
  refine (C2.out _).mono ?_
  rintro e w3 ⟨rfl, hb3⟩
  have m0 : w3.heap[w.heap.size]? = some (.cells (cv V M) 25 (0, 0)) := by rw [hb3.block _ (by simp; omega)]; exact l0
  have m1 : w3.heap[w.heap.size + 1]? = some (.cells (hv H) 23 (0, 0)) := by rw [hb3.block _ (by simp; omega)]; exact l1
  have m2 : w3.heap[w2.heap.size]? = some (.cells (cv AV AM) 25 (0, 0)) := by rw [hb3.block _ (by simp)]; exact l2
  have B4 := B3.trans (hb3.mono B3.size)
  have z4 : w2.heap.size + 1 ≤ w3.heap.size := Nat.le_trans (by simp) hb3.size
  clear k0 k1 B2 l0 l1 l2 B3 hb3 C2
  have p0 := heap_past w3 (.cells (cv BV BM) 25) _ _ m0
  have p1 := heap_past w3 (.cells (cv BV BM) 25) _ _ m1
  have p2 := heap_past w3 (.cells (cv BV BM) 25) _ _ m2
  have p3 := heap_new w3 (.cells (cv BV BM) 25) _ rfl
  have B5 := B4.alloc B4.size (.cells (cv BV BM) 25)
  go_wp2_with (first
    | (refine wl_storeC rfl _ _ rfl w3.heap.size BV BM rfl rfl _ (heap_new _ _ _ rfl) rfl hBl hBm _ (setRow_new _ _ _ _ _ rfl) ?_)
    | (refine wl_loadC rfl _ rfl w.heap.size rfl V M p0 hVl hMl ?_))
  refine (C3.out _).mono ?_
  rintro e w4 ⟨rfl, hb4⟩
  have q0 : w4.heap[w.heap.size]? = some (.cells (cv V M) 25 (0, 0)) := by rw [hb4.block _ (by simp; omega)]; exact p0
  have q1 : w4.heap[w.heap.size + 1]? = some (.cells (hv H) 23 (0, 0)) := by rw [hb4.block _ (by simp; omega)]; exact p1
  have q2 : w4.heap[w2.heap.size]? = some (.cells (cv AV AM) 25 (0, 0)) := by rw [hb4.block _ (by simp; omega)]; exact p2
  have q3 : w4.heap[w3.heap.size]? = some (.cells (cv BV BM) 25 (0, 0)) := by rw [hb4.block _ (by simp)]; exact p3
  have B6 := B5.trans (hb4.mono B5.size)
  clear m0 m1 m2 B4 p0 p1 p2 p3 B5 hb4 C3
  have n0 := heap_past (w4.alloc (.cells (cv XV XM) 25)) (.cells (cv YV YM) 25) _ _ (heap_past w4 (.cells (cv XV XM) 25) _ _ q0)
  have n1 := heap_past (w4.alloc (.cells (cv XV XM) 25)) (.cells (cv YV YM) 25) _ _ (heap_past w4 (.cells (cv XV XM) 25) _ _ q1)
  have n2 := heap_past (w4.alloc (.cells (cv XV XM) 25)) (.cells (cv YV YM) 25) _ _ (heap_past w4 (.cells (cv XV XM) 25) _ _ q2)
  have n3 := heap_past (w4.alloc (.cells (cv XV XM) 25)) (.cells (cv YV YM) 25) _ _ (heap_past w4 (.cells (cv XV XM) 25) _ _ q3)
  have n4 := heap_past (w4.alloc (.cells (cv XV XM) 25)) (.cells (cv YV YM) 25) _ _ (heap_new w4 (.cells (cv XV XM) 25) _ rfl)
  have n5 := heap_new (w4.alloc (.cells (cv XV XM) 25)) (.cells (cv YV YM) 25) (w4.heap.size + 1) (by simp)
  have B7 := (B6.alloc B6.size (.cells (cv XV XM) 25)).alloc (by simp; exact Nat.le_trans B6.size (by omega)) (.cells (cv YV YM) 25)
  clear q0 q1 q2 q3
  obtain ⟨W, hW⟩ : ∃ W, W = (w4.alloc (.cells (cv XV XM) 25)).alloc (.cells (cv YV YM) 25) := ⟨_, rfl⟩
  have hi0 : ¬ (i : Int) < 0 := by omega
  have hi1 : ¬ (104 : Int) ≤ (i : Int) := by omega
  go_wp2_with (first
    | (refine wl_storeC rfl _ _ rfl w4.heap.size XV XM rfl rfl _ (heap_past _ _ _ _ (heap_new _ _ _ rfl)) rfl hXl hXm _ (by rw [setRow_past _ _ _ _ (by simp), setRow_new _ _ _ _ _ rfl]) ?_)
    | (refine wl_storeC rfl _ _ rfl (w4.heap.size + 1) YV YM rfl rfl _ (heap_new _ _ _ (by simp)) rfl hYl hYm _ (setRow_new _ _ _ _ _ (by simp)) ?_))
  rw [← hW] at n0 n1 n2 n3 n4 n5 B7 ⊢
  clear hW B6
  have ne1 := Later.ne W
  refine wp_region_later (by kernel_rfl) (by kernel_rfl) ?_
  go_big_quiet_step (fail)
  go_big_quiet_step (fail)
  go_big_quiet_step (fail)
  go_big_quiet_step (fail)
  go_big_quiet_step (fail)
  go_big_quiet_step (fail)
  go_big_quiet_step (fail)
  refine qlC rfl _ rfl w2.heap.size rfl AV AM n2 hAl hAm ?_
  simp only [Act.put, List.setIfInBounds_toArray, List.set_cons_succ, List.set_cons_zero]
  refine qlC rfl _ rfl w.heap.size rfl V M n0 hVl hMl ?_
  simp only [Act.put, List.setIfInBounds_toArray, List.set_cons_succ, List.set_cons_zero]
  go_big_quiet_want; go_big_quiet_op
  refine ⟨_, fun u => Calls.later_of (C4.out u.world), ?_⟩
  go_big_quiet_on
  go_big_quiet_step (fail)
  go_big_quiet_step (fail)
  go_big_quiet_want; go_big_quiet_op
  refine ⟨_, fun u => Calls.later_of (C5.out u.world), ?_⟩
  go_big_quiet_on
  go_big_quiet_step (fail)
  go_big_quiet_step (fail)
  go_big_quiet_step (fail)
  refine qlC rfl _ rfl w3.heap.size rfl BV BM n3 hBl hBm ?_
  simp only [Act.put, List.setIfInBounds_toArray, List.set_cons_succ, List.set_cons_zero]
  refine qlC rfl _ rfl w.heap.size rfl V M n0 hVl hMl ?_
  simp only [Act.put, List.setIfInBounds_toArray, List.set_cons_succ, List.set_cons_zero]
  go_big_quiet_want; go_big_quiet_op
  refine ⟨_, fun u => Calls.later_of (C4.out u.world), ?_⟩
  go_big_quiet_on
  go_big_quiet_step (fail)
  go_big_quiet_want; go_big_quiet_op
  refine ⟨_, fun u => Calls.later_of (C6.out u.world), ?_⟩
  go_big_quiet_on
  go_big_quiet_step (fail)
  go_big_quiet_step (fail)
  refine wpQuiet_nil ?_
  rintro w' ⟨u, rfl⟩
  obtain ⟨W1, hW1⟩ : ∃ W1, W1 = u.world := ⟨_, rfl⟩
  have r0 : W1.heap[w.heap.size]? = some (.cells (cv V M) 25 (0, 0)) := by rw [hW1]; exact later_block n0 _ ⟨u, rfl⟩
  have r1 : W1.heap[w.heap.size + 1]? = some (.cells (hv H) 23 (0, 0)) := by rw [hW1]; exact later_block n1 _ ⟨u, rfl⟩
  have r4 : W1.heap[w4.heap.size]? = some (.cells (cv XV XM) 25 (0, 0)) := by rw [hW1]; exact later_block n4 _ ⟨u, rfl⟩
  have r5 : W1.heap[w4.heap.size + 1]? = some (.cells (cv YV YM) 25 (0, 0)) := by rw [hW1]; exact later_block n5 _ ⟨u, rfl⟩
  have B8 : Below w.heap.size w W1 := by rw [hW1]; exact B7.trans (u.below.mono B7.size)
  rw [← hW1]
  have z8 := (Array.getElem?_eq_some_iff.1 r5).1
  have z9 := (Array.getElem?_eq_some_iff.1 r4).1
  have z10 := (Array.getElem?_eq_some_iff.1 r1).1
  clear hW1 n0 n1 n2 n3 n4 n5 B7 ne1 C5 C6
  go_wp2_with (first
    | (refine wl_loadC rfl _ rfl w.heap.size rfl V M r0 hVl hMl ?_))
  refine (C7.out _).mono ?_
  rintro e w5 ⟨rfl, hb5⟩
  have t0 : w5.heap[w.heap.size]? = some (.cells (cv V M) 25 (0, 0)) := by rw [hb5.block _ (by omega)]; exact r0
  have t1 : w5.heap[w.heap.size + 1]? = some (.cells (hv H) 23 (0, 0)) := by rw [hb5.block _ (by omega)]; exact r1
  have t4 : w5.heap[w4.heap.size]? = some (.cells (cv XV XM) 25 (0, 0)) := by rw [hb5.block _ (by omega)]; exact r4
  have t5 : w5.heap[w4.heap.size + 1]? = some (.cells (cv YV YM) 25 (0, 0)) := by rw [hb5.block _ (by omega)]; exact r5
  have B9 := B8.trans (hb5.mono B8.size)
  clear r0 r1 r4 r5 B8 hb5 z8 z9 z10 C7
  go_wp2_with fail
  have ne2 := Later.ne w5
  refine wp_region_later (by kernel_rfl) (by kernel_rfl) ?_
  go_big_quiet_step (fail)
  go_big_quiet_step (fail)
  go_big_quiet_step (fail)
  refine qlC rfl _ rfl w4.heap.size rfl XV XM t4 hXl hXm ?_
  simp only [Act.put, List.setIfInBounds_toArray, List.set_cons_succ, List.set_cons_zero]
  refine qlC rfl _ rfl w.heap.size rfl V M t0 hVl hMl ?_
  simp only [Act.put, List.setIfInBounds_toArray, List.set_cons_succ, List.set_cons_zero]
  go_big_quiet_want; go_big_quiet_op
  refine ⟨_, fun u => Calls.later_of (C4.out u.world), ?_⟩
  go_big_quiet_on
  go_big_quiet_step (fail)
  go_big_quiet_want; go_big_quiet_op
  refine ⟨_, fun u => Calls.later_of (C8.out u.world), ?_⟩
  go_big_quiet_on
  go_big_quiet_step (fail)
  go_big_quiet_step (fail)
  go_big_quiet_step (fail)
  refine qlC rfl _ rfl (w4.heap.size + 1) rfl YV YM t5 hYl hYm ?_
  simp only [Act.put, List.setIfInBounds_toArray, List.set_cons_succ, List.set_cons_zero]
  refine qlC rfl _ rfl w.heap.size rfl V M t0 hVl hMl ?_
  simp only [Act.put, List.setIfInBounds_toArray, List.set_cons_succ, List.set_cons_zero]
  go_big_quiet_want; go_big_quiet_op
  refine ⟨_, fun u => Calls.later_of (C4.out u.world), ?_⟩
  go_big_quiet_on
  go_big_quiet_step (fail)
  go_big_quiet_want; go_big_quiet_op
  refine ⟨_, fun u => Calls.later_of (C9.out u.world), ?_⟩
  go_big_quiet_on
  go_big_quiet_step (fail)
  go_big_quiet_step (fail)
  go_big_quiet_step (fail)
  refine qlC rfl _ rfl w.heap.size rfl V M t0 hVl hMl ?_
  simp only [Act.put, List.setIfInBounds_toArray, List.set_cons_succ, List.set_cons_zero]
  refine qlH rfl _ rfl (w.heap.size + 1) rfl H t1 hHl ?_
  simp only [Act.put, List.setIfInBounds_toArray, List.set_cons_succ, List.set_cons_zero]
  go_big_quiet_want; go_big_quiet_op
  refine ⟨_, fun u => Calls.later_of (C10.out u.world), ?_⟩
  go_big_quiet_on
  refine qlC rfl _ rfl w4.heap.size rfl XV XM t4 hXl hXm ?_
  simp only [Act.put, List.setIfInBounds_toArray, List.set_cons_succ, List.set_cons_zero]
  refine qlH rfl _ rfl (w.heap.size + 1) rfl H t1 hHl ?_
  simp only [Act.put, List.setIfInBounds_toArray, List.set_cons_succ, List.set_cons_zero]
  go_big_quiet_want; go_big_quiet_op
  refine ⟨_, fun u => Calls.later_of (C11.out u.world), ?_⟩
  go_big_quiet_on
  go_big_quiet_step (fail)
  go_big_quiet_step (fail)
  go_big_quiet_step (fail)
  go_big_quiet_step (fail)
  go_big_quiet_step (fail)
  go_big_quiet_step (fail)
  go_big_quiet_step (fail)
  go_big_quiet_step (fail)
  refine qlC rfl _ rfl w4.heap.size rfl XV XM t4 hXl hXm ?_
  simp only [Act.put, List.setIfInBounds_toArray, List.set_cons_succ, List.set_cons_zero]
  refine qlH rfl _ rfl (w.heap.size + 1) rfl H t1 hHl ?_
  simp only [Act.put, List.setIfInBounds_toArray, List.set_cons_succ, List.set_cons_zero]
  go_big_quiet_want; go_big_quiet_op
  refine ⟨_, fun u => Calls.later_of (C11.out u.world), ?_⟩
  go_big_quiet_on
  go_big_quiet_step (fail)
  refine qlC rfl _ rfl (w4.heap.size + 1) rfl YV YM t5 hYl hYm ?_
  simp only [Act.put, List.setIfInBounds_toArray, List.set_cons_succ, List.set_cons_zero]
  refine qlH rfl _ rfl (w.heap.size + 1) rfl H t1 hHl ?_
  simp only [Act.put, List.setIfInBounds_toArray, List.set_cons_succ, List.set_cons_zero]
  go_big_quiet_want; go_big_quiet_op
  refine ⟨_, fun u => Calls.later_of (C12.out u.world), ?_⟩
  go_big_quiet_on
  go_big_quiet_step (fail)
  go_big_quiet_step (fail)
  go_big_quiet_step (fail)
  go_big_quiet_step (fail)
  refine wpQuiet_nil ?_
  rintro w' ⟨u2, rfl⟩
  go_wp2
  go_ret
  exact ⟨rfl, B9.trans (u2.below.mono B9.size)⟩

set_option maxHeartbeats 8000000 in
set_option maxRecDepth 100000 in
theorem fixes_free_fy (V M H CV AV AM BV BM XV XM YV YM : List Int) (i : Nat) (hi : i < 104) (hVl : V.length = 13) (hMl : M.length = 13) (hHl : H.length = 13) (hAl : AV.length = 13) (hAm : AM.length = 13) (hBl : BV.length = 13) (hBm : BM.length = 13) (hXl : XV.length = 13) (hXm : XM.length = 13) (hYl : YV.length = 13) (hYm : YM.length = 13)
    (c1 : ∀ W, Calls Try.prog 25 #[.agg (cv V M), .int .i64 (i : Int), .bool false] W fun e w' => e = .returned (.tuple #[.agg (cv AV AM), .int .i64 0]) ∧ Below W.heap.size W w')
    (c2 : ∀ W, Calls Try.prog 26 #[.agg (cv V M), .int .i64 (i : Int)] W fun e w' => e = .returned (.tuple #[.agg (cv BV BM), .int .i64 0]) ∧ Below W.heap.size W w')
    (c3 : ∀ W, Calls Try.prog 27 #[.agg (cv V M), .int .i64 (i : Int)] W fun e w' => e = .returned (.tuple #[.agg (cv XV XM), .agg (cv YV YM), .int .i64 0]) ∧ Below W.heap.size W w')
    (c4 : ∀ W, Calls Try.prog 13 #[.agg (cv V M)] W fun e w' => e = .returned (.agg (cv CV M)) ∧ Below W.heap.size W w')
    (c5 : ∀ W, Calls Try.prog 28 #[.agg (cv CV M), .int .i64 (i : Int), .int .i64 0] W fun e w' => e = .returned (.agg (cv AV AM)) ∧ Below W.heap.size W w')
    (c6 : ∀ W, Calls Try.prog 28 #[.agg (cv CV M), .int .i64 (i : Int), .int .i64 2] W fun e w' => e = .returned (.agg (cv BV BM)) ∧ Below W.heap.size W w')
    (c7 : ∀ W, Calls Try.prog 29 #[.agg (cv V M), .int .i64 (i : Int)] W fun e w' => e = .returned (.int .i64 2) ∧ Below W.heap.size W w')
    (c8 : ∀ W, Calls Try.prog 28 #[.agg (cv CV M), .int .i64 (i : Int), .int .i64 0] W fun e w' => e = .returned (.agg (cv XV XM)) ∧ Below W.heap.size W w')
    (c9 : ∀ W, Calls Try.prog 28 #[.agg (cv CV M), .int .i64 (i : Int), .int .i64 1] W fun e w' => e = .returned (.agg (cv YV YM)) ∧ Below W.heap.size W w')
    (c10 : ∀ W, Calls Try.prog 11 #[.agg (cv V M), .agg (hv H)] W fun e w' => e = .returned (.bool true) ∧ Below W.heap.size W w')
    (c11 : ∀ W, Calls Try.prog 11 #[.agg (cv XV XM), .agg (hv H)] W fun e w' => e = .returned (.bool false) ∧ Below W.heap.size W w')
    (c12 : ∀ W, Calls Try.prog 11 #[.agg (cv YV YM), .agg (hv H)] W fun e w' => e = .returned (.bool true) ∧ Below W.heap.size W w')
    (w : World) : Calls Try.prog 8 #[.agg (cv V M), .int .i64 (i : Int), .bool false, .agg (hv H)] w fun e w' => e = .returned (.bool true) ∧ Below w.heap.size w w' := by
  have C1 : Hid (∀ W, Calls Try.prog 25 #[.agg (cv V M), .int .i64 (i : Int), .bool false] W fun e w' => e = .returned (.tuple #[.agg (cv AV AM), .int .i64 0]) ∧ Below W.heap.size W w') := c1
  have C2 : Hid (∀ W, Calls Try.prog 26 #[.agg (cv V M), .int .i64 (i : Int)] W fun e w' => e = .returned (.tuple #[.agg (cv BV BM), .int .i64 0]) ∧ Below W.heap.size W w') := c2
  have C3 : Hid (∀ W, Calls Try.prog 27 #[.agg (cv V M), .int .i64 (i : Int)] W fun e w' => e = .returned (.tuple #[.agg (cv XV XM), .agg (cv YV YM), .int .i64 0]) ∧ Below W.heap.size W w') := c3
  have C4 : Hid (∀ W, Calls Try.prog 13 #[.agg (cv V M)] W fun e w' => e = .returned (.agg (cv CV M)) ∧ Below W.heap.size W w') := c4
  have C5 : Hid (∀ W, Calls Try.prog 28 #[.agg (cv CV M), .int .i64 (i : Int), .int .i64 0] W fun e w' => e = .returned (.agg (cv AV AM)) ∧ Below W.heap.size W w') := c5
  have C6 : Hid (∀ W, Calls Try.prog 28 #[.agg (cv CV M), .int .i64 (i : Int), .int .i64 2] W fun e w' => e = .returned (.agg (cv BV BM)) ∧ Below W.heap.size W w') := c6
  have C7 : Hid (∀ W, Calls Try.prog 29 #[.agg (cv V M), .int .i64 (i : Int)] W fun e w' => e = .returned (.int .i64 2) ∧ Below W.heap.size W w') := c7
  have C8 : Hid (∀ W, Calls Try.prog 28 #[.agg (cv CV M), .int .i64 (i : Int), .int .i64 0] W fun e w' => e = .returned (.agg (cv XV XM)) ∧ Below W.heap.size W w') := c8
  have C9 : Hid (∀ W, Calls Try.prog 28 #[.agg (cv CV M), .int .i64 (i : Int), .int .i64 1] W fun e w' => e = .returned (.agg (cv YV YM)) ∧ Below W.heap.size W w') := c9
  have C10 : Hid (∀ W, Calls Try.prog 11 #[.agg (cv V M), .agg (hv H)] W fun e w' => e = .returned (.bool true) ∧ Below W.heap.size W w') := c10
  have C11 : Hid (∀ W, Calls Try.prog 11 #[.agg (cv XV XM), .agg (hv H)] W fun e w' => e = .returned (.bool false) ∧ Below W.heap.size W w') := c11
  have C12 : Hid (∀ W, Calls Try.prog 11 #[.agg (cv YV YM), .agg (hv H)] W fun e w' => e = .returned (.bool true) ∧ Below W.heap.size W w') := c12
  have e1 : ∀ w, (Op.equalIn 10000 25 (.agg (cv AV AM)) (.agg (cv AV AM))).run Try.prog w = .ok true w := fun w => by rw [eqC _ _ _ _ hAl hAm hAl hAm]; simp
  have e2 : ∀ w, (Op.equalIn 10000 25 (.agg (cv BV BM)) (.agg (cv BV BM))).run Try.prog w = .ok true w := fun w => by rw [eqC _ _ _ _ hBl hBm hBl hBm]; simp
  have e3 : ∀ w, (Op.equalIn 10000 25 (.agg (cv XV XM)) (.agg (cv XV XM))).run Try.prog w = .ok true w := fun w => by rw [eqC _ _ _ _ hXl hXm hXl hXm]; simp
  have e4 : ∀ w, (Op.equalIn 10000 25 (.agg (cv YV YM)) (.agg (cv YV YM))).run Try.prog w = .ok true w := fun w => by rw [eqC _ _ _ _ hYl hYm hYl hYm]; simp
  have eg : ∀ op x y (xs ys : Array Value) w, (eqGuard op 25 x y (.agg xs) (.agg ys)).run Try.prog w = .ok () w := egC
  have hzl := Z_byt.1
  clear c1 c2 c3 c4 c5 c6 c7 c8 c9 c10 c11 c12
  go_enter Try.func8, Try.ntmps8
  go_wp2_with fail
  refine (awake_any _).mono ?_
  rintro e w1 ⟨rfl, hb1⟩
  have g0 : w1.heap[w.heap.size]? = some (.cells (cv V M) 25 (0, 0)) := by rw [hb1.block _ (by simp; omega)]; exact heap_past _ _ _ _ (heap_new _ _ _ rfl)
  have g1 : w1.heap[w.heap.size + 1]? = some (.cells (hv H) 23 (0, 0)) := by rw [hb1.block _ (by simp)]; exact heap_new _ _ _ (by simp)
  have B1 : Below w.heap.size w w1 := (((Below.refl _ _).alloc (Nat.le_refl _) _).alloc (by simp) _).trans (hb1.mono (by simp; omega))
  have z1 : w.heap.size + 2 ≤ w1.heap.size := Nat.le_trans (by simp) hb1.size
  clear hb1
  go_wp2_with (first
    | (refine wl_loadC rfl _ rfl w.heap.size rfl V M g0 hVl hMl ?_))
  refine (C1.out _).mono ?_
  rintro e w2 ⟨rfl, hb2⟩
  have k0 : w2.heap[w.heap.size]? = some (.cells (cv V M) 25 (0, 0)) := by rw [hb2.block _ (by omega)]; exact g0
  have k1 : w2.heap[w.heap.size + 1]? = some (.cells (hv H) 23 (0, 0)) := by rw [hb2.block _ (by omega)]; exact g1
  have B2 := B1.trans (hb2.mono B1.size)
  have z2 : w.heap.size + 2 ≤ w2.heap.size := Nat.le_trans z1 hb2.size
  clear g0 g1 B1 z1 hb2 C1
  have l0 := heap_past w2 (.cells (cv AV AM) 25) _ _ k0
  have l1 := heap_past w2 (.cells (cv AV AM) 25) _ _ k1
  have l2 := heap_new w2 (.cells (cv AV AM) 25) _ rfl
  have B3 := B2.alloc B2.size (.cells (cv AV AM) 25)
  go_wp2_with (first
    | (refine wl_storeC rfl _ _ rfl w2.heap.size AV AM rfl rfl _ (heap_new _ _ _ rfl) rfl hAl hAm _ (setRow_new _ _ _ _ _ rfl) ?_)
    | (refine wl_loadC rfl _ rfl w.heap.size rfl V M l0 hVl hMl ?_))
  refine (C2.out _).mono ?_
  rintro e w3 ⟨rfl, hb3⟩
  have m0 : w3.heap[w.heap.size]? = some (.cells (cv V M) 25 (0, 0)) := by rw [hb3.block _ (by simp; omega)]; exact l0
  have m1 : w3.heap[w.heap.size + 1]? = some (.cells (hv H) 23 (0, 0)) := by rw [hb3.block _ (by simp; omega)]; exact l1
  have m2 : w3.heap[w2.heap.size]? = some (.cells (cv AV AM) 25 (0, 0)) := by rw [hb3.block _ (by simp)]; exact l2
  have B4 := B3.trans (hb3.mono B3.size)
  have z4 : w2.heap.size + 1 ≤ w3.heap.size := Nat.le_trans (by simp) hb3.size
  clear k0 k1 B2 l0 l1 l2 B3 hb3 C2
  have p0 := heap_past w3 (.cells (cv BV BM) 25) _ _ m0
  have p1 := heap_past w3 (.cells (cv BV BM) 25) _ _ m1
  have p2 := heap_past w3 (.cells (cv BV BM) 25) _ _ m2
  have p3 := heap_new w3 (.cells (cv BV BM) 25) _ rfl
  have B5 := B4.alloc B4.size (.cells (cv BV BM) 25)
  go_wp2_with (first
    | (refine wl_storeC rfl _ _ rfl w3.heap.size BV BM rfl rfl _ (heap_new _ _ _ rfl) rfl hBl hBm _ (setRow_new _ _ _ _ _ rfl) ?_)
    | (refine wl_loadC rfl _ rfl w.heap.size rfl V M p0 hVl hMl ?_))
  refine (C3.out _).mono ?_
  rintro e w4 ⟨rfl, hb4⟩
  have q0 : w4.heap[w.heap.size]? = some (.cells (cv V M) 25 (0, 0)) := by rw [hb4.block _ (by simp; omega)]; exact p0
  have q1 : w4.heap[w.heap.size + 1]? = some (.cells (hv H) 23 (0, 0)) := by rw [hb4.block _ (by simp; omega)]; exact p1
  have q2 : w4.heap[w2.heap.size]? = some (.cells (cv AV AM) 25 (0, 0)) := by rw [hb4.block _ (by simp; omega)]; exact p2
  have q3 : w4.heap[w3.heap.size]? = some (.cells (cv BV BM) 25 (0, 0)) := by rw [hb4.block _ (by simp)]; exact p3
  have B6 := B5.trans (hb4.mono B5.size)
  clear m0 m1 m2 B4 p0 p1 p2 p3 B5 hb4 C3
  have n0 := heap_past (w4.alloc (.cells (cv XV XM) 25)) (.cells (cv YV YM) 25) _ _ (heap_past w4 (.cells (cv XV XM) 25) _ _ q0)
  have n1 := heap_past (w4.alloc (.cells (cv XV XM) 25)) (.cells (cv YV YM) 25) _ _ (heap_past w4 (.cells (cv XV XM) 25) _ _ q1)
  have n2 := heap_past (w4.alloc (.cells (cv XV XM) 25)) (.cells (cv YV YM) 25) _ _ (heap_past w4 (.cells (cv XV XM) 25) _ _ q2)
  have n3 := heap_past (w4.alloc (.cells (cv XV XM) 25)) (.cells (cv YV YM) 25) _ _ (heap_past w4 (.cells (cv XV XM) 25) _ _ q3)
  have n4 := heap_past (w4.alloc (.cells (cv XV XM) 25)) (.cells (cv YV YM) 25) _ _ (heap_new w4 (.cells (cv XV XM) 25) _ rfl)
  have n5 := heap_new (w4.alloc (.cells (cv XV XM) 25)) (.cells (cv YV YM) 25) (w4.heap.size + 1) (by simp)
  have B7 := (B6.alloc B6.size (.cells (cv XV XM) 25)).alloc (by simp; exact Nat.le_trans B6.size (by omega)) (.cells (cv YV YM) 25)
  clear q0 q1 q2 q3
  obtain ⟨W, hW⟩ : ∃ W, W = (w4.alloc (.cells (cv XV XM) 25)).alloc (.cells (cv YV YM) 25) := ⟨_, rfl⟩
  have hi0 : ¬ (i : Int) < 0 := by omega
  have hi1 : ¬ (104 : Int) ≤ (i : Int) := by omega
  go_wp2_with (first
    | (refine wl_storeC rfl _ _ rfl w4.heap.size XV XM rfl rfl _ (heap_past _ _ _ _ (heap_new _ _ _ rfl)) rfl hXl hXm _ (by rw [setRow_past _ _ _ _ (by simp), setRow_new _ _ _ _ _ rfl]) ?_)
    | (refine wl_storeC rfl _ _ rfl (w4.heap.size + 1) YV YM rfl rfl _ (heap_new _ _ _ (by simp)) rfl hYl hYm _ (setRow_new _ _ _ _ _ (by simp)) ?_))
  rw [← hW] at n0 n1 n2 n3 n4 n5 B7 ⊢
  clear hW B6
  have ne1 := Later.ne W
  refine wp_region_later (by kernel_rfl) (by kernel_rfl) ?_
  go_big_quiet_step (fail)
  go_big_quiet_step (fail)
  go_big_quiet_step (fail)
  go_big_quiet_step (fail)
  go_big_quiet_step (fail)
  go_big_quiet_step (fail)
  go_big_quiet_step (fail)
  refine qlC rfl _ rfl w2.heap.size rfl AV AM n2 hAl hAm ?_
  simp only [Act.put, List.setIfInBounds_toArray, List.set_cons_succ, List.set_cons_zero]
  refine qlC rfl _ rfl w.heap.size rfl V M n0 hVl hMl ?_
  simp only [Act.put, List.setIfInBounds_toArray, List.set_cons_succ, List.set_cons_zero]
  go_big_quiet_want; go_big_quiet_op
  refine ⟨_, fun u => Calls.later_of (C4.out u.world), ?_⟩
  go_big_quiet_on
  go_big_quiet_step (fail)
  go_big_quiet_step (fail)
  go_big_quiet_want; go_big_quiet_op
  refine ⟨_, fun u => Calls.later_of (C5.out u.world), ?_⟩
  go_big_quiet_on
  go_big_quiet_step (fail)
  go_big_quiet_step (fail)
  go_big_quiet_step (fail)
  refine qlC rfl _ rfl w3.heap.size rfl BV BM n3 hBl hBm ?_
  simp only [Act.put, List.setIfInBounds_toArray, List.set_cons_succ, List.set_cons_zero]
  refine qlC rfl _ rfl w.heap.size rfl V M n0 hVl hMl ?_
  simp only [Act.put, List.setIfInBounds_toArray, List.set_cons_succ, List.set_cons_zero]
  go_big_quiet_want; go_big_quiet_op
  refine ⟨_, fun u => Calls.later_of (C4.out u.world), ?_⟩
  go_big_quiet_on
  go_big_quiet_step (fail)
  go_big_quiet_want; go_big_quiet_op
  refine ⟨_, fun u => Calls.later_of (C6.out u.world), ?_⟩
  go_big_quiet_on
  go_big_quiet_step (fail)
  go_big_quiet_step (fail)
  refine wpQuiet_nil ?_
  rintro w' ⟨u, rfl⟩
  obtain ⟨W1, hW1⟩ : ∃ W1, W1 = u.world := ⟨_, rfl⟩
  have r0 : W1.heap[w.heap.size]? = some (.cells (cv V M) 25 (0, 0)) := by rw [hW1]; exact later_block n0 _ ⟨u, rfl⟩
  have r1 : W1.heap[w.heap.size + 1]? = some (.cells (hv H) 23 (0, 0)) := by rw [hW1]; exact later_block n1 _ ⟨u, rfl⟩
  have r4 : W1.heap[w4.heap.size]? = some (.cells (cv XV XM) 25 (0, 0)) := by rw [hW1]; exact later_block n4 _ ⟨u, rfl⟩
  have r5 : W1.heap[w4.heap.size + 1]? = some (.cells (cv YV YM) 25 (0, 0)) := by rw [hW1]; exact later_block n5 _ ⟨u, rfl⟩
  have B8 : Below w.heap.size w W1 := by rw [hW1]; exact B7.trans (u.below.mono B7.size)
  rw [← hW1]
  have z8 := (Array.getElem?_eq_some_iff.1 r5).1
  have z9 := (Array.getElem?_eq_some_iff.1 r4).1
  have z10 := (Array.getElem?_eq_some_iff.1 r1).1
  clear hW1 n0 n1 n2 n3 n4 n5 B7 ne1 C5 C6
  go_wp2_with (first
    | (refine wl_loadC rfl _ rfl w.heap.size rfl V M r0 hVl hMl ?_))
  refine (C7.out _).mono ?_
  rintro e w5 ⟨rfl, hb5⟩
  have t0 : w5.heap[w.heap.size]? = some (.cells (cv V M) 25 (0, 0)) := by rw [hb5.block _ (by omega)]; exact r0
  have t1 : w5.heap[w.heap.size + 1]? = some (.cells (hv H) 23 (0, 0)) := by rw [hb5.block _ (by omega)]; exact r1
  have t4 : w5.heap[w4.heap.size]? = some (.cells (cv XV XM) 25 (0, 0)) := by rw [hb5.block _ (by omega)]; exact r4
  have t5 : w5.heap[w4.heap.size + 1]? = some (.cells (cv YV YM) 25 (0, 0)) := by rw [hb5.block _ (by omega)]; exact r5
  have B9 := B8.trans (hb5.mono B8.size)
  clear r0 r1 r4 r5 B8 hb5 z8 z9 z10 C7
  go_wp2_with fail
  have ne2 := Later.ne w5
  refine wp_region_later (by kernel_rfl) (by kernel_rfl) ?_
  go_big_quiet_step (fail)
  go_big_quiet_step (fail)
  go_big_quiet_step (fail)
  refine qlC rfl _ rfl w4.heap.size rfl XV XM t4 hXl hXm ?_
  simp only [Act.put, List.setIfInBounds_toArray, List.set_cons_succ, List.set_cons_zero]
  refine qlC rfl _ rfl w.heap.size rfl V M t0 hVl hMl ?_
  simp only [Act.put, List.setIfInBounds_toArray, List.set_cons_succ, List.set_cons_zero]
  go_big_quiet_want; go_big_quiet_op
  refine ⟨_, fun u => Calls.later_of (C4.out u.world), ?_⟩
  go_big_quiet_on
  go_big_quiet_step (fail)
  go_big_quiet_want; go_big_quiet_op
  refine ⟨_, fun u => Calls.later_of (C8.out u.world), ?_⟩
  go_big_quiet_on
  go_big_quiet_step (fail)
  go_big_quiet_step (fail)
  go_big_quiet_step (fail)
  refine qlC rfl _ rfl (w4.heap.size + 1) rfl YV YM t5 hYl hYm ?_
  simp only [Act.put, List.setIfInBounds_toArray, List.set_cons_succ, List.set_cons_zero]
  refine qlC rfl _ rfl w.heap.size rfl V M t0 hVl hMl ?_
  simp only [Act.put, List.setIfInBounds_toArray, List.set_cons_succ, List.set_cons_zero]
  go_big_quiet_want; go_big_quiet_op
  refine ⟨_, fun u => Calls.later_of (C4.out u.world), ?_⟩
  go_big_quiet_on
  go_big_quiet_step (fail)
  go_big_quiet_want; go_big_quiet_op
  refine ⟨_, fun u => Calls.later_of (C9.out u.world), ?_⟩
  go_big_quiet_on
  go_big_quiet_step (fail)
  go_big_quiet_step (fail)
  go_big_quiet_step (fail)
  refine qlC rfl _ rfl w.heap.size rfl V M t0 hVl hMl ?_
  simp only [Act.put, List.setIfInBounds_toArray, List.set_cons_succ, List.set_cons_zero]
  refine qlH rfl _ rfl (w.heap.size + 1) rfl H t1 hHl ?_
  simp only [Act.put, List.setIfInBounds_toArray, List.set_cons_succ, List.set_cons_zero]
  go_big_quiet_want; go_big_quiet_op
  refine ⟨_, fun u => Calls.later_of (C10.out u.world), ?_⟩
  go_big_quiet_on
  refine qlC rfl _ rfl w4.heap.size rfl XV XM t4 hXl hXm ?_
  simp only [Act.put, List.setIfInBounds_toArray, List.set_cons_succ, List.set_cons_zero]
  refine qlH rfl _ rfl (w.heap.size + 1) rfl H t1 hHl ?_
  simp only [Act.put, List.setIfInBounds_toArray, List.set_cons_succ, List.set_cons_zero]
  go_big_quiet_want; go_big_quiet_op
  refine ⟨_, fun u => Calls.later_of (C11.out u.world), ?_⟩
  go_big_quiet_on
  go_big_quiet_step (fail)
  refine qlC rfl _ rfl (w4.heap.size + 1) rfl YV YM t5 hYl hYm ?_
  simp only [Act.put, List.setIfInBounds_toArray, List.set_cons_succ, List.set_cons_zero]
  refine qlH rfl _ rfl (w.heap.size + 1) rfl H t1 hHl ?_
  simp only [Act.put, List.setIfInBounds_toArray, List.set_cons_succ, List.set_cons_zero]
  go_big_quiet_want; go_big_quiet_op
  refine ⟨_, fun u => Calls.later_of (C12.out u.world), ?_⟩
  go_big_quiet_on
  go_big_quiet_step (fail)
  go_big_quiet_step (fail)
  go_big_quiet_step (fail)
  go_big_quiet_step (fail)
  refine qlC rfl _ rfl w4.heap.size rfl XV XM t4 hXl hXm ?_
  simp only [Act.put, List.setIfInBounds_toArray, List.set_cons_succ, List.set_cons_zero]
  refine qlH rfl _ rfl (w.heap.size + 1) rfl H t1 hHl ?_
  simp only [Act.put, List.setIfInBounds_toArray, List.set_cons_succ, List.set_cons_zero]
  go_big_quiet_want; go_big_quiet_op
  refine ⟨_, fun u => Calls.later_of (C11.out u.world), ?_⟩
  go_big_quiet_on
  go_big_quiet_step (fail)
  go_big_quiet_step (fail)
  go_big_quiet_step (fail)
  go_big_quiet_step (fail)
  go_big_quiet_step (fail)
  go_big_quiet_step (fail)
  go_big_quiet_step (fail)
  go_big_quiet_step (fail)
  refine wpQuiet_nil ?_
  rintro w' ⟨u2, rfl⟩
  go_wp2
  go_ret
  exact ⟨rfl, B9.trans (u2.below.mono B9.size)⟩

theorem lawFixes_any (V M : List Int) (i : Int) (one : Bool) (H : List Int) (hV : Byt V) (hM : Byt M) (hH : Byt H) (w : World) :
    Calls Try.prog 8 #[.agg (cv V M), .int .i64 i, .bool one, .agg (hv H)] w fun e w' => e = .returned (.bool true) ∧ Below w.heap.size w w' := by
  by_cases hin : 0 ≤ i ∧ i < 104
  · obtain ⟨k, rfl⟩ := Int.eq_ofNat_of_zero_le hin.1
    have hk : k < 104 := by omega
    have c2 := loose_in V M hV hM k hk
    have c4 := rcanon_any V M hV hM
    have s1 := rset_any _ _ (can_byt V M) hM k hk 1
    have s0 := rset_any _ _ (can_byt V M) hM k hk 0
    have c6 := rset_any _ _ (can_byt V M) hM k hk 2
    have c7 := at_any V M hV hM k hk
    rw [show ((2 : Int) == 1) = false from rfl, show ((2 : Int) != 2) = false from rfl, loo_eq] at c6
    rw [show ((1 : Int) == 1) = true from rfl, show ((1 : Int) != 2) = true from rfl] at s1
    rw [show ((0 : Int) == 1) = false from rfl, show ((0 : Int) != 2) = true from rfl] at s0
    have lM := (setb_byt M k true).1
    have lC := fun b => (setb_byt (can V M) k b).1
    have lL := (setb_byt M k false).1
    have lLV := (can_byt V (looM M k)).1
    cases hm : bt M k
    · have c3 := split_free V M hV hM k hk hm
      have ha : atI V M k = 2 := by unfold atI; rw [hm]; rfl
      rw [ha] at c7
      have h0 := has_any V M H hV hM hH
      have hx := has_any _ _ H (fixV_byt V M k false) (fixM_byt M k) hH
      have hy := has_any _ _ H (fixV_byt V M k true) (fixM_byt M k) hH
      rw [has_fix V M H k _ hk hm] at hx hy
      cases hc : has V M H
      · rw [hc] at h0
        rw [hc, Bool.false_and] at hx hy
        cases one
        · exact fixes_free_fn V M H _ _ _ _ _ _ _ _ _ k hk hV.1 hM.1 hH.1 (lC _) lM lLV lL (lC _) lM (lC _) lM (fix_in V M hV hM k false hk) c2 c3 c4 s0 c6 c7 s0 s1 h0 hx hy w
        · exact fixes_free_tn V M H _ _ _ _ _ _ _ _ _ k hk hV.1 hM.1 hH.1 (lC _) lM lLV lL (lC _) lM (lC _) lM (fix_in V M hV hM k true hk) c2 c3 c4 s1 c6 c7 s0 s1 h0 hx hy w
      · rw [hc] at h0
        rw [hc, Bool.true_and] at hx hy
        cases hb : bt H k
        · rw [hb] at hx hy
          cases one
          · exact fixes_free_fx V M H _ _ _ _ _ _ _ _ _ k hk hV.1 hM.1 hH.1 (lC _) lM lLV lL (lC _) lM (lC _) lM (fix_in V M hV hM k false hk) c2 c3 c4 s0 c6 c7 s0 s1 h0 hx hy w
          · exact fixes_free_tx V M H _ _ _ _ _ _ _ _ _ k hk hV.1 hM.1 hH.1 (lC _) lM lLV lL (lC _) lM (lC _) lM (fix_in V M hV hM k true hk) c2 c3 c4 s1 c6 c7 s0 s1 h0 hx hy w
        · rw [hb] at hx hy
          cases one
          · exact fixes_free_fy V M H _ _ _ _ _ _ _ _ _ k hk hV.1 hM.1 hH.1 (lC _) lM lLV lL (lC _) lM (lC _) lM (fix_in V M hV hM k false hk) c2 c3 c4 s0 c6 c7 s0 s1 h0 hx hy w
          · exact fixes_free_ty V M H _ _ _ _ _ _ _ _ _ k hk hV.1 hM.1 hH.1 (lC _) lM lLV lL (lC _) lM (lC _) lM (fix_in V M hV hM k true hk) c2 c3 c4 s1 c6 c7 s0 s1 h0 hx hy w
    · have c3 := split_fixed V M hV.1 hM k hk hm
      have ht : (atI V M k != 2) = true := by rw [at_ne2]; exact hm
      cases one
      · exact fixes_fixed_f V M H _ _ _ _ _ k hk _ ht hV.1 hM.1 (lC _) lM lLV lL (fix_in V M hV hM k false hk) c2 c3 c4 s0 c6 c7 w
      · exact fixes_fixed_t V M H _ _ _ _ _ k hk _ ht hV.1 hM.1 (lC _) lM lLV lL (fix_in V M hV hM k true hk) c2 c3 c4 s1 c6 c7 w
  · have c1 := fix_no V M i one hin
    have c2 := loose_no V M i hin
    have c3 := split_no V M i hin
    by_cases h0 : i < 0
    · exact fixes_lo V M H i one h0 hV.1 hM.1 c1 c2 c3 w
    · exact fixes_hi V M H i one (by omega) (by omega) hV.1 hM.1 c1 c2 c3 w
end Go.Proofs.Ythekoeinnillpaa
