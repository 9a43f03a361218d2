import Derived.Test.YthekoeinnillpaaWithin
namespace Go.Proofs.Ythekoeinnillpaa
open Go Go.RowKit

theorem within_self (V M : List Int) : within V M V M = true := (within_iff _ _ _ _).2 fun _ _ h => ⟨h, rfl⟩
theorem within_Z (V M V' : List Int) : within V M V' Z = true := (within_iff _ _ _ _).2 fun i hi h => by rw [Z_bt i hi] at h; cases h
theorem has_within (V M V' M' H : List Int) (h : within V M V' M' = true) (h2 : has V M H = true) : has V' M' H = true := by
  rw [has_iff] at h2 ⊢
  rw [within_iff] at h
  intro i hi hm
  obtain ⟨h3, h4⟩ := h i hi hm
  rw [← h4]; exact h2 i hi h3

set_option maxHeartbeats 4000000 in
theorem within_f (V M V' M' H : List Int) (hVl : V.length = 13) (hMl : M.length = 13) (hVl' : V'.length = 13) (hMl' : M'.length = 13)
    (c1 : ∀ W, Calls Try.prog 23 #[.agg (cv V M), .agg (cv V' M')] W fun e w' => e = .returned (.bool false) ∧ Below W.heap.size W w')
    (c2 : ∀ W, Calls Try.prog 24 #[.agg (cv V M), .agg (cv V' M')] W fun e w' => e = .returned (.bool false) ∧ Below W.heap.size W w')
    (c3 : ∀ W, Calls Try.prog 23 #[.agg (cv V M), .agg (cv V M)] W fun e w' => e = .returned (.bool true) ∧ Below W.heap.size W w')
    (c4 : ∀ W, Calls Try.prog 23 #[.agg (cv V M), .agg (cv Z Z)] W fun e w' => e = .returned (.bool true) ∧ Below W.heap.size W w')
    (w : World) : Calls Try.prog 7 #[.agg (cv V M), .agg (cv V' M'), .agg (hv H)] w fun e w' => e = .returned (.bool true) ∧ Below w.heap.size w w' := by
  have C1 : Hid (∀ W, Calls Try.prog 23 #[.agg (cv V M), .agg (cv V' M')] W fun e w' => e = .returned (.bool false) ∧ Below W.heap.size W w') := c1
  have C2 : Hid (∀ W, Calls Try.prog 24 #[.agg (cv V M), .agg (cv V' M')] W fun e w' => e = .returned (.bool false) ∧ Below W.heap.size W w') := c2
  have C3 : Hid (∀ W, Calls Try.prog 23 #[.agg (cv V M), .agg (cv V M)] W fun e w' => e = .returned (.bool true) ∧ Below W.heap.size W w') := c3
  have C4 : Hid (∀ W, Calls Try.prog 23 #[.agg (cv V M), .agg (cv Z Z)] W fun e w' => e = .returned (.bool true) ∧ Below W.heap.size W w') := c4
  clear c1 c2 c3 c4
  go_enter Try.func7, Try.ntmps7
  go_wp2_with fail
  refine (awake_any _).mono ?_
  rintro e w1 ⟨rfl, hb1⟩
  have g0 : w1.heap[w.heap.size]? = some (.cells (cv V M) 25 (0, 0)) := by rw [hb1.block _ (by simp; omega)]; exact heap_past _ _ _ _ (heap_past _ _ _ _ (heap_new _ _ _ rfl))
  have g1 : w1.heap[w.heap.size + 1]? = some (.cells (cv V' M') 25 (0, 0)) := by rw [hb1.block _ (by simp)]; exact heap_past _ _ _ _ (heap_new _ _ _ (by simp))
  have g2 : w1.heap[w.heap.size + 2]? = some (.cells (hv H) 23 (0, 0)) := by rw [hb1.block _ (by simp)]; exact heap_new _ _ _ (by simp)
  have B1 : Below w.heap.size w w1 := ((((Below.refl _ _).alloc (Nat.le_refl _) _).alloc (by simp) _).alloc (by simp; omega) _).trans (hb1.mono (by simp; omega))
  have z1 : w.heap.size + 3 ≤ w1.heap.size := Nat.le_trans (by simp) hb1.size
  clear hb1
  go_wp2_with (first
    | (refine wl_loadC rfl _ rfl w.heap.size rfl V M g0 hVl hMl ?_)
    | (refine wl_loadC rfl _ rfl (w.heap.size + 1) rfl V' M' g1 hVl' hMl' ?_))
  refine (C1.out _).mono ?_
  rintro e w2 ⟨rfl, hb2⟩
  have n0 : w2.heap[w.heap.size]? = some (.cells (cv V M) 25 (0, 0)) := by rw [hb2.block _ (by omega)]; exact g0
  have n1 : w2.heap[w.heap.size + 1]? = some (.cells (cv V' M') 25 (0, 0)) := by rw [hb2.block _ (by omega)]; exact g1
  have n2 : w2.heap[w.heap.size + 2]? = some (.cells (hv H) 23 (0, 0)) := by rw [hb2.block _ (by omega)]; exact g2
  have B2 := B1.trans (hb2.mono B1.size)
  clear g0 g1 g2 B1 z1 hb2 C1
  go_wp2_with fail
  have ne1 := Later.ne w2
  refine wp_region_later (by kernel_rfl) (by kernel_rfl) ?_
  go_big_quiet_step (fail)
  refine qlC rfl _ rfl w.heap.size rfl V M n0 hVl hMl ?_
  simp only [Act.put, List.setIfInBounds_toArray, List.set_cons_succ, List.set_cons_zero]
  refine qlC rfl _ rfl (w.heap.size + 1) rfl V' M' n1 hVl' hMl' ?_
  simp only [Act.put, List.setIfInBounds_toArray, List.set_cons_succ, List.set_cons_zero]
  go_big_quiet_want; go_big_quiet_op
  refine ⟨_, fun u => Calls.later_of (C2.out u.world), ?_⟩
  go_big_quiet_on
  go_big_quiet_step (fail)
  go_big_quiet_step (fail)
  refine qlC rfl _ rfl w.heap.size rfl V M n0 hVl hMl ?_
  simp only [Act.put, List.setIfInBounds_toArray, List.set_cons_succ, List.set_cons_zero]
  refine qlC rfl _ rfl w.heap.size rfl V M n0 hVl hMl ?_
  simp only [Act.put, List.setIfInBounds_toArray, List.set_cons_succ, List.set_cons_zero]
  go_big_quiet_want; go_big_quiet_op
  refine ⟨_, fun u => Calls.later_of (C3.out u.world), ?_⟩
  go_big_quiet_on
  go_big_quiet_step (fail)
  go_big_quiet_step (fail)
  go_big_quiet_step (fail)
  refine qlC rfl _ rfl w.heap.size rfl V M n0 hVl hMl ?_
  simp only [Act.put, List.setIfInBounds_toArray, List.set_cons_succ, List.set_cons_zero]
  go_big_quiet_want; go_big_quiet_op
  refine ⟨_, fun u => Calls.later_of (all_any u.world), ?_⟩
  go_big_quiet_on
  go_big_quiet_want; go_big_quiet_op
  refine ⟨_, fun u => Calls.later_of (C4.out u.world), ?_⟩
  go_big_quiet_on
  go_big_quiet_step (fail)
  go_big_quiet_step (fail)
  refine wpQuiet_nil ?_
  rintro w' ⟨u, rfl⟩
  have m0 := later_block n0 _ ⟨u, rfl⟩
  have m1 := later_block n1 _ ⟨u, rfl⟩
  have m2 := later_block n2 _ ⟨u, rfl⟩
  have B3 := B2.trans (u.below.mono B2.size)
  have z3 := (Array.getElem?_eq_some_iff.1 m2).1
  clear n0 n1 n2 B2 ne1 C2 C3 C4
  go_wp2_with fail
  go_ret
  exact ⟨rfl, B3⟩

set_option maxHeartbeats 4000000 in
theorem within_tf (V M V' M' H : List Int) (hVl : V.length = 13) (hMl : M.length = 13) (hVl' : V'.length = 13) (hMl' : M'.length = 13) (hHl : H.length = 13)
    (c1 : ∀ W, Calls Try.prog 23 #[.agg (cv V M), .agg (cv V' M')] W fun e w' => e = .returned (.bool true) ∧ Below W.heap.size W w')
    (c2 : ∀ W, Calls Try.prog 24 #[.agg (cv V M), .agg (cv V' M')] W fun e w' => e = .returned (.bool true) ∧ Below W.heap.size W w')
    (c3 : ∀ W, Calls Try.prog 23 #[.agg (cv V M), .agg (cv V M)] W fun e w' => e = .returned (.bool true) ∧ Below W.heap.size W w')
    (c4 : ∀ W, Calls Try.prog 23 #[.agg (cv V M), .agg (cv Z Z)] W fun e w' => e = .returned (.bool true) ∧ Below W.heap.size W w')
    (c5 : ∀ W, Calls Try.prog 11 #[.agg (cv V M), .agg (hv H)] W fun e w' => e = .returned (.bool false) ∧ Below W.heap.size W w')
    (w : World) : Calls Try.prog 7 #[.agg (cv V M), .agg (cv V' M'), .agg (hv H)] w fun e w' => e = .returned (.bool true) ∧ Below w.heap.size w w' := by
  have C1 : Hid (∀ W, Calls Try.prog 23 #[.agg (cv V M), .agg (cv V' M')] W fun e w' => e = .returned (.bool true) ∧ Below W.heap.size W w') := c1
  have C2 : Hid (∀ W, Calls Try.prog 24 #[.agg (cv V M), .agg (cv V' M')] W fun e w' => e = .returned (.bool true) ∧ Below W.heap.size W w') := c2
  have C3 : Hid (∀ W, Calls Try.prog 23 #[.agg (cv V M), .agg (cv V M)] W fun e w' => e = .returned (.bool true) ∧ Below W.heap.size W w') := c3
  have C4 : Hid (∀ W, Calls Try.prog 23 #[.agg (cv V M), .agg (cv Z Z)] W fun e w' => e = .returned (.bool true) ∧ Below W.heap.size W w') := c4
  have C5 : Hid (∀ W, Calls Try.prog 11 #[.agg (cv V M), .agg (hv H)] W fun e w' => e = .returned (.bool false) ∧ Below W.heap.size W w') := c5
  clear c1 c2 c3 c4 c5
  go_enter Try.func7, Try.ntmps7
  go_wp2_with fail
  refine (awake_any _).mono ?_
  rintro e w1 ⟨rfl, hb1⟩
  have g0 : w1.heap[w.heap.size]? = some (.cells (cv V M) 25 (0, 0)) := by rw [hb1.block _ (by simp; omega)]; exact heap_past _ _ _ _ (heap_past _ _ _ _ (heap_new _ _ _ rfl))
  have g1 : w1.heap[w.heap.size + 1]? = some (.cells (cv V' M') 25 (0, 0)) := by rw [hb1.block _ (by simp)]; exact heap_past _ _ _ _ (heap_new _ _ _ (by simp))
  have g2 : w1.heap[w.heap.size + 2]? = some (.cells (hv H) 23 (0, 0)) := by rw [hb1.block _ (by simp)]; exact heap_new _ _ _ (by simp)
  have B1 : Below w.heap.size w w1 := ((((Below.refl _ _).alloc (Nat.le_refl _) _).alloc (by simp) _).alloc (by simp; omega) _).trans (hb1.mono (by simp; omega))
  have z1 : w.heap.size + 3 ≤ w1.heap.size := Nat.le_trans (by simp) hb1.size
  clear hb1
  go_wp2_with (first
    | (refine wl_loadC rfl _ rfl w.heap.size rfl V M g0 hVl hMl ?_)
    | (refine wl_loadC rfl _ rfl (w.heap.size + 1) rfl V' M' g1 hVl' hMl' ?_))
  refine (C1.out _).mono ?_
  rintro e w2 ⟨rfl, hb2⟩
  have n0 : w2.heap[w.heap.size]? = some (.cells (cv V M) 25 (0, 0)) := by rw [hb2.block _ (by omega)]; exact g0
  have n1 : w2.heap[w.heap.size + 1]? = some (.cells (cv V' M') 25 (0, 0)) := by rw [hb2.block _ (by omega)]; exact g1
  have n2 : w2.heap[w.heap.size + 2]? = some (.cells (hv H) 23 (0, 0)) := by rw [hb2.block _ (by omega)]; exact g2
  have B2 := B1.trans (hb2.mono B1.size)
  clear g0 g1 g2 B1 z1 hb2 C1
  go_wp2_with fail
  have ne1 := Later.ne w2
  refine wp_region_later (by kernel_rfl) (by kernel_rfl) ?_
  go_big_quiet_step (fail)
  refine qlC rfl _ rfl w.heap.size rfl V M n0 hVl hMl ?_
  simp only [Act.put, List.setIfInBounds_toArray, List.set_cons_succ, List.set_cons_zero]
  refine qlC rfl _ rfl (w.heap.size + 1) rfl V' M' n1 hVl' hMl' ?_
  simp only [Act.put, List.setIfInBounds_toArray, List.set_cons_succ, List.set_cons_zero]
  go_big_quiet_want; go_big_quiet_op
  refine ⟨_, fun u => Calls.later_of (C2.out u.world), ?_⟩
  go_big_quiet_on
  go_big_quiet_step (fail)
  go_big_quiet_step (fail)
  refine qlC rfl _ rfl w.heap.size rfl V M n0 hVl hMl ?_
  simp only [Act.put, List.setIfInBounds_toArray, List.set_cons_succ, List.set_cons_zero]
  refine qlC rfl _ rfl w.heap.size rfl V M n0 hVl hMl ?_
  simp only [Act.put, List.setIfInBounds_toArray, List.set_cons_succ, List.set_cons_zero]
  go_big_quiet_want; go_big_quiet_op
  refine ⟨_, fun u => Calls.later_of (C3.out u.world), ?_⟩
  go_big_quiet_on
  go_big_quiet_step (fail)
  go_big_quiet_step (fail)
  go_big_quiet_step (fail)
  refine qlC rfl _ rfl w.heap.size rfl V M n0 hVl hMl ?_
  simp only [Act.put, List.setIfInBounds_toArray, List.set_cons_succ, List.set_cons_zero]
  go_big_quiet_want; go_big_quiet_op
  refine ⟨_, fun u => Calls.later_of (all_any u.world), ?_⟩
  go_big_quiet_on
  go_big_quiet_want; go_big_quiet_op
  refine ⟨_, fun u => Calls.later_of (C4.out u.world), ?_⟩
  go_big_quiet_on
  go_big_quiet_step (fail)
  go_big_quiet_step (fail)
  refine wpQuiet_nil ?_
  rintro w' ⟨u, rfl⟩
  have m0 := later_block n0 _ ⟨u, rfl⟩
  have m1 := later_block n1 _ ⟨u, rfl⟩
  have m2 := later_block n2 _ ⟨u, rfl⟩
  have B3 := B2.trans (u.below.mono B2.size)
  have z3 := (Array.getElem?_eq_some_iff.1 m2).1
  clear n0 n1 n2 B2 ne1 C2 C3 C4
  go_wp2_with (first
    | (refine wl_loadCg rfl _ rfl w.heap.size rfl V M m0 hVl hMl ?_)
    | (refine wl_loadHg rfl _ rfl (w.heap.size + 2) rfl H m2 hHl ?_))
  refine (C5.out _).mono ?_
  rintro e w4 ⟨rfl, hb4⟩
  have B4 := B3.trans (hb4.mono B3.size)
  go_wp2_with fail
  go_ret
  exact ⟨rfl, B4⟩

set_option maxHeartbeats 4000000 in
theorem within_tt (V M V' M' H : List Int) (hVl : V.length = 13) (hMl : M.length = 13) (hVl' : V'.length = 13) (hMl' : M'.length = 13) (hHl : H.length = 13)
    (c1 : ∀ W, Calls Try.prog 23 #[.agg (cv V M), .agg (cv V' M')] W fun e w' => e = .returned (.bool true) ∧ Below W.heap.size W w')
    (c2 : ∀ W, Calls Try.prog 24 #[.agg (cv V M), .agg (cv V' M')] W fun e w' => e = .returned (.bool true) ∧ Below W.heap.size W w')
    (c3 : ∀ W, Calls Try.prog 23 #[.agg (cv V M), .agg (cv V M)] W fun e w' => e = .returned (.bool true) ∧ Below W.heap.size W w')
    (c4 : ∀ W, Calls Try.prog 23 #[.agg (cv V M), .agg (cv Z Z)] W fun e w' => e = .returned (.bool true) ∧ Below W.heap.size W w')
    (c5 : ∀ W, Calls Try.prog 11 #[.agg (cv V M), .agg (hv H)] W fun e w' => e = .returned (.bool true) ∧ Below W.heap.size W w')
    (c6 : ∀ W, Calls Try.prog 11 #[.agg (cv V' M'), .agg (hv H)] W fun e w' => e = .returned (.bool true) ∧ Below W.heap.size W w')
    (w : World) : Calls Try.prog 7 #[.agg (cv V M), .agg (cv V' M'), .agg (hv H)] w fun e w' => e = .returned (.bool true) ∧ Below w.heap.size w w' := by
  have C1 : Hid (∀ W, Calls Try.prog 23 #[.agg (cv V M), .agg (cv V' M')] W fun e w' => e = .returned (.bool true) ∧ Below W.heap.size W w') := c1
  have C2 : Hid (∀ W, Calls Try.prog 24 #[.agg (cv V M), .agg (cv V' M')] W fun e w' => e = .returned (.bool true) ∧ Below W.heap.size W w') := c2
  have C3 : Hid (∀ W, Calls Try.prog 23 #[.agg (cv V M), .agg (cv V M)] W fun e w' => e = .returned (.bool true) ∧ Below W.heap.size W w') := c3
  have C4 : Hid (∀ W, Calls Try.prog 23 #[.agg (cv V M), .agg (cv Z Z)] W fun e w' => e = .returned (.bool true) ∧ Below W.heap.size W w') := c4
  have C5 : Hid (∀ W, Calls Try.prog 11 #[.agg (cv V M), .agg (hv H)] W fun e w' => e = .returned (.bool true) ∧ Below W.heap.size W w') := c5
  have C6 : Hid (∀ W, Calls Try.prog 11 #[.agg (cv V' M'), .agg (hv H)] W fun e w' => e = .returned (.bool true) ∧ Below W.heap.size W w') := c6
  clear c1 c2 c3 c4 c5 c6
  go_enter Try.func7, Try.ntmps7
  go_wp2_with fail
  refine (awake_any _).mono ?_
  rintro e w1 ⟨rfl, hb1⟩
  have g0 : w1.heap[w.heap.size]? = some (.cells (cv V M) 25 (0, 0)) := by rw [hb1.block _ (by simp; omega)]; exact heap_past _ _ _ _ (heap_past _ _ _ _ (heap_new _ _ _ rfl))
  have g1 : w1.heap[w.heap.size + 1]? = some (.cells (cv V' M') 25 (0, 0)) := by rw [hb1.block _ (by simp)]; exact heap_past _ _ _ _ (heap_new _ _ _ (by simp))
  have g2 : w1.heap[w.heap.size + 2]? = some (.cells (hv H) 23 (0, 0)) := by rw [hb1.block _ (by simp)]; exact heap_new _ _ _ (by simp)
  have B1 : Below w.heap.size w w1 := ((((Below.refl _ _).alloc (Nat.le_refl _) _).alloc (by simp) _).alloc (by simp; omega) _).trans (hb1.mono (by simp; omega))
  have z1 : w.heap.size + 3 ≤ w1.heap.size := Nat.le_trans (by simp) hb1.size
  clear hb1
  go_wp2_with (first
    | (refine wl_loadC rfl _ rfl w.heap.size rfl V M g0 hVl hMl ?_)
    | (refine wl_loadC rfl _ rfl (w.heap.size + 1) rfl V' M' g1 hVl' hMl' ?_))
  refine (C1.out _).mono ?_
  rintro e w2 ⟨rfl, hb2⟩
  have n0 : w2.heap[w.heap.size]? = some (.cells (cv V M) 25 (0, 0)) := by rw [hb2.block _ (by omega)]; exact g0
  have n1 : w2.heap[w.heap.size + 1]? = some (.cells (cv V' M') 25 (0, 0)) := by rw [hb2.block _ (by omega)]; exact g1
  have n2 : w2.heap[w.heap.size + 2]? = some (.cells (hv H) 23 (0, 0)) := by rw [hb2.block _ (by omega)]; exact g2
  have B2 := B1.trans (hb2.mono B1.size)
  clear g0 g1 g2 B1 z1 hb2 C1
  go_wp2_with fail
  have ne1 := Later.ne w2
  refine wp_region_later (by kernel_rfl) (by kernel_rfl) ?_
  go_big_quiet_step (fail)
  refine qlC rfl _ rfl w.heap.size rfl V M n0 hVl hMl ?_
  simp only [Act.put, List.setIfInBounds_toArray, List.set_cons_succ, List.set_cons_zero]
  refine qlC rfl _ rfl (w.heap.size + 1) rfl V' M' n1 hVl' hMl' ?_
  simp only [Act.put, List.setIfInBounds_toArray, List.set_cons_succ, List.set_cons_zero]
  go_big_quiet_want; go_big_quiet_op
  refine ⟨_, fun u => Calls.later_of (C2.out u.world), ?_⟩
  go_big_quiet_on
  go_big_quiet_step (fail)
  go_big_quiet_step (fail)
  refine qlC rfl _ rfl w.heap.size rfl V M n0 hVl hMl ?_
  simp only [Act.put, List.setIfInBounds_toArray, List.set_cons_succ, List.set_cons_zero]
  refine qlC rfl _ rfl w.heap.size rfl V M n0 hVl hMl ?_
  simp only [Act.put, List.setIfInBounds_toArray, List.set_cons_succ, List.set_cons_zero]
  go_big_quiet_want; go_big_quiet_op
  refine ⟨_, fun u => Calls.later_of (C3.out u.world), ?_⟩
  go_big_quiet_on
  go_big_quiet_step (fail)
  go_big_quiet_step (fail)
  go_big_quiet_step (fail)
  refine qlC rfl _ rfl w.heap.size rfl V M n0 hVl hMl ?_
  simp only [Act.put, List.setIfInBounds_toArray, List.set_cons_succ, List.set_cons_zero]
  go_big_quiet_want; go_big_quiet_op
  refine ⟨_, fun u => Calls.later_of (all_any u.world), ?_⟩
  go_big_quiet_on
  go_big_quiet_want; go_big_quiet_op
  refine ⟨_, fun u => Calls.later_of (C4.out u.world), ?_⟩
  go_big_quiet_on
  go_big_quiet_step (fail)
  go_big_quiet_step (fail)
  refine wpQuiet_nil ?_
  rintro w' ⟨u, rfl⟩
  have m0 := later_block n0 _ ⟨u, rfl⟩
  have m1 := later_block n1 _ ⟨u, rfl⟩
  have m2 := later_block n2 _ ⟨u, rfl⟩
  have B3 := B2.trans (u.below.mono B2.size)
  have z3 := (Array.getElem?_eq_some_iff.1 m2).1
  clear n0 n1 n2 B2 ne1 C2 C3 C4
  go_wp2_with (first
    | (refine wl_loadCg rfl _ rfl w.heap.size rfl V M m0 hVl hMl ?_)
    | (refine wl_loadHg rfl _ rfl (w.heap.size + 2) rfl H m2 hHl ?_))
  refine (C5.out _).mono ?_
  rintro e w4 ⟨rfl, hb4⟩
  have B4 := B3.trans (hb4.mono B3.size)
  have p1 : w4.heap[w.heap.size + 1]? = some (.cells (cv V' M') 25 (0, 0)) := by rw [hb4.block _ (by omega)]; exact m1
  have p2 : w4.heap[w.heap.size + 2]? = some (.cells (hv H) 23 (0, 0)) := by rw [hb4.block _ (by omega)]; exact m2
  clear m0 m1 m2 B3 hb4 C5
  go_wp2_with (first
    | (refine wl_loadCg rfl _ rfl (w.heap.size + 1) rfl V' M' p1 hVl' hMl' ?_)
    | (refine wl_loadHg rfl _ rfl (w.heap.size + 2) rfl H p2 hHl ?_))
  refine (C6.out _).mono ?_
  rintro e w5 ⟨rfl, hb5⟩
  go_wp2_with fail
  go_ret
  exact ⟨rfl, B4.trans (hb5.mono B4.size)⟩

theorem lawWithin_any (V M V' M' H : List Int) (hV : Byt V) (hM : Byt M) (hV' : Byt V') (hM' : Byt M') (hH : Byt H) (w : World) :
    Calls Try.prog 7 #[.agg (cv V M), .agg (cv V' M'), .agg (hv H)] w fun e w' => e = .returned (.bool true) ∧ Below w.heap.size w w' := by
  have c1 := within_any V M V' M' hV hM hV' hM'
  have c2 := rwithin_any V M V' M' hV hM hV' hM'
  have c3 := within_any V M V M hV hM hV hM
  have c4 := within_any V M Z Z hV hM Z_byt Z_byt
  have c5 := has_any V M H hV hM hH
  have c6 := has_any V' M' H hV' hM' hH
  rw [within_self] at c3
  rw [within_Z] at c4
  cases hr : within V M V' M'
  · rw [hr] at c1 c2
    exact within_f V M V' M' H hV.1 hM.1 hV'.1 hM'.1 c1 c2 c3 c4 w
  · rw [hr] at c1 c2
    cases hx : has V M H
    · rw [hx] at c5
      exact within_tf V M V' M' H hV.1 hM.1 hV'.1 hM'.1 hH.1 c1 c2 c3 c4 c5 w
    · rw [hx] at c5
      rw [has_within V M V' M' H hr hx] at c6
      exact within_tt V M V' M' H hV.1 hM.1 hV'.1 hM'.1 hH.1 c1 c2 c3 c4 c5 c6 w
end Go.Proofs.Ythekoeinnillpaa
