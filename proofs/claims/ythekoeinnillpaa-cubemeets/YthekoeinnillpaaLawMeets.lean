import Derived.Test.YthekoeinnillpaaRefMeet
namespace Go.Proofs.Ythekoeinnillpaa
open Go Go.RowKit

theorem has_meet (V M V' M' H : List Int) (h : meets V M V' M' = true) : has (meetV V M V' M') (meetM M M') H = (has V M H && has V' M' H) := by
  rw [Bool.eq_iff_iff, Bool.and_eq_true, has_iff, has_iff, has_iff]
  have hm := (meets_iff V M V' M').1 h
  have e1 : ∀ i, i < 104 → bt (meetV V M V' M') i = ((bt V i && bt M i) || (bt V' i && bt M' i)) := fun i hi => mk_bt _ i hi
  have e2 : ∀ i, i < 104 → bt (meetM M M') i = (bt M i || bt M' i) := fun i hi => mk_bt _ i hi
  constructor
  · intro g
    constructor
    · intro i hi h1
      have h3 := g i hi (by rw [e2 i hi, h1]; rfl)
      rw [e1 i hi, h1] at h3
      have h4 := hm i hi h1
      revert h3 h4
      cases bt V i <;> cases bt V' i <;> cases bt M' i <;> cases bt H i <;> simp
    · intro i hi h1
      have h3 := g i hi (by rw [e2 i hi, h1]; simp)
      rw [e1 i hi, h1] at h3
      have h4 := fun h => hm i hi h h1
      revert h3 h4
      cases bt V i <;> cases bt V' i <;> cases bt M i <;> cases bt H i <;> simp
  · rintro ⟨g1, g2⟩ i hi h1
    have h3 := g1 i hi
    have h4 := g2 i hi
    rw [e2 i hi] at h1
    rw [e1 i hi]
    revert h1 h3 h4
    cases bt V i <;> cases bt V' i <;> cases bt M i <;> cases bt M' i <;> cases bt H i <;> simp
theorem has_apart (V M V' M' H : List Int) (h : meets V M V' M' = false) : (has V M H && has V' M' H) = false := by
  cases e : (has V M H && has V' M' H)
  · rfl
  · rw [Bool.and_eq_true, has_iff, has_iff] at e
    have : meets V M V' M' = true := (meets_iff _ _ _ _).2 fun i hi h1 h2 => by rw [e.1 i hi h1, e.2 i hi h2]
    rw [h] at this; cases this

set_option maxHeartbeats 4000000 in
theorem meets_tt (V M V' M' H CV CM : List Int) (y : Bool) (hVl : V.length = 13) (hMl : M.length = 13) (hVl' : V'.length = 13) (hMl' : M'.length = 13) (hHl : H.length = 13) (hAl : CV.length = 13) (hBl : CM.length = 13)
    (c1 : ∀ W, Calls Try.prog 21 #[.agg (cv V M), .agg (cv V' M')] W fun e w' => e = .returned (.tuple #[.agg (cv CV CM), .bool true]) ∧ Below W.heap.size W w')
    (c2 : ∀ W, Calls Try.prog 22 #[.agg (cv V M), .agg (cv V' M')] W fun e w' => e = .returned (.tuple #[.agg (cv CV CM), .bool true]) ∧ Below W.heap.size W w')
    (c3 : ∀ W, Calls Try.prog 11 #[.agg (cv CV CM), .agg (hv H)] W fun e w' => e = .returned (.bool y) ∧ Below W.heap.size W w')
    (c4 : ∀ W, Calls Try.prog 11 #[.agg (cv V M), .agg (hv H)] W fun e w' => e = .returned (.bool true) ∧ Below W.heap.size W w')
    (c5 : ∀ W, Calls Try.prog 11 #[.agg (cv V' M'), .agg (hv H)] W fun e w' => e = .returned (.bool y) ∧ Below W.heap.size W w') (w : World) :
    Calls Try.prog 6 #[.agg (cv V M), .agg (cv V' M'), .agg (hv H)] w fun e w' => e = .returned (.bool true) ∧ Below w.heap.size w w' := by
  have C1 : Hid (∀ W, Calls Try.prog 21 #[.agg (cv V M), .agg (cv V' M')] W fun e w' => e = .returned (.tuple #[.agg (cv CV CM), .bool true]) ∧ Below W.heap.size W w') := c1
  have C2 : Hid (∀ W, Calls Try.prog 22 #[.agg (cv V M), .agg (cv V' M')] W fun e w' => e = .returned (.tuple #[.agg (cv CV CM), .bool true]) ∧ Below W.heap.size W w') := c2
  have C3 : Hid (∀ W, Calls Try.prog 11 #[.agg (cv CV CM), .agg (hv H)] W fun e w' => e = .returned (.bool y) ∧ Below W.heap.size W w') := c3
  have C4 : Hid (∀ W, Calls Try.prog 11 #[.agg (cv V M), .agg (hv H)] W fun e w' => e = .returned (.bool true) ∧ Below W.heap.size W w') := c4
  have C5 : Hid (∀ W, Calls Try.prog 11 #[.agg (cv V' M'), .agg (hv H)] W fun e w' => e = .returned (.bool y) ∧ Below W.heap.size W w') := c5
  have hyy : (y == y) = true := by simp
  have e1 : ∀ w, (Op.equalIn 10000 25 (.agg (cv CV CM)) (.agg (cv CV CM))).run Try.prog w = .ok true w := fun w => by rw [eqC _ _ _ _ hAl hBl hAl hBl]; simp
  have eg : ∀ op x y (xs ys : Array Value) w, (eqGuard op 25 x y (.agg xs) (.agg ys)).run Try.prog w = .ok () w := egC
  clear c1 c2 c3 c4 c5
  go_enter Try.func6, Try.ntmps6
  go_wp2_with fail
  refine (awake_any _).mono ?_
  rintro e w1 ⟨rfl, hb1⟩
  have g0 : w1.heap[w.heap.size]? = some (.cells (cv V M) 25 (0, 0)) := by rw [hb1.block _ (by simp; omega)]; exact heap_past _ _ _ _ (heap_past _ _ _ _ (heap_new _ _ _ rfl))
  have g1 : w1.heap[w.heap.size + 1]? = some (.cells (cv V' M') 25 (0, 0)) := by rw [hb1.block _ (by simp)]; exact heap_past _ _ _ _ (heap_new _ _ _ (by simp))
  have g2 : w1.heap[w.heap.size + 2]? = some (.cells (hv H) 23 (0, 0)) := by rw [hb1.block _ (by simp)]; exact heap_new _ _ _ (by simp)
  have B1 : Below w.heap.size w w1 := ((((Below.refl _ _).alloc (Nat.le_refl _) _).alloc (by simp) _).alloc (by simp; omega) _).trans (hb1.mono (by simp; omega))
  have z1 : w.heap.size + 3 ≤ w1.heap.size := Nat.le_trans (by simp) hb1.size
  clear hb1
  go_wp2_with (first
    | (refine wl_loadC rfl _ rfl w.heap.size rfl V M g0 hVl hMl ?_)
    | (refine wl_loadC rfl _ rfl (w.heap.size + 1) rfl V' M' g1 hVl' hMl' ?_))
  refine (C1.out _).mono ?_
  rintro e w2 ⟨rfl, hb2⟩
  have k0 : w2.heap[w.heap.size]? = some (.cells (cv V M) 25 (0, 0)) := by rw [hb2.block _ (by omega)]; exact g0
  have k1 : w2.heap[w.heap.size + 1]? = some (.cells (cv V' M') 25 (0, 0)) := by rw [hb2.block _ (by omega)]; exact g1
  have k2 : w2.heap[w.heap.size + 2]? = some (.cells (hv H) 23 (0, 0)) := by rw [hb2.block _ (by omega)]; exact g2
  have B2 := B1.trans (hb2.mono B1.size)
  have z2 : w.heap.size + 3 ≤ w2.heap.size := Nat.le_trans z1 hb2.size
  clear g0 g1 g2 B1 z1 hb2 C1
  have l0 := heap_past w2 (.cells (cv CV CM) 25) _ _ k0
  have l1 := heap_past w2 (.cells (cv CV CM) 25) _ _ k1
  have l2 := heap_past w2 (.cells (cv CV CM) 25) _ _ k2
  have l3 := heap_new w2 (.cells (cv CV CM) 25) _ rfl
  have B3 := B2.alloc B2.size (.cells (cv CV CM) 25)
  go_wp2_with (first
    | (refine wl_storeC rfl _ _ rfl w2.heap.size CV CM rfl rfl _ (heap_new _ _ _ rfl) rfl hAl hBl _ (setRow_new _ _ _ _ _ rfl) ?_)
    | (refine wl_loadC rfl _ rfl w.heap.size rfl V M l0 hVl hMl ?_)
    | (refine wl_loadC rfl _ rfl (w.heap.size + 1) rfl V' M' l1 hVl' hMl' ?_))
  refine (C2.out _).mono ?_
  rintro e w3 ⟨rfl, hb3⟩
  have m0 : w3.heap[w.heap.size]? = some (.cells (cv V M) 25 (0, 0)) := by rw [hb3.block _ (by simp; omega)]; exact l0
  have m1 : w3.heap[w.heap.size + 1]? = some (.cells (cv V' M') 25 (0, 0)) := by rw [hb3.block _ (by simp; omega)]; exact l1
  have m2 : w3.heap[w.heap.size + 2]? = some (.cells (hv H) 23 (0, 0)) := by rw [hb3.block _ (by simp; omega)]; exact l2
  have m3 : w3.heap[w2.heap.size]? = some (.cells (cv CV CM) 25 (0, 0)) := by rw [hb3.block _ (by simp)]; exact l3
  have B4 := B3.trans (hb3.mono B3.size)
  clear k0 k1 k2 B2 l0 l1 l2 l3 B3 hb3 C2
  have n0 := heap_past w3 (.cells (cv CV CM) 25) _ _ m0
  have n1 := heap_past w3 (.cells (cv CV CM) 25) _ _ m1
  have n2 := heap_past w3 (.cells (cv CV CM) 25) _ _ m2
  have n3 := heap_past w3 (.cells (cv CV CM) 25) _ _ m3
  have n4 := heap_new w3 (.cells (cv CV CM) 25) _ rfl
  have B5 := B4.alloc B4.size (.cells (cv CV CM) 25)
  obtain ⟨W, hW⟩ : ∃ W, W = w3.alloc (.cells (cv CV CM) 25) := ⟨_, rfl⟩
  go_wp2_with (first
    | (refine wl_storeC rfl _ _ rfl w3.heap.size CV CM rfl rfl _ (heap_new _ _ _ rfl) rfl hAl hBl _ (setRow_new _ _ _ _ _ rfl) ?_)
    | (refine wl_loadC rfl _ rfl w2.heap.size rfl CV CM n3 hAl hBl ?_)
    | (refine wl_loadC rfl _ rfl w3.heap.size rfl CV CM n4 hAl hBl ?_))
  rw [← hW] at n0 n1 n2 n3 n4 B5 ⊢
  clear hW m0 m1 m2 m3 B4
  have ne1 := Later.ne W
  refine wp_region_later (by kernel_rfl) (by kernel_rfl) ?_
  go_big_quiet_step (fail)
  go_big_quiet_step (fail)
  refine qlC rfl _ rfl w2.heap.size rfl CV CM n3 hAl hBl ?_
  simp only [Act.put, List.setIfInBounds_toArray, List.set_cons_succ, List.set_cons_zero]
  refine qlH rfl _ rfl (w.heap.size + 2) rfl H n2 hHl ?_
  simp only [Act.put, List.setIfInBounds_toArray, List.set_cons_succ, List.set_cons_zero]
  go_big_quiet_want; go_big_quiet_op
  refine ⟨_, fun u => Calls.later_of (C3.out u.world), ?_⟩
  go_big_quiet_on
  go_big_quiet_step (fail)
  refine qlC rfl _ rfl w.heap.size rfl V M n0 hVl hMl ?_
  simp only [Act.put, List.setIfInBounds_toArray, List.set_cons_succ, List.set_cons_zero]
  refine qlH rfl _ rfl (w.heap.size + 2) rfl H n2 hHl ?_
  simp only [Act.put, List.setIfInBounds_toArray, List.set_cons_succ, List.set_cons_zero]
  go_big_quiet_want; go_big_quiet_op
  refine ⟨_, fun u => Calls.later_of (C4.out u.world), ?_⟩
  go_big_quiet_on
  go_big_quiet_step (fail)
  refine qlC rfl _ rfl (w.heap.size + 1) rfl V' M' n1 hVl' hMl' ?_
  simp only [Act.put, List.setIfInBounds_toArray, List.set_cons_succ, List.set_cons_zero]
  refine qlH rfl _ rfl (w.heap.size + 2) rfl H n2 hHl ?_
  simp only [Act.put, List.setIfInBounds_toArray, List.set_cons_succ, List.set_cons_zero]
  go_big_quiet_want; go_big_quiet_op
  refine ⟨_, fun u => Calls.later_of (C5.out u.world), ?_⟩
  go_big_quiet_on
  go_big_quiet_step (fail)
  go_big_quiet_step (fail)
  go_big_quiet_step (fail)
  refine wpQuiet_nil ?_
  rintro w' ⟨u, rfl⟩
  go_wp2
  go_ret
  exact ⟨rfl, B5.trans (u.below.mono B5.size)⟩

set_option maxHeartbeats 4000000 in
theorem meets_tf (V M V' M' H CV CM : List Int) (y : Bool) (hVl : V.length = 13) (hMl : M.length = 13) (hVl' : V'.length = 13) (hMl' : M'.length = 13) (hHl : H.length = 13) (hAl : CV.length = 13) (hBl : CM.length = 13)
    (c1 : ∀ W, Calls Try.prog 21 #[.agg (cv V M), .agg (cv V' M')] W fun e w' => e = .returned (.tuple #[.agg (cv CV CM), .bool true]) ∧ Below W.heap.size W w')
    (c2 : ∀ W, Calls Try.prog 22 #[.agg (cv V M), .agg (cv V' M')] W fun e w' => e = .returned (.tuple #[.agg (cv CV CM), .bool true]) ∧ Below W.heap.size W w')
    (c3 : ∀ W, Calls Try.prog 11 #[.agg (cv CV CM), .agg (hv H)] W fun e w' => e = .returned (.bool y) ∧ Below W.heap.size W w')
    (c4 : ∀ W, Calls Try.prog 11 #[.agg (cv V M), .agg (hv H)] W fun e w' => e = .returned (.bool false) ∧ Below W.heap.size W w') (hy : y = false) (w : World) :
    Calls Try.prog 6 #[.agg (cv V M), .agg (cv V' M'), .agg (hv H)] w fun e w' => e = .returned (.bool true) ∧ Below w.heap.size w w' := by
  have C1 : Hid (∀ W, Calls Try.prog 21 #[.agg (cv V M), .agg (cv V' M')] W fun e w' => e = .returned (.tuple #[.agg (cv CV CM), .bool true]) ∧ Below W.heap.size W w') := c1
  have C2 : Hid (∀ W, Calls Try.prog 22 #[.agg (cv V M), .agg (cv V' M')] W fun e w' => e = .returned (.tuple #[.agg (cv CV CM), .bool true]) ∧ Below W.heap.size W w') := c2
  have C3 : Hid (∀ W, Calls Try.prog 11 #[.agg (cv CV CM), .agg (hv H)] W fun e w' => e = .returned (.bool y) ∧ Below W.heap.size W w') := c3
  have C4 : Hid (∀ W, Calls Try.prog 11 #[.agg (cv V M), .agg (hv H)] W fun e w' => e = .returned (.bool false) ∧ Below W.heap.size W w') := c4
  subst hy
  have e1 : ∀ w, (Op.equalIn 10000 25 (.agg (cv CV CM)) (.agg (cv CV CM))).run Try.prog w = .ok true w := fun w => by rw [eqC _ _ _ _ hAl hBl hAl hBl]; simp
  have eg : ∀ op x y (xs ys : Array Value) w, (eqGuard op 25 x y (.agg xs) (.agg ys)).run Try.prog w = .ok () w := egC
  clear c1 c2 c3 c4
  go_enter Try.func6, Try.ntmps6
  go_wp2_with fail
  refine (awake_any _).mono ?_
  rintro e w1 ⟨rfl, hb1⟩
  have g0 : w1.heap[w.heap.size]? = some (.cells (cv V M) 25 (0, 0)) := by rw [hb1.block _ (by simp; omega)]; exact heap_past _ _ _ _ (heap_past _ _ _ _ (heap_new _ _ _ rfl))
  have g1 : w1.heap[w.heap.size + 1]? = some (.cells (cv V' M') 25 (0, 0)) := by rw [hb1.block _ (by simp)]; exact heap_past _ _ _ _ (heap_new _ _ _ (by simp))
  have g2 : w1.heap[w.heap.size + 2]? = some (.cells (hv H) 23 (0, 0)) := by rw [hb1.block _ (by simp)]; exact heap_new _ _ _ (by simp)
  have B1 : Below w.heap.size w w1 := ((((Below.refl _ _).alloc (Nat.le_refl _) _).alloc (by simp) _).alloc (by simp; omega) _).trans (hb1.mono (by simp; omega))
  have z1 : w.heap.size + 3 ≤ w1.heap.size := Nat.le_trans (by simp) hb1.size
  clear hb1
  go_wp2_with (first
    | (refine wl_loadC rfl _ rfl w.heap.size rfl V M g0 hVl hMl ?_)
    | (refine wl_loadC rfl _ rfl (w.heap.size + 1) rfl V' M' g1 hVl' hMl' ?_))
  refine (C1.out _).mono ?_
  rintro e w2 ⟨rfl, hb2⟩
  have k0 : w2.heap[w.heap.size]? = some (.cells (cv V M) 25 (0, 0)) := by rw [hb2.block _ (by omega)]; exact g0
  have k1 : w2.heap[w.heap.size + 1]? = some (.cells (cv V' M') 25 (0, 0)) := by rw [hb2.block _ (by omega)]; exact g1
  have k2 : w2.heap[w.heap.size + 2]? = some (.cells (hv H) 23 (0, 0)) := by rw [hb2.block _ (by omega)]; exact g2
  have B2 := B1.trans (hb2.mono B1.size)
  have z2 : w.heap.size + 3 ≤ w2.heap.size := Nat.le_trans z1 hb2.size
  clear g0 g1 g2 B1 z1 hb2 C1
  have l0 := heap_past w2 (.cells (cv CV CM) 25) _ _ k0
  have l1 := heap_past w2 (.cells (cv CV CM) 25) _ _ k1
  have l2 := heap_past w2 (.cells (cv CV CM) 25) _ _ k2
  have l3 := heap_new w2 (.cells (cv CV CM) 25) _ rfl
  have B3 := B2.alloc B2.size (.cells (cv CV CM) 25)
  go_wp2_with (first
    | (refine wl_storeC rfl _ _ rfl w2.heap.size CV CM rfl rfl _ (heap_new _ _ _ rfl) rfl hAl hBl _ (setRow_new _ _ _ _ _ rfl) ?_)
    | (refine wl_loadC rfl _ rfl w.heap.size rfl V M l0 hVl hMl ?_)
    | (refine wl_loadC rfl _ rfl (w.heap.size + 1) rfl V' M' l1 hVl' hMl' ?_))
  refine (C2.out _).mono ?_
  rintro e w3 ⟨rfl, hb3⟩
  have m0 : w3.heap[w.heap.size]? = some (.cells (cv V M) 25 (0, 0)) := by rw [hb3.block _ (by simp; omega)]; exact l0
  have m1 : w3.heap[w.heap.size + 1]? = some (.cells (cv V' M') 25 (0, 0)) := by rw [hb3.block _ (by simp; omega)]; exact l1
  have m2 : w3.heap[w.heap.size + 2]? = some (.cells (hv H) 23 (0, 0)) := by rw [hb3.block _ (by simp; omega)]; exact l2
  have m3 : w3.heap[w2.heap.size]? = some (.cells (cv CV CM) 25 (0, 0)) := by rw [hb3.block _ (by simp)]; exact l3
  have B4 := B3.trans (hb3.mono B3.size)
  clear k0 k1 k2 B2 l0 l1 l2 l3 B3 hb3 C2
  have n0 := heap_past w3 (.cells (cv CV CM) 25) _ _ m0
  have n1 := heap_past w3 (.cells (cv CV CM) 25) _ _ m1
  have n2 := heap_past w3 (.cells (cv CV CM) 25) _ _ m2
  have n3 := heap_past w3 (.cells (cv CV CM) 25) _ _ m3
  have n4 := heap_new w3 (.cells (cv CV CM) 25) _ rfl
  have B5 := B4.alloc B4.size (.cells (cv CV CM) 25)
  obtain ⟨W, hW⟩ : ∃ W, W = w3.alloc (.cells (cv CV CM) 25) := ⟨_, rfl⟩
  go_wp2_with (first
    | (refine wl_storeC rfl _ _ rfl w3.heap.size CV CM rfl rfl _ (heap_new _ _ _ rfl) rfl hAl hBl _ (setRow_new _ _ _ _ _ rfl) ?_)
    | (refine wl_loadC rfl _ rfl w2.heap.size rfl CV CM n3 hAl hBl ?_)
    | (refine wl_loadC rfl _ rfl w3.heap.size rfl CV CM n4 hAl hBl ?_))
  rw [← hW] at n0 n1 n2 n3 n4 B5 ⊢
  clear hW m0 m1 m2 m3 B4
  have ne1 := Later.ne W
  refine wp_region_later (by kernel_rfl) (by kernel_rfl) ?_
  go_big_quiet_step (fail)
  go_big_quiet_step (fail)
  refine qlC rfl _ rfl w2.heap.size rfl CV CM n3 hAl hBl ?_
  simp only [Act.put, List.setIfInBounds_toArray, List.set_cons_succ, List.set_cons_zero]
  refine qlH rfl _ rfl (w.heap.size + 2) rfl H n2 hHl ?_
  simp only [Act.put, List.setIfInBounds_toArray, List.set_cons_succ, List.set_cons_zero]
  go_big_quiet_want; go_big_quiet_op
  refine ⟨_, fun u => Calls.later_of (C3.out u.world), ?_⟩
  go_big_quiet_on
  go_big_quiet_step (fail)
  refine qlC rfl _ rfl w.heap.size rfl V M n0 hVl hMl ?_
  simp only [Act.put, List.setIfInBounds_toArray, List.set_cons_succ, List.set_cons_zero]
  refine qlH rfl _ rfl (w.heap.size + 2) rfl H n2 hHl ?_
  simp only [Act.put, List.setIfInBounds_toArray, List.set_cons_succ, List.set_cons_zero]
  go_big_quiet_want; go_big_quiet_op
  refine ⟨_, fun u => Calls.later_of (C4.out u.world), ?_⟩
  go_big_quiet_on
  go_big_quiet_step (fail)
  go_big_quiet_step (fail)
  go_big_quiet_step (fail)
  go_big_quiet_step (fail)
  go_big_quiet_step (fail)
  go_big_quiet_step (fail)
  go_big_quiet_step (fail)
  refine wpQuiet_nil ?_
  rintro w' ⟨u, rfl⟩
  go_wp2
  go_ret
  exact ⟨rfl, B5.trans (u.below.mono B5.size)⟩

set_option maxHeartbeats 4000000 in
theorem meets_ft (V M V' M' H CV CM : List Int) (hVl : V.length = 13) (hMl : M.length = 13) (hVl' : V'.length = 13) (hMl' : M'.length = 13) (hHl : H.length = 13) (hAl : CV.length = 13) (hBl : CM.length = 13)
    (c1 : ∀ W, Calls Try.prog 21 #[.agg (cv V M), .agg (cv V' M')] W fun e w' => e = .returned (.tuple #[.agg (cv CV CM), .bool false]) ∧ Below W.heap.size W w')
    (c2 : ∀ W, Calls Try.prog 22 #[.agg (cv V M), .agg (cv V' M')] W fun e w' => e = .returned (.tuple #[.agg (cv CV CM), .bool false]) ∧ Below W.heap.size W w')
    (c4 : ∀ W, Calls Try.prog 11 #[.agg (cv V M), .agg (hv H)] W fun e w' => e = .returned (.bool true) ∧ Below W.heap.size W w')
    (c5 : ∀ W, Calls Try.prog 11 #[.agg (cv V' M'), .agg (hv H)] W fun e w' => e = .returned (.bool false) ∧ Below W.heap.size W w') (w : World) :
    Calls Try.prog 6 #[.agg (cv V M), .agg (cv V' M'), .agg (hv H)] w fun e w' => e = .returned (.bool true) ∧ Below w.heap.size w w' := by
  have C1 : Hid (∀ W, Calls Try.prog 21 #[.agg (cv V M), .agg (cv V' M')] W fun e w' => e = .returned (.tuple #[.agg (cv CV CM), .bool false]) ∧ Below W.heap.size W w') := c1
  have C2 : Hid (∀ W, Calls Try.prog 22 #[.agg (cv V M), .agg (cv V' M')] W fun e w' => e = .returned (.tuple #[.agg (cv CV CM), .bool false]) ∧ Below W.heap.size W w') := c2
  have C4 : Hid (∀ W, Calls Try.prog 11 #[.agg (cv V M), .agg (hv H)] W fun e w' => e = .returned (.bool true) ∧ Below W.heap.size W w') := c4
  have C5 : Hid (∀ W, Calls Try.prog 11 #[.agg (cv V' M'), .agg (hv H)] W fun e w' => e = .returned (.bool false) ∧ Below W.heap.size W w') := c5
  have e1 : ∀ w, (Op.equalIn 10000 25 (.agg (cv CV CM)) (.agg (cv CV CM))).run Try.prog w = .ok true w := fun w => by rw [eqC _ _ _ _ hAl hBl hAl hBl]; simp
  have eg : ∀ op x y (xs ys : Array Value) w, (eqGuard op 25 x y (.agg xs) (.agg ys)).run Try.prog w = .ok () w := egC
  clear c1 c2 c4 c5
  go_enter Try.func6, Try.ntmps6
  go_wp2_with fail
  refine (awake_any _).mono ?_
  rintro e w1 ⟨rfl, hb1⟩
  have g0 : w1.heap[w.heap.size]? = some (.cells (cv V M) 25 (0, 0)) := by rw [hb1.block _ (by simp; omega)]; exact heap_past _ _ _ _ (heap_past _ _ _ _ (heap_new _ _ _ rfl))
  have g1 : w1.heap[w.heap.size + 1]? = some (.cells (cv V' M') 25 (0, 0)) := by rw [hb1.block _ (by simp)]; exact heap_past _ _ _ _ (heap_new _ _ _ (by simp))
  have g2 : w1.heap[w.heap.size + 2]? = some (.cells (hv H) 23 (0, 0)) := by rw [hb1.block _ (by simp)]; exact heap_new _ _ _ (by simp)
  have B1 : Below w.heap.size w w1 := ((((Below.refl _ _).alloc (Nat.le_refl _) _).alloc (by simp) _).alloc (by simp; omega) _).trans (hb1.mono (by simp; omega))
  have z1 : w.heap.size + 3 ≤ w1.heap.size := Nat.le_trans (by simp) hb1.size
  clear hb1
  go_wp2_with (first
    | (refine wl_loadC rfl _ rfl w.heap.size rfl V M g0 hVl hMl ?_)
    | (refine wl_loadC rfl _ rfl (w.heap.size + 1) rfl V' M' g1 hVl' hMl' ?_))
  refine (C1.out _).mono ?_
  rintro e w2 ⟨rfl, hb2⟩
  have k0 : w2.heap[w.heap.size]? = some (.cells (cv V M) 25 (0, 0)) := by rw [hb2.block _ (by omega)]; exact g0
  have k1 : w2.heap[w.heap.size + 1]? = some (.cells (cv V' M') 25 (0, 0)) := by rw [hb2.block _ (by omega)]; exact g1
  have k2 : w2.heap[w.heap.size + 2]? = some (.cells (hv H) 23 (0, 0)) := by rw [hb2.block _ (by omega)]; exact g2
  have B2 := B1.trans (hb2.mono B1.size)
  have z2 : w.heap.size + 3 ≤ w2.heap.size := Nat.le_trans z1 hb2.size
  clear g0 g1 g2 B1 z1 hb2 C1
  have l0 := heap_past w2 (.cells (cv CV CM) 25) _ _ k0
  have l1 := heap_past w2 (.cells (cv CV CM) 25) _ _ k1
  have l2 := heap_past w2 (.cells (cv CV CM) 25) _ _ k2
  have l3 := heap_new w2 (.cells (cv CV CM) 25) _ rfl
  have B3 := B2.alloc B2.size (.cells (cv CV CM) 25)
  go_wp2_with (first
    | (refine wl_storeC rfl _ _ rfl w2.heap.size CV CM rfl rfl _ (heap_new _ _ _ rfl) rfl hAl hBl _ (setRow_new _ _ _ _ _ rfl) ?_)
    | (refine wl_loadC rfl _ rfl w.heap.size rfl V M l0 hVl hMl ?_)
    | (refine wl_loadC rfl _ rfl (w.heap.size + 1) rfl V' M' l1 hVl' hMl' ?_))
  refine (C2.out _).mono ?_
  rintro e w3 ⟨rfl, hb3⟩
  have m0 : w3.heap[w.heap.size]? = some (.cells (cv V M) 25 (0, 0)) := by rw [hb3.block _ (by simp; omega)]; exact l0
  have m1 : w3.heap[w.heap.size + 1]? = some (.cells (cv V' M') 25 (0, 0)) := by rw [hb3.block _ (by simp; omega)]; exact l1
  have m2 : w3.heap[w.heap.size + 2]? = some (.cells (hv H) 23 (0, 0)) := by rw [hb3.block _ (by simp; omega)]; exact l2
  have m3 : w3.heap[w2.heap.size]? = some (.cells (cv CV CM) 25 (0, 0)) := by rw [hb3.block _ (by simp)]; exact l3
  have B4 := B3.trans (hb3.mono B3.size)
  clear k0 k1 k2 B2 l0 l1 l2 l3 B3 hb3 C2
  have n0 := heap_past w3 (.cells (cv CV CM) 25) _ _ m0
  have n1 := heap_past w3 (.cells (cv CV CM) 25) _ _ m1
  have n2 := heap_past w3 (.cells (cv CV CM) 25) _ _ m2
  have n3 := heap_past w3 (.cells (cv CV CM) 25) _ _ m3
  have n4 := heap_new w3 (.cells (cv CV CM) 25) _ rfl
  have B5 := B4.alloc B4.size (.cells (cv CV CM) 25)
  obtain ⟨W, hW⟩ : ∃ W, W = w3.alloc (.cells (cv CV CM) 25) := ⟨_, rfl⟩
  go_wp2_with (first
    | (refine wl_storeC rfl _ _ rfl w3.heap.size CV CM rfl rfl _ (heap_new _ _ _ rfl) rfl hAl hBl _ (setRow_new _ _ _ _ _ rfl) ?_)
    | (refine wl_loadC rfl _ rfl w2.heap.size rfl CV CM n3 hAl hBl ?_)
    | (refine wl_loadC rfl _ rfl w3.heap.size rfl CV CM n4 hAl hBl ?_))
  rw [← hW] at n0 n1 n2 n3 n4 B5 ⊢
  clear hW m0 m1 m2 m3 B4
  have ne1 := Later.ne W
  refine wp_region_later (by kernel_rfl) (by kernel_rfl) ?_
  go_big_quiet_step (fail)
  go_big_quiet_step (fail)
  go_big_quiet_step (fail)
  go_big_quiet_step (fail)
  go_big_quiet_step (fail)
  go_big_quiet_step (fail)
  refine qlC rfl _ rfl w.heap.size rfl V M n0 hVl hMl ?_
  simp only [Act.put, List.setIfInBounds_toArray, List.set_cons_succ, List.set_cons_zero]
  refine qlH rfl _ rfl (w.heap.size + 2) rfl H n2 hHl ?_
  simp only [Act.put, List.setIfInBounds_toArray, List.set_cons_succ, List.set_cons_zero]
  go_big_quiet_want; go_big_quiet_op
  refine ⟨_, fun u => Calls.later_of (C4.out u.world), ?_⟩
  go_big_quiet_on
  go_big_quiet_step (fail)
  refine qlC rfl _ rfl (w.heap.size + 1) rfl V' M' n1 hVl' hMl' ?_
  simp only [Act.put, List.setIfInBounds_toArray, List.set_cons_succ, List.set_cons_zero]
  refine qlH rfl _ rfl (w.heap.size + 2) rfl H n2 hHl ?_
  simp only [Act.put, List.setIfInBounds_toArray, List.set_cons_succ, List.set_cons_zero]
  go_big_quiet_want; go_big_quiet_op
  refine ⟨_, fun u => Calls.later_of (C5.out u.world), ?_⟩
  go_big_quiet_on
  go_big_quiet_step (fail)
  go_big_quiet_step (fail)
  go_big_quiet_step (fail)
  refine wpQuiet_nil ?_
  rintro w' ⟨u, rfl⟩
  go_wp2
  go_ret
  exact ⟨rfl, B5.trans (u.below.mono B5.size)⟩

set_option maxHeartbeats 4000000 in
theorem meets_ff (V M V' M' H CV CM : List Int) (hVl : V.length = 13) (hMl : M.length = 13) (hVl' : V'.length = 13) (hMl' : M'.length = 13) (hHl : H.length = 13) (hAl : CV.length = 13) (hBl : CM.length = 13)
    (c1 : ∀ W, Calls Try.prog 21 #[.agg (cv V M), .agg (cv V' M')] W fun e w' => e = .returned (.tuple #[.agg (cv CV CM), .bool false]) ∧ Below W.heap.size W w')
    (c2 : ∀ W, Calls Try.prog 22 #[.agg (cv V M), .agg (cv V' M')] W fun e w' => e = .returned (.tuple #[.agg (cv CV CM), .bool false]) ∧ Below W.heap.size W w')
    (c4 : ∀ W, Calls Try.prog 11 #[.agg (cv V M), .agg (hv H)] W fun e w' => e = .returned (.bool false) ∧ Below W.heap.size W w') (w : World) :
    Calls Try.prog 6 #[.agg (cv V M), .agg (cv V' M'), .agg (hv H)] w fun e w' => e = .returned (.bool true) ∧ Below w.heap.size w w' := by
  have C1 : Hid (∀ W, Calls Try.prog 21 #[.agg (cv V M), .agg (cv V' M')] W fun e w' => e = .returned (.tuple #[.agg (cv CV CM), .bool false]) ∧ Below W.heap.size W w') := c1
  have C2 : Hid (∀ W, Calls Try.prog 22 #[.agg (cv V M), .agg (cv V' M')] W fun e w' => e = .returned (.tuple #[.agg (cv CV CM), .bool false]) ∧ Below W.heap.size W w') := c2
  have C4 : Hid (∀ W, Calls Try.prog 11 #[.agg (cv V M), .agg (hv H)] W fun e w' => e = .returned (.bool false) ∧ Below W.heap.size W w') := c4
  have e1 : ∀ w, (Op.equalIn 10000 25 (.agg (cv CV CM)) (.agg (cv CV CM))).run Try.prog w = .ok true w := fun w => by rw [eqC _ _ _ _ hAl hBl hAl hBl]; simp
  have eg : ∀ op x y (xs ys : Array Value) w, (eqGuard op 25 x y (.agg xs) (.agg ys)).run Try.prog w = .ok () w := egC
  clear c1 c2 c4
  go_enter Try.func6, Try.ntmps6
  go_wp2_with fail
  refine (awake_any _).mono ?_
  rintro e w1 ⟨rfl, hb1⟩
  have g0 : w1.heap[w.heap.size]? = some (.cells (cv V M) 25 (0, 0)) := by rw [hb1.block _ (by simp; omega)]; exact heap_past _ _ _ _ (heap_past _ _ _ _ (heap_new _ _ _ rfl))
  have g1 : w1.heap[w.heap.size + 1]? = some (.cells (cv V' M') 25 (0, 0)) := by rw [hb1.block _ (by simp)]; exact heap_past _ _ _ _ (heap_new _ _ _ (by simp))
  have g2 : w1.heap[w.heap.size + 2]? = some (.cells (hv H) 23 (0, 0)) := by rw [hb1.block _ (by simp)]; exact heap_new _ _ _ (by simp)
  have B1 : Below w.heap.size w w1 := ((((Below.refl _ _).alloc (Nat.le_refl _) _).alloc (by simp) _).alloc (by simp; omega) _).trans (hb1.mono (by simp; omega))
  have z1 : w.heap.size + 3 ≤ w1.heap.size := Nat.le_trans (by simp) hb1.size
  clear hb1
  go_wp2_with (first
    | (refine wl_loadC rfl _ rfl w.heap.size rfl V M g0 hVl hMl ?_)
    | (refine wl_loadC rfl _ rfl (w.heap.size + 1) rfl V' M' g1 hVl' hMl' ?_))
  refine (C1.out _).mono ?_
  rintro e w2 ⟨rfl, hb2⟩
  have k0 : w2.heap[w.heap.size]? = some (.cells (cv V M) 25 (0, 0)) := by rw [hb2.block _ (by omega)]; exact g0
  have k1 : w2.heap[w.heap.size + 1]? = some (.cells (cv V' M') 25 (0, 0)) := by rw [hb2.block _ (by omega)]; exact g1
  have k2 : w2.heap[w.heap.size + 2]? = some (.cells (hv H) 23 (0, 0)) := by rw [hb2.block _ (by omega)]; exact g2
  have B2 := B1.trans (hb2.mono B1.size)
  have z2 : w.heap.size + 3 ≤ w2.heap.size := Nat.le_trans z1 hb2.size
  clear g0 g1 g2 B1 z1 hb2 C1
  have l0 := heap_past w2 (.cells (cv CV CM) 25) _ _ k0
  have l1 := heap_past w2 (.cells (cv CV CM) 25) _ _ k1
  have l2 := heap_past w2 (.cells (cv CV CM) 25) _ _ k2
  have l3 := heap_new w2 (.cells (cv CV CM) 25) _ rfl
  have B3 := B2.alloc B2.size (.cells (cv CV CM) 25)
  go_wp2_with (first
    | (refine wl_storeC rfl _ _ rfl w2.heap.size CV CM rfl rfl _ (heap_new _ _ _ rfl) rfl hAl hBl _ (setRow_new _ _ _ _ _ rfl) ?_)
    | (refine wl_loadC rfl _ rfl w.heap.size rfl V M l0 hVl hMl ?_)
    | (refine wl_loadC rfl _ rfl (w.heap.size + 1) rfl V' M' l1 hVl' hMl' ?_))
  refine (C2.out _).mono ?_
  rintro e w3 ⟨rfl, hb3⟩
  have m0 : w3.heap[w.heap.size]? = some (.cells (cv V M) 25 (0, 0)) := by rw [hb3.block _ (by simp; omega)]; exact l0
  have m1 : w3.heap[w.heap.size + 1]? = some (.cells (cv V' M') 25 (0, 0)) := by rw [hb3.block _ (by simp; omega)]; exact l1
  have m2 : w3.heap[w.heap.size + 2]? = some (.cells (hv H) 23 (0, 0)) := by rw [hb3.block _ (by simp; omega)]; exact l2
  have m3 : w3.heap[w2.heap.size]? = some (.cells (cv CV CM) 25 (0, 0)) := by rw [hb3.block _ (by simp)]; exact l3
  have B4 := B3.trans (hb3.mono B3.size)
  clear k0 k1 k2 B2 l0 l1 l2 l3 B3 hb3 C2
  have n0 := heap_past w3 (.cells (cv CV CM) 25) _ _ m0
  have n1 := heap_past w3 (.cells (cv CV CM) 25) _ _ m1
  have n2 := heap_past w3 (.cells (cv CV CM) 25) _ _ m2
  have n3 := heap_past w3 (.cells (cv CV CM) 25) _ _ m3
  have n4 := heap_new w3 (.cells (cv CV CM) 25) _ rfl
  have B5 := B4.alloc B4.size (.cells (cv CV CM) 25)
  obtain ⟨W, hW⟩ : ∃ W, W = w3.alloc (.cells (cv CV CM) 25) := ⟨_, rfl⟩
  go_wp2_with (first
    | (refine wl_storeC rfl _ _ rfl w3.heap.size CV CM rfl rfl _ (heap_new _ _ _ rfl) rfl hAl hBl _ (setRow_new _ _ _ _ _ rfl) ?_)
    | (refine wl_loadC rfl _ rfl w2.heap.size rfl CV CM n3 hAl hBl ?_)
    | (refine wl_loadC rfl _ rfl w3.heap.size rfl CV CM n4 hAl hBl ?_))
  rw [← hW] at n0 n1 n2 n3 n4 B5 ⊢
  clear hW m0 m1 m2 m3 B4
  have ne1 := Later.ne W
  refine wp_region_later (by kernel_rfl) (by kernel_rfl) ?_
  go_big_quiet_step (fail)
  go_big_quiet_step (fail)
  go_big_quiet_step (fail)
  go_big_quiet_step (fail)
  go_big_quiet_step (fail)
  go_big_quiet_step (fail)
  refine qlC rfl _ rfl w.heap.size rfl V M n0 hVl hMl ?_
  simp only [Act.put, List.setIfInBounds_toArray, List.set_cons_succ, List.set_cons_zero]
  refine qlH rfl _ rfl (w.heap.size + 2) rfl H n2 hHl ?_
  simp only [Act.put, List.setIfInBounds_toArray, List.set_cons_succ, List.set_cons_zero]
  go_big_quiet_want; go_big_quiet_op
  refine ⟨_, fun u => Calls.later_of (C4.out u.world), ?_⟩
  go_big_quiet_on
  go_big_quiet_step (fail)
  go_big_quiet_step (fail)
  go_big_quiet_step (fail)
  go_big_quiet_step (fail)
  go_big_quiet_step (fail)
  go_big_quiet_step (fail)
  go_big_quiet_step (fail)
  refine wpQuiet_nil ?_
  rintro w' ⟨u, rfl⟩
  go_wp2
  go_ret
  exact ⟨rfl, B5.trans (u.below.mono B5.size)⟩

theorem lawMeets_any (V M V' M' H : List Int) (hV : Byt V) (hM : Byt M) (hV' : Byt V') (hM' : Byt M') (hH : Byt H) (w : World) :
    Calls Try.prog 6 #[.agg (cv V M), .agg (cv V' M'), .agg (hv H)] w fun e w' => e = .returned (.bool true) ∧ Below w.heap.size w w' := by
  have c1 := meet_any V M V' M' hV hM hV' hM'
  have c2 := rmeet_any V M V' M' hV hM hV' hM'
  have c4 := has_any V M H hV hM hH
  have c5 := has_any V' M' H hV' hM' hH
  cases hm : meets V M V' M'
  · rw [meetR_no _ _ _ _ hm] at c1 c2
    have ha := has_apart V M V' M' H hm
    cases hx : has V M H
    · rw [hx] at c4
      exact meets_ff V M V' M' H Z Z hV.1 hM.1 hV'.1 hM'.1 hH.1 Z_byt.1 Z_byt.1 c1 c2 c4 w
    · rw [hx, Bool.true_and] at ha
      rw [hx] at c4
      rw [ha] at c5
      exact meets_ft V M V' M' H Z Z hV.1 hM.1 hV'.1 hM'.1 hH.1 Z_byt.1 Z_byt.1 c1 c2 c4 c5 w
  · rw [meetR_yes _ _ _ _ hm] at c1 c2
    have c3 := has_any _ _ H (meetV_byt V M V' M') (meetM_byt M M') hH
    rw [has_meet V M V' M' H hm] at c3
    cases hx : has V M H
    · rw [hx] at c4
      rw [hx, Bool.false_and] at c3
      exact meets_tf V M V' M' H _ _ _ hV.1 hM.1 hV'.1 hM'.1 hH.1 (meetV_byt _ _ _ _).1 (meetM_byt _ _).1 c1 c2 c3 c4 rfl w
    · rw [hx] at c4
      rw [hx, Bool.true_and] at c3
      exact meets_tt V M V' M' H _ _ _ hV.1 hM.1 hV'.1 hM'.1 hH.1 (meetV_byt _ _ _ _).1 (meetM_byt _ _).1 c1 c2 c3 c4 c5 w
end Go.Proofs.Ythekoeinnillpaa
