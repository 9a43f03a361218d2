import Derived.Test.YthekoeinnillpaaRefEnds
namespace Go.Proofs.Ythekoeinnillpaa
open Go Go.RowKit

theorem has_least (V M : List Int) : has V M (can V M) = true := (has_iff _ _ _).2 fun i hi hm => by rw [can_bt _ _ i hi, hm, Bool.and_true]
theorem has_top (V M : List Int) : has V M (top V M) = true := (has_iff _ _ _).2 fun i hi hm => by rw [top_bt _ _ i hi, hm]; simp

set_option maxHeartbeats 4000000 in
theorem lawEnds_any (V M : List Int) (hV : Byt V) (hM : Byt M) (w : World) :
    Calls Try.prog 5 #[.agg (cv V M)] w fun e w' => e = .returned (.bool true) ∧ Below w.heap.size w w' := by
  have hVl := hV.1
  have hMl := hM.1
  obtain ⟨A, hA⟩ : ∃ A, A = can V M := ⟨_, rfl⟩
  obtain ⟨T, hT⟩ : ∃ T, T = top V M := ⟨_, rfl⟩
  have hAb : Byt A := by rw [hA]; exact can_byt V M
  have hTb : Byt T := by rw [hT]; exact top_byt V M
  have hAl := hAb.1
  have hTl := hTb.1
  obtain ⟨n, hn⟩ : ∃ n, n = free M := ⟨_, rfl⟩
  have C1 : Hid (∀ W, Calls Try.prog 17 #[.agg (cv V M)] W fun e w' => e = .returned (.tuple #[.agg (hv A), .agg (hv T)]) ∧ Below W.heap.size W w') := by rw [hA, hT]; exact ends_any V M hV hM
  have C2 : Hid (∀ W, Calls Try.prog 19 #[.agg (cv V M)] W fun e w' => e = .returned (.tuple #[.agg (hv A), .agg (hv T)]) ∧ Below W.heap.size W w') := by rw [hA, hT]; exact rends_any V M hV hM
  have C3 : Hid (∀ W, Calls Try.prog 18 #[.agg (cv V M)] W fun e w' => e = .returned (.int .i64 n) ∧ Below W.heap.size W w') := by rw [hn]; exact free_any V M hVl hM
  have C4 : Hid (∀ W, Calls Try.prog 20 #[.agg (cv V M)] W fun e w' => e = .returned (.int .i64 n) ∧ Below W.heap.size W w') := by rw [hn]; exact rfree_any V M hV hM
  have C5 : Hid (∀ W, Calls Try.prog 11 #[.agg (cv V M), .agg (hv A)] W fun e w' => e = .returned (.bool true) ∧ Below W.heap.size W w') := by
    have := has_any V M A hV hM hAb; rwa [hA, has_least, ← hA] at this
  have C6 : Hid (∀ W, Calls Try.prog 11 #[.agg (cv V M), .agg (hv T)] W fun e w' => e = .returned (.bool true) ∧ Below W.heap.size W w') := by
    have := has_any V M T hV hM hTb; rwa [hT, has_top, ← hT] at this
  have e1 : ∀ w, (Op.equalIn 10000 23 (.agg (hv A)) (.agg (hv A))).run Try.prog w = .ok true w := fun w => by rw [eq26 A A hAl hAl]; simp
  have e2 : ∀ w, (Op.equalIn 10000 23 (.agg (hv T)) (.agg (hv T))).run Try.prog w = .ok true w := fun w => by rw [eq26 T T hTl hTl]; simp
  have eg : ∀ op x y (xs ys : Array Value) w, (eqGuard op 23 x y (.agg xs) (.agg ys)).run Try.prog w = .ok () w := egH
  have hnn : (n == n) = true := by simp
  clear hV hM hA hT hn hAb hTb
  go_enter Try.func5, Try.ntmps5
  go_wp2_with fail
  refine (awake_any _).mono ?_
  rintro e w1 ⟨rfl, hb1⟩
  have g0 : w1.heap[w.heap.size]? = some (.cells (cv V M) 25 (0, 0)) := by rw [hb1.block _ (by simp)]; exact heap_new _ _ _ rfl
  have B1 : Below w.heap.size w w1 := ((Below.refl _ _).alloc (Nat.le_refl _) _).trans (hb1.mono (by simp))
  have z1 : w.heap.size + 1 ≤ w1.heap.size := Nat.le_trans (by simp) hb1.size
  clear hb1
  go_wp2_with (first
    | (refine wl_loadC rfl _ rfl w.heap.size rfl V M g0 hVl hMl ?_))
  refine (C1.out _).mono ?_
  rintro e w2 ⟨rfl, hb2⟩
  have k0 : w2.heap[w.heap.size]? = some (.cells (cv V M) 25 (0, 0)) := by rw [hb2.block _ (by omega)]; exact g0
  have B2 := B1.trans (hb2.mono B1.size)
  have z2 : w.heap.size + 1 ≤ w2.heap.size := Nat.le_trans z1 hb2.size
  clear g0 B1 z1 hb2 C1
  have l0 := heap_past (w2.alloc (.cells (hv A) 23)) (.cells (hv T) 23) _ _ (heap_past w2 (.cells (hv A) 23) _ _ k0)
  have l1 := heap_past (w2.alloc (.cells (hv A) 23)) (.cells (hv T) 23) _ _ (heap_new w2 (.cells (hv A) 23) _ rfl)
  have l2 := heap_new (w2.alloc (.cells (hv A) 23)) (.cells (hv T) 23) (w2.heap.size + 1) (by simp)
  have B3 := (B2.alloc B2.size (.cells (hv A) 23)).alloc (by simp; exact Nat.le_trans B2.size (by omega)) (.cells (hv T) 23)
  go_wp2_with (first
    | (refine wl_store26 rfl _ _ rfl w2.heap.size A rfl rfl _ (heap_past _ _ _ _ (heap_new _ _ _ rfl)) rfl hAl _ (by rw [setRow_past _ _ _ _ (by simp), setRow_new _ _ _ _ _ rfl]) ?_)
    | (refine wl_store26 rfl _ _ rfl (w2.heap.size + 1) T rfl rfl _ (heap_new _ _ _ (by simp)) rfl hTl _ (setRow_new _ _ _ _ _ (by simp)) ?_)
    | (refine wl_loadC rfl _ rfl w.heap.size rfl V M l0 hVl hMl ?_))
  refine (C2.out _).mono ?_
  rintro e w3 ⟨rfl, hb3⟩
  have m0 : w3.heap[w.heap.size]? = some (.cells (cv V M) 25 (0, 0)) := by rw [hb3.block _ (by simp; omega)]; exact l0
  have m1 : w3.heap[w2.heap.size]? = some (.cells (hv A) 23 (0, 0)) := by rw [hb3.block _ (by simp; omega)]; exact l1
  have m2 : w3.heap[w2.heap.size + 1]? = some (.cells (hv T) 23 (0, 0)) := by rw [hb3.block _ (by simp)]; exact l2
  have B4 := B3.trans (hb3.mono B3.size)
  clear k0 l0 l1 l2 B2 B3 hb3 C2
  have n0 := heap_past (w3.alloc (.cells (hv A) 23)) (.cells (hv T) 23) _ _ (heap_past w3 (.cells (hv A) 23) _ _ m0)
  have n1 := heap_past (w3.alloc (.cells (hv A) 23)) (.cells (hv T) 23) _ _ (heap_past w3 (.cells (hv A) 23) _ _ m1)
  have n2 := heap_past (w3.alloc (.cells (hv A) 23)) (.cells (hv T) 23) _ _ (heap_past w3 (.cells (hv A) 23) _ _ m2)
  have n3 := heap_past (w3.alloc (.cells (hv A) 23)) (.cells (hv T) 23) _ _ (heap_new w3 (.cells (hv A) 23) _ rfl)
  have n4 := heap_new (w3.alloc (.cells (hv A) 23)) (.cells (hv T) 23) (w3.heap.size + 1) (by simp)
  have B5 := (B4.alloc B4.size (.cells (hv A) 23)).alloc (by simp; exact Nat.le_trans B4.size (by omega)) (.cells (hv T) 23)
  obtain ⟨W, hW⟩ : ∃ W, W = (w3.alloc (.cells (hv A) 23)).alloc (.cells (hv T) 23) := ⟨_, rfl⟩
  go_wp2_with (first
    | (refine wl_store26 rfl _ _ rfl w3.heap.size A rfl rfl _ (heap_past _ _ _ _ (heap_new _ _ _ rfl)) rfl hAl _ (by rw [setRow_past _ _ _ _ (by simp), setRow_new _ _ _ _ _ rfl]) ?_)
    | (refine wl_store26 rfl _ _ rfl (w3.heap.size + 1) T rfl rfl _ (heap_new _ _ _ (by simp)) rfl hTl _ (setRow_new _ _ _ _ _ (by simp)) ?_))
  rw [← hW] at n0 n1 n2 n3 n4 B5 ⊢
  clear hW m0 m1 m2 B4
  have ne1 := Later.ne W
  refine wp_region_later (by kernel_rfl) (by kernel_rfl) ?_
  refine qlH rfl _ rfl w2.heap.size rfl A n1 hAl ?_
  simp only [Act.put, List.setIfInBounds_toArray, List.set_cons_succ, List.set_cons_zero]
  refine qlH rfl _ rfl w3.heap.size rfl A n3 hAl ?_
  simp only [Act.put, List.setIfInBounds_toArray, List.set_cons_succ, List.set_cons_zero]
  go_big_quiet_step (fail)
  go_big_quiet_step (fail)
  refine qlH rfl _ rfl (w2.heap.size + 1) rfl T n2 hTl ?_
  simp only [Act.put, List.setIfInBounds_toArray, List.set_cons_succ, List.set_cons_zero]
  refine qlH rfl _ rfl (w3.heap.size + 1) rfl T n4 hTl ?_
  simp only [Act.put, List.setIfInBounds_toArray, List.set_cons_succ, List.set_cons_zero]
  go_big_quiet_step (fail)
  go_big_quiet_step (fail)
  go_big_quiet_step (fail)
  refine qlC rfl _ rfl w.heap.size rfl V M n0 hVl hMl ?_
  simp only [Act.put, List.setIfInBounds_toArray, List.set_cons_succ, List.set_cons_zero]
  go_big_quiet_want; go_big_quiet_op
  refine ⟨_, fun u => Calls.later_of (C3.out u.world), ?_⟩
  go_big_quiet_on
  refine qlC rfl _ rfl w.heap.size rfl V M n0 hVl hMl ?_
  simp only [Act.put, List.setIfInBounds_toArray, List.set_cons_succ, List.set_cons_zero]
  go_big_quiet_want; go_big_quiet_op
  refine ⟨_, fun u => Calls.later_of (C4.out u.world), ?_⟩
  go_big_quiet_on
  go_big_quiet_step (fail)
  go_big_quiet_step (fail)
  go_big_quiet_step (fail)
  refine qlC rfl _ rfl w.heap.size rfl V M n0 hVl hMl ?_
  simp only [Act.put, List.setIfInBounds_toArray, List.set_cons_succ, List.set_cons_zero]
  refine qlH rfl _ rfl w2.heap.size rfl A n1 hAl ?_
  simp only [Act.put, List.setIfInBounds_toArray, List.set_cons_succ, List.set_cons_zero]
  go_big_quiet_want; go_big_quiet_op
  refine ⟨_, fun u => Calls.later_of (C5.out u.world), ?_⟩
  go_big_quiet_on
  go_big_quiet_step (fail)
  go_big_quiet_step (fail)
  refine qlC rfl _ rfl w.heap.size rfl V M n0 hVl hMl ?_
  simp only [Act.put, List.setIfInBounds_toArray, List.set_cons_succ, List.set_cons_zero]
  refine qlH rfl _ rfl (w2.heap.size + 1) rfl T n2 hTl ?_
  simp only [Act.put, List.setIfInBounds_toArray, List.set_cons_succ, List.set_cons_zero]
  go_big_quiet_want; go_big_quiet_op
  refine ⟨_, fun u => Calls.later_of (C6.out u.world), ?_⟩
  go_big_quiet_on
  go_big_quiet_step (fail)
  go_big_quiet_step (fail)
  refine wpQuiet_nil ?_
  rintro w' ⟨u, rfl⟩
  go_wp2
  go_ret
  exact ⟨rfl, B5.trans (u.below.mono B5.size)⟩
end Go.Proofs.Ythekoeinnillpaa
