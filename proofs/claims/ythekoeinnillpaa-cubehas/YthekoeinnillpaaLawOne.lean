import Derived.Test.YthekoeinnillpaaEnds
namespace Go.Proofs.Ythekoeinnillpaa
open Go Go.RowKit

theorem F_bt (i : Nat) (hi : i < 104) : bt F i = true := mk_bt _ i hi
theorem can_F (G : List Int) (hG : Byt G) : can G F = G := (mk_eq G hG _ fun i hi => by rw [F_bt i hi, Bool.and_true]).symm
theorem top_F (G : List Int) (hG : Byt G) : top G F = G := (mk_eq G hG _ fun i hi => by rw [F_bt i hi]; simp).symm
theorem has_F (G H : List Int) (hG : Byt G) (hH : Byt H) : has G F H = (G == H) := by
  rw [Bool.eq_iff_iff, has_iff, beq_iff_eq]
  constructor
  · intro h; exact bt_ext G H hG hH fun i hi => h i hi (F_bt i hi)
  · rintro rfl i _ _; rfl
theorem free_F : free F = 0 := by
  unfold free
  rw [List.filter_eq_nil_iff.2 (fun i hi => by rw [F_bt i (List.mem_range.1 hi)]; decide)]
  rfl

set_option maxHeartbeats 4000000 in
theorem lawOne_any (G H : List Int) (hG : Byt G) (hH : Byt H) (w : World) :
    Calls Try.prog 4 #[.agg (hv G), .agg (hv H)] w fun e w' => e = .returned (.bool true) ∧ Below w.heap.size w w' := by
  have hGl := hG.1
  have hHl := hH.1
  have hFl := F_byt.1
  obtain ⟨b, hbe⟩ : ∃ b, b = (G == H) := ⟨_, rfl⟩
  have C1 : Hid (∀ W, Calls Try.prog 16 #[.agg (hv G)] W fun e w' => e = .returned (.agg (cv G F)) ∧ Below W.heap.size W w') := of_any G hG
  have C2 : Hid (∀ W, Calls Try.prog 17 #[.agg (cv G F)] W fun e w' => e = .returned (.tuple #[.agg (hv G), .agg (hv G)]) ∧ Below W.heap.size W w') := by
    have := ends_any G F hG F_byt; rwa [can_F G hG, top_F G hG] at this
  have C3 : Hid (∀ W, Calls Try.prog 11 #[.agg (cv G F), .agg (hv H)] W fun e w' => e = .returned (.bool b) ∧ Below W.heap.size W w') := by
    have := has_any G F H hG F_byt hH; rwa [has_F G H hG hH, ← hbe] at this
  have C4 : Hid (∀ W, Calls Try.prog 14 #[.agg (cv G F)] W fun e w' => e = .returned (.bool true) ∧ Below W.heap.size W w') := by
    have := right_any G F hG F_byt; rwa [can_F G hG, show (G == G) = true by simp] at this
  have C5 : Hid (∀ W, Calls Try.prog 18 #[.agg (cv G F)] W fun e w' => e = .returned (.int .i64 0) ∧ Below W.heap.size W w') := by
    have := free_any G F hGl F_byt; rwa [free_F] at this
  have e1 : ∀ w, (Op.equalIn 10000 23 (.agg (hv G)) (.agg (hv H))).run Try.prog w = .ok b w := fun w => by rw [eq26 G H hGl hHl, hbe]
  have e2 : ∀ w, (Op.equalIn 10000 23 (.agg (hv G)) (.agg (hv G))).run Try.prog w = .ok true w := fun w => by rw [eq26 G G hGl hGl]; simp
  have eg : ∀ op x y (xs ys : Array Value) w, (eqGuard op 23 x y (.agg xs) (.agg ys)).run Try.prog w = .ok () w := egH
  have hbb : (b == b) = true := by simp
  clear hG hH hbe
  go_enter Try.func4, Try.ntmps4
  go_wp2_with fail
  refine (awake_any _).mono ?_
  rintro e w1 ⟨rfl, hb1⟩
  have g0 : w1.heap[w.heap.size]? = some (.cells (hv G) 23 (0, 0)) := by rw [hb1.block _ (by simp; omega)]; exact heap_past _ _ _ _ (heap_new _ _ _ rfl)
  have g1 : w1.heap[w.heap.size + 1]? = some (.cells (hv H) 23 (0, 0)) := by rw [hb1.block _ (by simp)]; exact heap_new _ _ _ (by simp)
  have B1 : Below w.heap.size w w1 := (((Below.refl _ _).alloc (Nat.le_refl _) _).alloc (by simp) _).trans (hb1.mono (by simp; omega))
  have z1 : w.heap.size + 2 ≤ w1.heap.size := Nat.le_trans (by simp) hb1.size
  clear hb1
  go_wp2_with (first
    | (refine wl_load26 rfl _ rfl w.heap.size rfl G g0 hGl ?_))
  refine (C1.out _).mono ?_
  rintro e w2 ⟨rfl, hb2⟩
  have k0 : w2.heap[w.heap.size]? = some (.cells (hv G) 23 (0, 0)) := by rw [hb2.block _ (by omega)]; exact g0
  have k1 : w2.heap[w.heap.size + 1]? = some (.cells (hv H) 23 (0, 0)) := by rw [hb2.block _ (by omega)]; exact g1
  have B2 := B1.trans (hb2.mono B1.size)
  have z2 : w.heap.size + 2 ≤ w2.heap.size := Nat.le_trans z1 hb2.size
  clear g0 g1 B1 z1 hb2 C1
  have l0 := heap_past w2 (.cells (cv G F) 25) _ _ k0
  have l1 := heap_past w2 (.cells (cv G F) 25) _ _ k1
  have l2 := heap_new w2 (.cells (cv G F) 25) _ rfl
  have B3 := B2.alloc B2.size (.cells (cv G F) 25)
  go_wp2_with (first
    | (refine wl_storeC rfl _ _ rfl w2.heap.size G F rfl rfl _ (heap_new _ _ _ rfl) rfl hGl hFl _ (setRow_new _ _ _ _ _ rfl) ?_)
    | (refine wl_loadC rfl _ rfl w2.heap.size rfl G F l2 hGl hFl ?_))
  refine (C2.out _).mono ?_
  rintro e w3 ⟨rfl, hb3⟩
  have m0 : w3.heap[w.heap.size]? = some (.cells (hv G) 23 (0, 0)) := by rw [hb3.block _ (by simp; omega)]; exact l0
  have m1 : w3.heap[w.heap.size + 1]? = some (.cells (hv H) 23 (0, 0)) := by rw [hb3.block _ (by simp; omega)]; exact l1
  have m2 : w3.heap[w2.heap.size]? = some (.cells (cv G F) 25 (0, 0)) := by rw [hb3.block _ (by simp)]; exact l2
  have B4 := B3.trans (hb3.mono B3.size)
  have z4 : w2.heap.size + 1 ≤ w3.heap.size := Nat.le_trans (by simp) hb3.size
  clear k0 k1 B2 l0 l1 l2 B3 hb3 C2
  have n0 := heap_past (w3.alloc (.cells (hv G) 23)) (.cells (hv G) 23) _ _ (heap_past w3 (.cells (hv G) 23) _ _ m0)
  have n1 := heap_past (w3.alloc (.cells (hv G) 23)) (.cells (hv G) 23) _ _ (heap_past w3 (.cells (hv G) 23) _ _ m1)
  have n2 := heap_past (w3.alloc (.cells (hv G) 23)) (.cells (hv G) 23) _ _ (heap_past w3 (.cells (hv G) 23) _ _ m2)
  have n3 := heap_past (w3.alloc (.cells (hv G) 23)) (.cells (hv G) 23) _ _ (heap_new w3 (.cells (hv G) 23) _ rfl)
  have n4 := heap_new (w3.alloc (.cells (hv G) 23)) (.cells (hv G) 23) (w3.heap.size + 1) (by simp)
  have B5 := (B4.alloc B4.size (.cells (hv G) 23)).alloc (by simp; exact Nat.le_trans B4.size (by omega)) (.cells (hv G) 23)
  obtain ⟨W, hW⟩ : ∃ W, W = (w3.alloc (.cells (hv G) 23)).alloc (.cells (hv G) 23) := ⟨_, rfl⟩
  go_wp2_with (first
    | (refine wl_store26 rfl _ _ rfl w3.heap.size G rfl rfl _ (heap_past _ _ _ _ (heap_new _ _ _ rfl)) rfl hGl _ (by rw [setRow_past _ _ _ _ (by simp), setRow_new _ _ _ _ _ rfl]) ?_)
    | (refine wl_store26 rfl _ _ rfl (w3.heap.size + 1) G rfl rfl _ (heap_new _ _ _ (by simp)) rfl hGl _ (setRow_new _ _ _ _ _ (by simp)) ?_))
  rw [← hW] at n0 n1 n2 n3 n4 B5 ⊢
  clear hW m0 m1 m2 B4
  have ne1 := Later.ne W
  refine wp_region_later (by kernel_rfl) (by kernel_rfl) ?_
  refine qlC rfl _ rfl w2.heap.size rfl G F n2 hGl hFl ?_
  simp only [Act.put, List.setIfInBounds_toArray, List.set_cons_succ, List.set_cons_zero]
  refine qlH rfl _ rfl (w.heap.size + 1) rfl H n1 hHl ?_
  simp only [Act.put, List.setIfInBounds_toArray, List.set_cons_succ, List.set_cons_zero]
  go_big_quiet_want; go_big_quiet_op
  refine ⟨_, fun u => Calls.later_of (C3.out u.world), ?_⟩
  go_big_quiet_on
  refine qlH rfl _ rfl w.heap.size rfl G n0 hGl ?_
  simp only [Act.put, List.setIfInBounds_toArray, List.set_cons_succ, List.set_cons_zero]
  refine qlH rfl _ rfl (w.heap.size + 1) rfl H n1 hHl ?_
  simp only [Act.put, List.setIfInBounds_toArray, List.set_cons_succ, List.set_cons_zero]
  go_big_quiet_step (fail)
  go_big_quiet_step (fail)
  go_big_quiet_step (fail)
  refine qlC rfl _ rfl w2.heap.size rfl G F n2 hGl hFl ?_
  simp only [Act.put, List.setIfInBounds_toArray, List.set_cons_succ, List.set_cons_zero]
  go_big_quiet_want; go_big_quiet_op
  refine ⟨_, fun u => Calls.later_of (C4.out u.world), ?_⟩
  go_big_quiet_on
  go_big_quiet_step (fail)
  go_big_quiet_step (fail)
  refine qlC rfl _ rfl w2.heap.size rfl G F n2 hGl hFl ?_
  simp only [Act.put, List.setIfInBounds_toArray, List.set_cons_succ, List.set_cons_zero]
  go_big_quiet_want; go_big_quiet_op
  refine ⟨_, fun u => Calls.later_of (C5.out u.world), ?_⟩
  go_big_quiet_on
  go_big_quiet_step (fail)
  go_big_quiet_step (fail)
  go_big_quiet_step (fail)
  refine qlH rfl _ rfl w3.heap.size rfl G n3 hGl ?_
  simp only [Act.put, List.setIfInBounds_toArray, List.set_cons_succ, List.set_cons_zero]
  refine qlH rfl _ rfl w.heap.size rfl G n0 hGl ?_
  simp only [Act.put, List.setIfInBounds_toArray, List.set_cons_succ, List.set_cons_zero]
  go_big_quiet_step (fail)
  go_big_quiet_step (fail)
  go_big_quiet_step (fail)
  refine qlH rfl _ rfl (w3.heap.size + 1) rfl G n4 hGl ?_
  simp only [Act.put, List.setIfInBounds_toArray, List.set_cons_succ, List.set_cons_zero]
  refine qlH rfl _ rfl w.heap.size rfl G n0 hGl ?_
  simp only [Act.put, List.setIfInBounds_toArray, List.set_cons_succ, List.set_cons_zero]
  go_big_quiet_step (fail)
  go_big_quiet_step (fail)
  go_big_quiet_step (fail)
  refine wpQuiet_nil ?_
  rintro w' ⟨u, rfl⟩
  go_wp2
  go_ret
  exact ⟨rfl, B5.trans (u.below.mono B5.size)⟩
end Go.Proofs.Ythekoeinnillpaa
