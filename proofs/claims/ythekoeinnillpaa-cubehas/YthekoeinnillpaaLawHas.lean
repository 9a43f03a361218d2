import Derived.Test.YthekoeinnillpaaRefCanon
import Derived.Test.YthekoeinnillpaaLawOne
namespace Go.Proofs.Ythekoeinnillpaa
open Go Go.RowKit

theorem can_can (V M : List Int) : can (can V M) M = can V M := mk_ext _ _ fun i hi => by
  rw [can_bt _ _ i hi]; cases bt V i <;> cases bt M i <;> rfl
theorem has_can (V M H : List Int) : has (can V M) M H = has V M H := by
  rw [Bool.eq_iff_iff, has_iff, has_iff]
  constructor
  · intro h i hi hm
    have := h i hi hm
    rwa [can_bt _ _ i hi, hm, Bool.and_true] at this
  · intro h i hi hm
    rw [can_bt _ _ i hi, hm, Bool.and_true]; exact h i hi hm
theorem has_Z (V H : List Int) : has V Z H = true := (has_iff _ _ _).2 fun i hi hm => by rw [Z_bt i hi] at hm; cases hm

set_option maxHeartbeats 4000000 in
theorem lawHas_any (V M H : List Int) (hV : Byt V) (hM : Byt M) (hH : Byt H) (w : World) :
    Calls Try.prog 3 #[.agg (cv V M), .agg (hv H)] w fun e w' => e = .returned (.bool true) ∧ Below w.heap.size w w' := by
  have hVl := hV.1
  have hMl := hM.1
  have hHl := hH.1
  have hCl := (can_byt V M).1
  obtain ⟨b, hbe⟩ : ∃ b, b = has V M H := ⟨_, rfl⟩
  obtain ⟨r, hre⟩ : ∃ r, r = (V == can V M) := ⟨_, rfl⟩
  have C1 : Hid (∀ W, Calls Try.prog 10 #[.agg (cv V M)] W fun e w' => e = .returned (.agg (cv (can V M) M)) ∧ Below W.heap.size W w') := canon_any V M hV hM
  have C2 : Hid (∀ W, Calls Try.prog 11 #[.agg (cv V M), .agg (hv H)] W fun e w' => e = .returned (.bool b) ∧ Below W.heap.size W w') := by rw [hbe]; exact has_any V M H hV hM hH
  have C3 : Hid (∀ W, Calls Try.prog 12 #[.agg (cv V M), .agg (hv H)] W fun e w' => e = .returned (.bool b) ∧ Below W.heap.size W w') := by rw [hbe]; exact rhas_any V M H hV hM hH
  have C4 : Hid (∀ W, Calls Try.prog 13 #[.agg (cv V M)] W fun e w' => e = .returned (.agg (cv (can V M) M)) ∧ Below W.heap.size W w') := rcanon_any V M hV hM
  have C5 : Hid (∀ W, Calls Try.prog 14 #[.agg (cv (can V M) M)] W fun e w' => e = .returned (.bool true) ∧ Below W.heap.size W w') := by
    have := right_any _ M (can_byt V M) hM; rwa [can_can, show (can V M == can V M) = true by simp] at this
  have C6 : Hid (∀ W, Calls Try.prog 14 #[.agg (cv V M)] W fun e w' => e = .returned (.bool r) ∧ Below W.heap.size W w') := by rw [hre]; exact right_any V M hV hM
  have C7 : Hid (∀ W, Calls Try.prog 11 #[.agg (cv (can V M) M), .agg (hv H)] W fun e w' => e = .returned (.bool b) ∧ Below W.heap.size W w') := by
    have := has_any _ M H (can_byt V M) hM hH; rwa [has_can, ← hbe] at this
  have C8 : Hid (∀ W, Calls Try.prog 11 #[.agg (cv Z Z), .agg (hv H)] W fun e w' => e = .returned (.bool true) ∧ Below W.heap.size W w') := by
    have := has_any Z Z H Z_byt Z_byt hH; rwa [has_Z] at this
  have C9 : Hid (∀ W, Calls Try.prog 16 #[.agg (hv H)] W fun e w' => e = .returned (.agg (cv H F)) ∧ Below W.heap.size W w') := of_any H hH
  have C10 : Hid (∀ W, Calls Try.prog 11 #[.agg (cv H F), .agg (hv H)] W fun e w' => e = .returned (.bool true) ∧ Below W.heap.size W w') := by
    have := has_any H F H hH F_byt hH; rwa [has_F H H hH hH, show (H == H) = true by simp] at this
  have e1 : ∀ w, (Op.equalIn 10000 25 (.agg (cv (can V M) M)) (.agg (cv (can V M) M))).run Try.prog w = .ok true w := fun w => by rw [eqC _ _ _ _ hCl hMl hCl hMl]; simp
  have e2 : ∀ w, (Op.equalIn 10000 25 (.agg (cv V M)) (.agg (cv (can V M) M))).run Try.prog w = .ok r w := fun w => by rw [eqC _ _ _ _ hVl hMl hCl hMl, hre]; simp
  have eg : ∀ op x y (xs ys : Array Value) w, (eqGuard op 25 x y (.agg xs) (.agg ys)).run Try.prog w = .ok () w := egC
  have hbb : (b == b) = true := by simp
  have hrr : (r == r) = true := by simp
  clear hV hM hH hbe hre
  go_enter Try.func3, Try.ntmps3
  go_wp2_with fail
  refine (awake_any _).mono ?_
  rintro e w1 ⟨rfl, hb1⟩
  have g0 : w1.heap[w.heap.size]? = some (.cells (cv V M) 25 (0, 0)) := by rw [hb1.block _ (by simp; omega)]; exact heap_past _ _ _ _ (heap_new _ _ _ rfl)
  have g1 : w1.heap[w.heap.size + 1]? = some (.cells (hv H) 23 (0, 0)) := by rw [hb1.block _ (by simp)]; exact heap_new _ _ _ (by simp)
  have B1 : Below w.heap.size w w1 := (((Below.refl _ _).alloc (Nat.le_refl _) _).alloc (by simp) _).trans (hb1.mono (by simp; omega))
  have z1 : w.heap.size + 2 ≤ w1.heap.size := Nat.le_trans (by simp) hb1.size
  clear hb1
  go_wp2_with (first
    | (refine wl_loadC rfl _ rfl w.heap.size rfl V M g0 hVl hMl ?_))
  refine (C1.out _).mono ?_
  rintro e w2 ⟨rfl, hb2⟩
  have k0 : w2.heap[w.heap.size]? = some (.cells (cv V M) 25 (0, 0)) := by rw [hb2.block _ (by omega)]; exact g0
  have k1 : w2.heap[w.heap.size + 1]? = some (.cells (hv H) 23 (0, 0)) := by rw [hb2.block _ (by omega)]; exact g1
  have B2 := B1.trans (hb2.mono B1.size)
  clear g0 g1 B1 z1 hb2 C1
  have n0 := heap_past w2 (.cells (cv (can V M) M) 25) _ _ k0
  have n1 := heap_past w2 (.cells (cv (can V M) M) 25) _ _ k1
  have n2 := heap_new w2 (.cells (cv (can V M) M) 25) _ rfl
  have B5 := B2.alloc B2.size (.cells (cv (can V M) M) 25)
  obtain ⟨W, hW⟩ : ∃ W, W = w2.alloc (.cells (cv (can V M) M) 25) := ⟨_, rfl⟩
  go_wp2_with (first
    | (refine wl_storeC rfl _ _ rfl w2.heap.size (can V M) M rfl rfl _ (heap_new _ _ _ rfl) rfl hCl hMl _ (setRow_new _ _ _ _ _ rfl) ?_))
  rw [← hW] at n0 n1 n2 B5 ⊢
  clear hW k0 k1 B2
  have ne1 := Later.ne W
  refine wp_region_later (by kernel_rfl) (by kernel_rfl) ?_
  refine qlC rfl _ rfl w.heap.size rfl V M n0 hVl hMl ?_
  simp only [Act.put, List.setIfInBounds_toArray, List.set_cons_succ, List.set_cons_zero]
  refine qlH rfl _ rfl (w.heap.size + 1) rfl H n1 hHl ?_
  simp only [Act.put, List.setIfInBounds_toArray, List.set_cons_succ, List.set_cons_zero]
  go_big_quiet_want; go_big_quiet_op
  refine ⟨_, fun u => Calls.later_of (C2.out u.world), ?_⟩
  go_big_quiet_on
  refine qlC rfl _ rfl w.heap.size rfl V M n0 hVl hMl ?_
  simp only [Act.put, List.setIfInBounds_toArray, List.set_cons_succ, List.set_cons_zero]
  refine qlH rfl _ rfl (w.heap.size + 1) rfl H n1 hHl ?_
  simp only [Act.put, List.setIfInBounds_toArray, List.set_cons_succ, List.set_cons_zero]
  go_big_quiet_want; go_big_quiet_op
  refine ⟨_, fun u => Calls.later_of (C3.out u.world), ?_⟩
  go_big_quiet_on
  go_big_quiet_step (fail)
  go_big_quiet_step (fail)
  refine qlC rfl _ rfl w2.heap.size rfl (can V M) M n2 hCl hMl ?_
  simp only [Act.put, List.setIfInBounds_toArray, List.set_cons_succ, List.set_cons_zero]
  refine qlC rfl _ rfl w.heap.size rfl V M n0 hVl hMl ?_
  simp only [Act.put, List.setIfInBounds_toArray, List.set_cons_succ, List.set_cons_zero]
  go_big_quiet_want; go_big_quiet_op
  refine ⟨_, fun u => Calls.later_of (C4.out u.world), ?_⟩
  go_big_quiet_on
  go_big_quiet_step (fail)
  go_big_quiet_step (fail)
  go_big_quiet_step (fail)
  refine qlC rfl _ rfl w2.heap.size rfl (can V M) M n2 hCl hMl ?_
  simp only [Act.put, List.setIfInBounds_toArray, List.set_cons_succ, List.set_cons_zero]
  go_big_quiet_want; go_big_quiet_op
  refine ⟨_, fun u => Calls.later_of (C5.out u.world), ?_⟩
  go_big_quiet_on
  go_big_quiet_step (fail)
  go_big_quiet_step (fail)
  refine qlC rfl _ rfl w.heap.size rfl V M n0 hVl hMl ?_
  simp only [Act.put, List.setIfInBounds_toArray, List.set_cons_succ, List.set_cons_zero]
  go_big_quiet_want; go_big_quiet_op
  refine ⟨_, fun u => Calls.later_of (C6.out u.world), ?_⟩
  go_big_quiet_on
  refine qlC rfl _ rfl w.heap.size rfl V M n0 hVl hMl ?_
  simp only [Act.put, List.setIfInBounds_toArray, List.set_cons_succ, List.set_cons_zero]
  refine qlC rfl _ rfl w2.heap.size rfl (can V M) M n2 hCl hMl ?_
  simp only [Act.put, List.setIfInBounds_toArray, List.set_cons_succ, List.set_cons_zero]
  go_big_quiet_step (fail)
  go_big_quiet_step (fail)
  go_big_quiet_step (fail)
  go_big_quiet_step (fail)
  refine qlC rfl _ rfl w2.heap.size rfl (can V M) M n2 hCl hMl ?_
  simp only [Act.put, List.setIfInBounds_toArray, List.set_cons_succ, List.set_cons_zero]
  refine qlH rfl _ rfl (w.heap.size + 1) rfl H n1 hHl ?_
  simp only [Act.put, List.setIfInBounds_toArray, List.set_cons_succ, List.set_cons_zero]
  go_big_quiet_want; go_big_quiet_op
  refine ⟨_, fun u => Calls.later_of (C7.out u.world), ?_⟩
  go_big_quiet_on
  refine qlC rfl _ rfl w.heap.size rfl V M n0 hVl hMl ?_
  simp only [Act.put, List.setIfInBounds_toArray, List.set_cons_succ, List.set_cons_zero]
  refine qlH rfl _ rfl (w.heap.size + 1) rfl H n1 hHl ?_
  simp only [Act.put, List.setIfInBounds_toArray, List.set_cons_succ, List.set_cons_zero]
  go_big_quiet_want; go_big_quiet_op
  refine ⟨_, fun u => Calls.later_of (C2.out u.world), ?_⟩
  go_big_quiet_on
  go_big_quiet_step (fail)
  go_big_quiet_step (fail)
  go_big_quiet_step (fail)
  go_big_quiet_want; go_big_quiet_op
  refine ⟨_, fun u => Calls.later_of (all_any u.world), ?_⟩
  go_big_quiet_on
  refine qlH rfl _ rfl (w.heap.size + 1) rfl H n1 hHl ?_
  simp only [Act.put, List.setIfInBounds_toArray, List.set_cons_succ, List.set_cons_zero]
  go_big_quiet_want; go_big_quiet_op
  refine ⟨_, fun u => Calls.later_of (C8.out u.world), ?_⟩
  go_big_quiet_on
  go_big_quiet_step (fail)
  go_big_quiet_step (fail)
  refine qlH rfl _ rfl (w.heap.size + 1) rfl H n1 hHl ?_
  simp only [Act.put, List.setIfInBounds_toArray, List.set_cons_succ, List.set_cons_zero]
  go_big_quiet_want; go_big_quiet_op
  refine ⟨_, fun u => Calls.later_of (C9.out u.world), ?_⟩
  go_big_quiet_on
  refine qlH rfl _ rfl (w.heap.size + 1) rfl H n1 hHl ?_
  simp only [Act.put, List.setIfInBounds_toArray, List.set_cons_succ, List.set_cons_zero]
  go_big_quiet_want; go_big_quiet_op
  refine ⟨_, fun u => Calls.later_of (C10.out u.world), ?_⟩
  go_big_quiet_on
  go_big_quiet_step (fail)
  go_big_quiet_step (fail)
  refine wpQuiet_nil ?_
  rintro w' ⟨u, rfl⟩
  go_wp2
  go_ret
  exact ⟨rfl, B5.trans (u.below.mono B5.size)⟩
end Go.Proofs.Ythekoeinnillpaa
