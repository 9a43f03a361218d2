import Derived.Test.YtplnlmkmaapbaaaDoorFront
namespace Go.Proofs.YtplnlmkmaapbaaaDoor
open Go Go.RowKit

set_option maxHeartbeats 2000000 in
theorem front_any (L : List Int) (hL : Byt L) (f : Int) (k : Nat) (w : World) (h0 : 0 ≤ f) (h1 : f < 5) (hk : k ≤ 8 * sizeOfF f) :
    Calls Tryd.prog 23 #[.agg (hv L), .int .i64 f, .int .i64 (k : Int)] w fun e w' => e = .returned (.agg (cv (frV L (8 * atOf f) k) (frM (8 * atOf f) k))) ∧ Below w.heap.size w w' := by
  have C17 : Hid (∀ W, Calls Tryd.prog 25 #[.int .i64 f] W fun e w' => e = .returned (.int .i64 ((8 * atOf f : Nat) : Int)) ∧ w' = W) := first_at f h0 h1
  have hpf := place_facts f h0 h1
  obtain ⟨F, hF⟩ : ∃ F, F = 8 * atOf f := ⟨_, rfl⟩
  have hFk : F + k ≤ 104 := by omega
  rw [← hF] at C17 ⊢
  have HLB : Hid (Byt L) := hL
  have hLl := hL.1
  have hZl := Z_byt.1
  clear hpf hF hk h0 h1 hL
  have o0 := heap_past ((w.alloc (.cells (hv L) 23)).alloc (.cells zeroC 37)) (.cells (cv Z Z) 37) _ _ (heap_past (w.alloc (.cells (hv L) 23)) (.cells zeroC 37) _ _ (heap_new w (.cells (hv L) 23) _ rfl))
  have o1 := heap_past ((w.alloc (.cells (hv L) 23)).alloc (.cells zeroC 37)) (.cells (cv Z Z) 37) _ _ (heap_new (w.alloc (.cells (hv L) 23)) (.cells zeroC 37) (w.heap.size + 1) (by simp))
  have o2 := heap_new ((w.alloc (.cells (hv L) 23)).alloc (.cells zeroC 37)) (.cells (cv Z Z) 37) (w.heap.size + 2) (by simp)
  have B0 : Below w.heap.size w (((w.alloc (.cells (hv L) 23)).alloc (.cells zeroC 37)).alloc (.cells (cv Z Z) 37)) := (((Below.refl _ _).alloc (Nat.le_refl _) _).alloc (by simp) _).alloc (by simp; omega) _
  go_enter Tryd.func23, Tryd.ntmps23
  go_wp2_with (first
    | (refine wl_storeC rfl _ _ rfl (w.heap.size + 2) Z Z rfl (by rw [← zeroC_eq]; rfl) _ (heap_new _ _ _ (by simp)) rfl hZl hZl _ (setRow_new _ _ _ _ _ (by simp)) ?_))
  go_loopw [8] (fun i wr => ∃ j : Nat, j ≤ k ∧ i = .int .i64 (j : Int) ∧ wr.heap[w.heap.size]? = some (.cells (hv L) 23 (0, 0)) ∧ wr.heap[w.heap.size + 1]? = some (.cells zeroC 37 (0, 0)) ∧ wr.heap[w.heap.size + 2]? = some (.cells (cv (frV L F j) (frM F j)) 37 (0, 0)) ∧ Below w.heap.size w wr) (fun i _ => k - (intOf i).toNat)
  case atStart => exact ⟨0, Nat.zero_le _, rfl, o0, o1, by rw [frV_0, frM_0]; exact o2, B0⟩
  case round =>
    clear o0 o1 o2 B0
    obtain ⟨j, hj, rfl, l5, o5, c5, B5⟩ := hrel
    have hVl := (frV_byt L F j).1
    have hMl := (frM_byt F j).1
    by_cases hlt : j < k
    · have CB : Hid (∀ W, Calls Tryd.prog 27 #[.agg (hv L), .int .i64 ((F : Int) + (j : Int))] W fun e w' => e = .returned (.bool (bt L (F + j))) ∧ Below W.heap.size W w') := fun W => by
        have := refBit_any L HLB.out ((F + j : Nat) : Int) W
        rw [bitB_bt L (F + j) (by omega)] at this
        exact this
      have hVl2 := (frV_byt L F (j + 1)).1
      have hMl2 := (frM_byt F (j + 1)).1
      have CS : Hid (∀ W, Calls Tryd.prog 38 #[.agg (cv (frV L F j) (frM F j)), .int .i64 ((F : Int) + (j : Int)), .int .i64 (if bt L (F + j) then 1 else 0)] W fun e w' => e = .returned (.agg (cv (frV L F (j + 1)) (frM F (j + 1)))) ∧ Below W.heap.size W w') := fun W => by
        have := rset_any (frV L F j) (frM F j) (frV_byt _ _ _) (frM_byt _ _) (F + j) (by omega) (if bt L (F + j) then 1 else 0) W
        rw [show ((if bt L (F + j) then (1 : Int) else 0) == 1) = bt L (F + j) by cases bt L (F + j) <;> rfl, show ((if bt L (F + j) then (1 : Int) else 0) != 2) = true by cases bt L (F + j) <;> rfl, setV_step, setM_step] at this
        exact this
      obtain ⟨V, hV⟩ : ∃ V, V = frV L F j := ⟨_, rfl⟩
      obtain ⟨M, hM⟩ : ∃ M, M = frM F j := ⟨_, rfl⟩
      obtain ⟨V2, hV2⟩ : ∃ V2, V2 = frV L F (j + 1) := ⟨_, rfl⟩
      obtain ⟨M2, hM2⟩ : ∃ M2, M2 = frM F (j + 1) := ⟨_, rfl⟩
      obtain ⟨b, hb⟩ : ∃ b, b = bt L (F + j) := ⟨_, rfl⟩
      rw [← hb] at CB CS
      rw [← hV, ← hM, ← hV2, ← hM2] at CS
      rw [← hV] at hVl c5
      rw [← hM] at hMl c5
      rw [← hV2] at hVl2
      rw [← hM2] at hMl2
      have HV2 : Hid (V2 = frV L F (j + 1)) := hV2
      have HM2 : Hid (M2 = frM F (j + 1)) := hM2
      clear hV hM hV2 hM2 hb
      go_wp2_with fail
      have ne1 := Later.ne wr
      refine wp_region_later (by kernel_rfl) (by kernel_rfl) ?_
      refine qlH rfl _ rfl w.heap.size rfl L l5 hLl ?_
      simp only [Act.put, List.setIfInBounds_toArray, List.set_cons_succ, List.set_cons_zero]
      go_big_quiet_step (fail)
      go_big_quiet_want; go_big_quiet_op
      refine ⟨_, fun u => Calls.later_same (C17.out u.world), ?_⟩
      go_big_quiet_on
      go_big_quiet_step (fail)
      go_big_quiet_step (fail)
      go_big_quiet_want; go_big_quiet_op
      refine ⟨_, fun u => Calls.later_of (CB.out u.world), ?_⟩
      go_big_quiet_on
      refine wpQuiet_nil ?_
      rintro w' ⟨u, rfl⟩
      have k0 := later_block l5 _ ⟨u, rfl⟩
      have k1 := later_block o5 _ ⟨u, rfl⟩
      have k2 := later_block c5 _ ⟨u, rfl⟩
      have hb2 := B5.trans (u.below.mono B5.size)
      obtain ⟨w5, hw5⟩ : ∃ w5, w5 = u.world := ⟨_, rfl⟩
      rw [← hw5] at k0 k1 k2 hb2 ⊢
      clear l5 o5 c5 B5 ne1 CB hw5
      have ne2 := Later.ne w5
      cases b
      · go_wp2_with fail
        refine wp_region_latertail 7 (by kernel_rfl) (by kernel_rfl) ?_
        simp only [List.take_succ_cons, List.take_zero, List.drop_succ_cons, List.drop_zero]
        refine qlC rfl _ rfl (w.heap.size + 2) rfl V M k2 hVl hMl ?_
        simp only [Act.put, List.setIfInBounds_toArray, List.set_cons_succ, List.set_cons_zero]
        go_big_quiet_step (fail)
        go_big_quiet_want; go_big_quiet_op
        refine ⟨_, fun u => Calls.later_same (C17.out u.world), ?_⟩
        go_big_quiet_on
        go_big_quiet_step (fail)
        go_big_quiet_step (fail)
        go_big_quiet_step (fail)
        go_big_quiet_want; go_big_quiet_op
        refine ⟨_, fun u => Calls.later_of (CS.out u.world), ?_⟩
        go_big_quiet_on
        refine wpQuiet_nil ?_
        rintro w' ⟨u2, rfl⟩
        have p0 := later_block k0 _ ⟨u2, rfl⟩
        have p1 := later_block k1 _ ⟨u2, rfl⟩
        have p2 := later_block k2 _ ⟨u2, rfl⟩
        have hb3 := hb2.trans (u2.below.mono hb2.size)
        clear k0 k1 k2 hb2 ne2 CS
        go_wp2_with (first
          | (refine wl_storeC rfl _ _ rfl (w.heap.size + 2) V2 M2 rfl rfl _ p2 (cv_size _ _ hVl hMl) hVl2 hMl2 _ rfl ?_))
        go_roundw
        case rel => exact ⟨j + 1, by omega, by go_num, (setRow_other _ _ _ _ (by omega)).trans p0, (setRow_other _ _ _ _ (by omega)).trans p1, by rw [← HV2.out, ← HM2.out]; exact setRow_heap _ _ _ _ _ _ p2, below_setRow hb3 (by omega) _⟩
        case measure => simp [intOf]; omega
      · go_wp2_with fail
        refine wp_region_latertail 7 (by kernel_rfl) (by kernel_rfl) ?_
        simp only [List.take_succ_cons, List.take_zero, List.drop_succ_cons, List.drop_zero]
        refine qlC rfl _ rfl (w.heap.size + 2) rfl V M k2 hVl hMl ?_
        simp only [Act.put, List.setIfInBounds_toArray, List.set_cons_succ, List.set_cons_zero]
        go_big_quiet_step (fail)
        go_big_quiet_want; go_big_quiet_op
        refine ⟨_, fun u => Calls.later_same (C17.out u.world), ?_⟩
        go_big_quiet_on
        go_big_quiet_step (fail)
        go_big_quiet_step (fail)
        go_big_quiet_step (fail)
        go_big_quiet_want; go_big_quiet_op
        refine ⟨_, fun u => Calls.later_of (CS.out u.world), ?_⟩
        go_big_quiet_on
        refine wpQuiet_nil ?_
        rintro w' ⟨u2, rfl⟩
        have p0 := later_block k0 _ ⟨u2, rfl⟩
        have p1 := later_block k1 _ ⟨u2, rfl⟩
        have p2 := later_block k2 _ ⟨u2, rfl⟩
        have hb3 := hb2.trans (u2.below.mono hb2.size)
        clear k0 k1 k2 hb2 ne2 CS
        go_wp2_with (first
          | (refine wl_storeC rfl _ _ rfl (w.heap.size + 2) V2 M2 rfl rfl _ p2 (cv_size _ _ hVl hMl) hVl2 hMl2 _ rfl ?_))
        go_roundw
        case rel => exact ⟨j + 1, by omega, by go_num, (setRow_other _ _ _ _ (by omega)).trans p0, (setRow_other _ _ _ _ (by omega)).trans p1, by rw [← HV2.out, ← HM2.out]; exact setRow_heap _ _ _ _ _ _ p2, below_setRow hb3 (by omega) _⟩
        case measure => simp [intOf]; omega
    · obtain rfl : j = k := by omega
      go_wp2_with (first
        | (refine wl_loadC rfl _ rfl (w.heap.size + 2) rfl (frV L F j) (frM F j) c5 hVl hMl ?_)
        | (refine wl_storeC rfl _ _ rfl (w.heap.size + 1) (frV L F j) (frM F j) rfl rfl _ o5 rfl hVl hMl _ rfl ?_))
      refine retC (p := 6) rfl rfl (w.heap.size + 1) rfl (frV L F j) (frM F j) hVl hMl (setRow_heap _ _ _ _ _ _ o5) ⟨rfl, ?_⟩
      exact below_setRow B5 (by omega) _
end Go.Proofs.YtplnlmkmaapbaaaDoor
