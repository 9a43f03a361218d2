import Derived.Test.YtfbphblodankmaaAwake
namespace Go.Proofs.Ytfbphblodankmaa
open Go Go.RowKit
set_option maxRecDepth 20000

set_option maxHeartbeats 2000000 in
theorem wright_any (V M : List Int) (hV : Byt V) (hM : Byt M) (w : World) :
    Calls Try.prog 31 #[.agg (cv V M)] w fun e w' => e = .returned (.bool (V == can V M)) ∧ Below w.heap.size w w' := by
  have hVl := hV.1
  have hMl := hM.1
  have hCl := (can_byt V M).1
  have C1 : Hid (∀ W, Calls Try.prog 30 #[.agg (cv V M)] W fun e w' => e = .returned (.agg (cv (can V M) M)) ∧ Below W.heap.size W w') := canon_any V M hV hM
  have eC : ∀ w, (Op.equalIn 10000 36 (.agg (cv V M)) (.agg (cv (can V M) M))).run Try.prog w = .ok (V == can V M) w := fun w => by rw [eqC V M (can V M) M hVl hMl hCl hMl]; simp
  have eg : ∀ op x y (xs ys : Array Value) w, (eqGuard op 36 x y (.agg xs) (.agg ys)).run Try.prog w = .ok () w := egC
  clear hV hM
  go_enter Try.func31, Try.ntmps31
  go_wp2_with fail
  have g0 := heap_new w (.cells (cv V M) 36) _ rfl
  have hb := (Below.refl w.heap.size w).alloc (Nat.le_refl _) (.cells (cv V M) 36)
  obtain ⟨W, hW⟩ : ∃ W, W = w.alloc (.cells (cv V M) 36) := ⟨_, rfl⟩
  rw [← hW] at g0 hb ⊢
  clear hW
  have ne1 := Later.ne W
  refine wp_region_later (by kernel_rfl) (by kernel_rfl) ?_
  refine qlC rfl _ rfl w.heap.size rfl V M g0 hVl hMl ?_
  simp only [Act.put, List.setIfInBounds_toArray, List.set_cons_succ, List.set_cons_zero]
  refine qlC rfl _ rfl w.heap.size rfl V M g0 hVl hMl ?_
  simp only [Act.put, List.setIfInBounds_toArray, List.set_cons_succ, List.set_cons_zero]
  go_big_quiet_want; go_big_quiet_op
  refine ⟨_, fun u => Calls.later_of (C1.out u.world), ?_⟩
  go_big_quiet_on
  repeat go_big_quiet_step (fail)
  refine wpQuiet_nil ?_
  rintro w' ⟨u, rfl⟩
  go_wp2
  go_ret
  exact ⟨rfl, hb.trans (u.below.mono hb.size)⟩
end Go.Proofs.Ytfbphblodankmaa
