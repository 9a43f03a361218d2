import Derived.Test.YtjlghkiplapodaaMinSl
namespace Go.Proofs.Ytjlghkiplapodaa
open Go Go.RowKit

set_option maxHeartbeats 4000000 in
theorem lawHas_any (C : List (List Int × List Int)) (H : List Int) (hH : Byt H) (v : Value) (w : World) (hs : Sl w v C) :
    Calls Try.prog 3 #[v, .agg (hv H)] w fun e w' => e = .returned (.bool true) ∧ Below w.heap.size w w' := by
  obtain ⟨o, cap, rfl, hcap, hcm⟩ := hs.slice
  obtain ⟨n, hne⟩ : ∃ n, n = C.length := ⟨_, rfl⟩
  rw [← hne] at hs hcap ⊢
  have HS : Hid (Sl w (.slice o n cap) C) := hs
  have HN : Hid (n = C.length) := hne
  have hHl := hH.1
  have HH : Hid (Byt H) := hH
  clear hs hne hH hcm
  go_enter Try.func3, Try.ntmps3
  go_wp2_with fail
  refine (awake3_any _).mono ?_
  rintro e w1 ⟨rfl, hb1⟩
  have g0 : w1.heap[w.heap.size]? = some (.cells (hv H) 24 (0, 0)) := by rw [hb1.block _ (by simp)]; exact heap_new _ _ _ rfl
  have B1 : Below w.heap.size w w1 := ((Below.refl _ _).alloc (Nat.le_refl _) _).trans (hb1.mono (by simp))
  clear hb1
  obtain ⟨k, hk⟩ : ∃ k, k = min n 40 := ⟨_, rfl⟩
  have hkn : k ≤ n := by omega
  have hk40 : k ≤ 40 := by omega
  have hkc : k ≤ cap := by omega
  have HKM : Hid (k = min n 40) := hk
  have HS1 : Hid (Sl w1 (.slice o k cap) (C.take k)) := (HS.out.below B1).cut k hk
  clear hk
  go_wp2_with (first
    | (refine wl_min rfl _ _ rfl n k rfl rfl HKM.out ?_))
  obtain ⟨b, hb⟩ : ∃ b, b = hasL (C.take k) H := ⟨_, rfl⟩
  obtain ⟨y, hy⟩ : ∃ y, y = apartL (C.take k) := ⟨_, rfl⟩
  have D1 : Hid (∀ W, Sl W (.slice o k cap) (C.take k) → Calls Try.prog 10 #[.slice o k cap, .agg (hv H)] W fun e w' => e = .returned (.bool b) ∧ Below W.heap.size W w') := by rw [hb]; exact fun W h => chas_any _ H HH.out (cut_len hk40) _ W h
  have D2 : Hid (∀ W, Sl W (.slice o k cap) (C.take k) → Calls Try.prog 11 #[.slice o k cap, .agg (hv H)] W fun e w' => e = .returned (.bool b) ∧ Below W.heap.size W w') := by rw [hb]; exact fun W h => rchas_any _ H HH.out (cut_len hk40) _ W h
  have D3 : Hid (∀ W, Sl W (.slice o k cap) (C.take k) → Calls Try.prog 12 #[.slice o k cap] W fun e w' => e = .returned (.bool y) ∧ Below W.heap.size W w') := by rw [hy]; exact fun W h => apart_any _ (cut_len hk40) _ W h
  have D4 : Hid (∀ W, Sl W (.slice o k cap) (C.take k) → Calls Try.prog 13 #[.slice o k cap] W fun e w' => e = .returned (.bool y) ∧ Below W.heap.size W w') := by rw [hy]; exact fun W h => rapart_any _ (cut_len hk40) _ W h
  have hbb : (b == b) = true := by simp
  have hyy : (y == y) = true := by simp
  clear hb hy
  have ne1 := Later.ne w1
  refine wp_region_later (by kernel_rfl) (by kernel_rfl) ?_
  go_big_quiet_step (fail)
  refine qlH rfl _ rfl w.heap.size rfl H g0 hHl ?_
  simp only [Act.put, List.setIfInBounds_toArray, List.set_cons_succ, List.set_cons_zero]
  go_big_quiet_want; go_big_quiet_op
  refine ⟨_, fun u => Calls.later_of (D1.out u.world (HS1.out.below u.below)), ?_⟩
  go_big_quiet_on
  go_big_quiet_step (fail)
  refine qlH rfl _ rfl w.heap.size rfl H g0 hHl ?_
  simp only [Act.put, List.setIfInBounds_toArray, List.set_cons_succ, List.set_cons_zero]
  go_big_quiet_want; go_big_quiet_op
  refine ⟨_, fun u => Calls.later_of (D2.out u.world (HS1.out.below u.below)), ?_⟩
  go_big_quiet_on
  go_big_quiet_step (fail)
  go_big_quiet_step (fail)
  go_big_quiet_step (fail)
  go_big_quiet_want; go_big_quiet_op
  refine ⟨_, fun u => Calls.later_of (D3.out u.world (HS1.out.below u.below)), ?_⟩
  go_big_quiet_on
  go_big_quiet_step (fail)
  go_big_quiet_want; go_big_quiet_op
  refine ⟨_, fun u => Calls.later_of (D4.out u.world (HS1.out.below u.below)), ?_⟩
  go_big_quiet_on
  go_big_quiet_step (fail)
  go_big_quiet_step (fail)
  go_big_quiet_step (fail)
  refine wpQuiet_nil ?_
  rintro w' ⟨u, rfl⟩
  go_wp2_with fail
  go_ret
  exact ⟨rfl, B1.trans (u.below.mono B1.size)⟩
end Go.Proofs.Ytjlghkiplapodaa
