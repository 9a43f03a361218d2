import Derived.Test.YtjlghkiplapodaaLess
import Derived.Test.YtjlghkiplapodaaCBase
namespace Go.Proofs.Ytjlghkiplapodaa
open Go Go.RowKit

set_option maxHeartbeats 1000000 in
theorem refLess_any (A B : List Int) (hA : Byt A) (hB : Byt B) (w : World) :
    Calls Try.prog 38 #[.agg (hv A), .agg (hv B)] w fun e w' => e = .returned (.bool (lessL A B)) ∧ Below w.heap.size w w' := by
  go_enter Try.func38, Try.ntmps38
  go_wp2
  go_loopw [5] (fun i wr => ∃ k : Nat, k ≤ 104 ∧ i = .int .i64 k ∧ (∀ j : Nat, j < k → bitB A (j : Int) = bitB B (j : Int)) ∧ wr.heap[w.heap.size]? = some (.cells (hv A) 24 (0, 0)) ∧ wr.heap[w.heap.size + 1]? = some (.cells (hv B) 24 (0, 0)) ∧ Below w.heap.size w wr) (fun i _ => 104 - (intOf i).toNat)
  case atStart => exact ⟨0, Nat.zero_le _, rfl, fun j hj => by omega, heap_past _ _ _ _ (heap_new _ _ _ rfl), heap_new _ _ _ (by simp), ((Below.refl _ _).alloc (Nat.le_refl _) _).alloc (by simp) _⟩
  case round =>
    obtain ⟨k, hk, rfl, hbef, gA, gB, hbw⟩ := hrel
    have hlA := hA.1
    have hlB := hB.1
    have HB : Hid (∀ j : Nat, j < k → bitB A (j : Int) = bitB B (j : Int)) := hbef
    clear hbef
    by_cases hlt : k < 104
    · have ca := refBit_any A hA (k : Int)
      have cb := refBit_any B hB (k : Int)
      obtain ⟨x, hx⟩ : ∃ x, x = bitB A (k : Int) := ⟨_, rfl⟩
      obtain ⟨y, hy⟩ : ∃ y, y = bitB B (k : Int) := ⟨_, rfl⟩
      have HX : Hid (x = bitB A (k : Int)) := hx
      have HY : Hid (y = bitB B (k : Int)) := hy
      rw [← hx] at ca
      rw [← hy] at cb
      have CA : Hid _ := ca
      have CB : Hid _ := cb
      clear hx hy ca cb
      have ne1 := Later.ne wr
      by_cases hne : x = y
      · subst hne
        go_wp2
        refine wp_region_later (by kernel_rfl) (by kernel_rfl) ?_
        refine qlH rfl _ rfl w.heap.size rfl A gA hlA ?_
        simp only [Act.put, List.setIfInBounds_toArray, List.set_cons_succ, List.set_cons_zero]
        go_big_quiet_step (fail)
        go_big_quiet_want; go_big_quiet_op
        refine ⟨_, fun u => Calls.later_of (CA.out u.world), ?_⟩
        go_big_quiet_on
        refine qlH rfl _ rfl (w.heap.size + 1) rfl B gB hlB ?_
        simp only [Act.put, List.setIfInBounds_toArray, List.set_cons_succ, List.set_cons_zero]
        go_big_quiet_step (fail)
        go_big_quiet_want; go_big_quiet_op
        refine ⟨_, fun u => Calls.later_of (CB.out u.world), ?_⟩
        go_big_quiet_on
        repeat go_big_quiet_step (fail)
        refine wpQuiet_nil ?_
        rintro w' ⟨u, rfl⟩
        go_wp2
        go_roundw
        case rel =>
          refine ⟨k + 1, by omega, by go_num, fun j hj => ?_, later_block gA _ ⟨u, rfl⟩, later_block gB _ ⟨u, rfl⟩, hbw.trans (u.below.mono hbw.size)⟩
          by_cases e : j = k
          · subst e; rw [← HX.out, ← HY.out]
          · exact HB.out j (by omega)
        case measure => simp [intOf]; omega
      · have HN : Hid (¬ x = y) := hne
        rcases (show (x = true ∧ y = false) ∨ (x = false ∧ y = true) by cases x <;> cases y <;> simp_all) with ⟨e1, e2⟩ | ⟨e1, e2⟩
        all_goals
          subst e1 e2
          clear hne
          go_wp2
          refine wp_region_later (by kernel_rfl) (by kernel_rfl) ?_
          refine qlH rfl _ rfl w.heap.size rfl A gA hlA ?_
          simp only [Act.put, List.setIfInBounds_toArray, List.set_cons_succ, List.set_cons_zero]
          go_big_quiet_step (fail)
          go_big_quiet_want; go_big_quiet_op
          refine ⟨_, fun u => Calls.later_of (CA.out u.world), ?_⟩
          go_big_quiet_on
          refine qlH rfl _ rfl (w.heap.size + 1) rfl B gB hlB ?_
          simp only [Act.put, List.setIfInBounds_toArray, List.set_cons_succ, List.set_cons_zero]
          go_big_quiet_step (fail)
          go_big_quiet_want; go_big_quiet_op
          refine ⟨_, fun u => Calls.later_of (CB.out u.world), ?_⟩
          go_big_quiet_on
          repeat go_big_quiet_step (fail)
          refine wpQuiet_nil ?_
          rintro w' ⟨u, rfl⟩
          have gB2 := later_block gB _ ⟨u, rfl⟩
          go_wp2_with (refine wl_load26 rfl _ rfl (w.heap.size + 1) rfl B gB2 hlB ?_)
          refine (CB.out u.world).mono ?_
          rintro e w2 ⟨rfl, hb2⟩
          go_wp2_with fail
          go_ret
          have hW : Below w.heap.size w u.world := hbw.trans (u.below.mono hbw.size)
          refine ⟨ret_bool ?_, hW.trans (hb2.mono hW.size)⟩
          have hn := HN.out
          rw [HX.out, HY.out] at hn
          rw [HY.out, less_bit A B hA hB k hlt HB.out hn]
    · obtain rfl : k = 104 := by omega
      go_wp2
      go_ret
      exact ⟨ret_bool (less_end A B hA.1 hB.1 fun j hj => bytes_before A B hA hB 104 (by omega) HB.out j (by omega)).symm, hbw⟩
end Go.Proofs.Ytjlghkiplapodaa
