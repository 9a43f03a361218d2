import Derived.Test.YtjlghkiplapodaaSl
namespace Go.Proofs.Ytjlghkiplapodaa
open Go Go.RowKit

set_option maxHeartbeats 2000000 in
theorem sameSl_any (C : List (List Int × List Int)) (hn : C.length ≤ 1000000) (va vb : Value) (w : World) (ha : Sl w va C) (hb : Sl w vb C) :
    Calls Try.prog 17 #[va, vb] w fun e w' => e = .returned (.bool true) ∧ Below w.heap.size w w' := by
  obtain ⟨oa, ca, rfl, _, _⟩ := ha.slice
  obtain ⟨ob, cb, rfl, _, _⟩ := hb.slice
  obtain ⟨n, hne⟩ : ∃ n, n = C.length := ⟨_, rfl⟩
  rw [← hne] at ha hb hn ⊢
  have HA : Hid (Sl w (.slice oa n ca) C) := ha
  have HB : Hid (Sl w (.slice ob n cb) C) := hb
  have HN : Hid (n = C.length) := hne
  have eg : ∀ op x y (xs ys : Array Value) w, (eqGuard op 30 x y (.agg xs) (.agg ys)).run Try.prog w = .ok () w := egC
  clear ha hb hne
  go_enter Try.func17, Try.ntmps17
  go_wp2_with fail
  go_loopw [5] (fun i wr => ∃ k : Nat, k ≤ n ∧ i = .int .i64 k ∧ Below w.heap.size w wr) (fun i _ => n - (intOf i).toNat)
  case atStart => exact ⟨0, Nat.zero_le _, rfl, Below.refl _ _⟩
  case round =>
    obtain ⟨k, hk, rfl, hbw⟩ := hrel
    by_cases hlt : k < n
    · obtain ⟨ga, oa2, cura, ta, fa, U, N, rfl, hga, hca, hC1, hU, hN⟩ := HA.out.at k hlt
      obtain ⟨gb, ob2, curb, tb, fb, U', N', rfl, hgb, hcb, hC2, hU', hN'⟩ := HB.out.at k hlt
      rw [hC1] at hC2
      simp only [Option.some.injEq, Prod.mk.injEq] at hC2
      obtain ⟨rfl, rfl⟩ := hC2
      have hUl : U.length = 13 := hU.1
      have hNl : N.length = 13 := hN.1
      have e1 : ∀ w, (Op.equalIn 10000 30 (.agg (cv U N)) (.agg (cv U N))).run Try.prog w = .ok true w := fun w => by rw [eqC _ _ _ _ hUl hNl hUl hNl]; simp
      have hga' : wr.heap[ga]? = some (.cells cura ta fa) := (hbw.block ga (Array.getElem?_eq_some_iff.1 hga).1).trans hga
      have hgb' : wr.heap[gb]? = some (.cells curb tb fb) := (hbw.block gb (Array.getElem?_eq_some_iff.1 hgb).1).trans hgb
      have HCA : Hid (∀ j, j < 26 → cura[oa2 + k * 26 + j]? = (cv U N)[j]?) := hca
      have HCB : Hid (∀ j, j < 26 → curb[ob2 + k * 26 + j]? = (cv U N)[j]?) := hcb
      clear hC1 hU hN hU' hN' hga hgb hca hcb
      go_wp2_with fail
      have ne1 := Later.ne wr
      refine wp_region_later (by kernel_rfl) (by kernel_rfl) ?_
      go_big_quiet_step (fail)
      go_big_quiet_step (fail)
      go_big_quiet_step (fail)
      refine qlSl rfl _ rfl ga (oa2 + k * 26) rfl cura ta fa U N hUl hNl hga' HCA.out ?_
      simp only [Act.put, List.setIfInBounds_toArray, List.set_cons_succ, List.set_cons_zero]
      go_big_quiet_step (fail)
      go_big_quiet_step (fail)
      go_big_quiet_step (fail)
      refine qlSl rfl _ rfl gb (ob2 + k * 26) rfl curb tb fb U N hUl hNl hgb' HCB.out ?_
      simp only [Act.put, List.setIfInBounds_toArray, List.set_cons_succ, List.set_cons_zero]
      go_big_quiet_step (fail)
      refine wpQuiet_nil ?_
      rintro w' ⟨u, rfl⟩
      go_wp2_with fail
      go_roundw
      case rel => exact ⟨k + 1, by omega, by go_num, hbw.trans (u.below.mono hbw.size)⟩
      case measure => simp [intOf]; omega
    · obtain rfl : k = n := by omega
      go_wp2_with fail
      go_ret
      exact ⟨rfl, hbw⟩
end Go.Proofs.Ytjlghkiplapodaa
