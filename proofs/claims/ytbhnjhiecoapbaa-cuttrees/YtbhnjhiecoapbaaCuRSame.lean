import Derived.Test.YtbhnjhiecoapbaaJ22
import Derived.Test.YtbhnjhiecoapbaaJ14
namespace Go.Proofs.Ytbhnjhiecoapbaa
open Go Go.Lib Go.RowKit Ieee
set_option maxRecDepth 20000

set_option maxHeartbeats 16000000 in
set_option maxRecDepth 100000 in
/-- Two lists of leaves that are alike. -/
theorem rsame12_any (C : List LeafM) (hn1 : C.length ≤ 100000) (Ba Bb : Nat) (va vb : Value) (w : World) (ha : LeavesAt Ba w va C) (hb : LeavesAt Bb w vb C) :
    Calls Try.prog 17 #[va, vb] w fun e w' => e = .returned (.bool true) ∧ Below w.heap.size w w' := by
  obtain ⟨oa, capa, rfl, hca, hma⟩ := NSl.slice ha
  obtain ⟨ob, capb, rfl, hcb, hmb⟩ := NSl.slice hb
  obtain ⟨n, hn⟩ : ∃ n, n = C.length := ⟨_, rfl⟩
  rw [← hn] at ha hb hca hcb hn1 ⊢
  have HA : Hid (LeavesAt Ba w (.slice oa n capa) C) := ha
  have HBB : Hid (LeavesAt Bb w (.slice ob n capb) C) := hb
  unfold maxLen at hma hmb
  clear ha hb hn
  go_enter Try.func17, Try.ntmps17
  go_wp2_with fail
  go_loopw [5] (fun i wr => ∃ k : Nat, k ≤ n ∧ i = .int .i64 (k : Int) ∧ Hid (Below w.heap.size w wr)) (fun i _ => n - (intOf i).toNat)
  case atStart => exact ⟨0, Nat.zero_le _, rfl, Below.refl _ _⟩
  case round =>
    obtain ⟨k, hk, rfl, HB⟩ := hrel
    by_cases hlt : k < n
    · have hlt' : (k : Int) < (n : Int) := by omega
      obtain ⟨g, off, cur, ty, fr, x, u, rfl, hg, hc, hxk, hxu⟩ := (NSl.below LfR.below HA.out HB.out).at k hlt
      obtain ⟨g2, off2, cur2, ty2, fr2, x2, u2, rfl, hg2, hc2, hxk2, hxu2⟩ := (NSl.below LfR.below HBB.out HB.out).at k hlt
      obtain rfl : x = x2 := by rw [hxk] at hxk2; exact Option.some.inj hxk2
      obtain ⟨o3, m3, rfl⟩ := hxu.slice
      obtain ⟨o4, m4, rfl⟩ := hxu2.slice
      have hok := hxu.1
      have hVl := hok.1.1
      have hMl := hok.2.1.1
      have SM : Hid (∀ W, Below wr.heap.size wr W → Calls Try.prog 12 #[.slice o3 x.rules.length m3, .slice o4 x.rules.length m4] W fun e w' => e = .returned (.bool true) ∧ Below W.heap.size W w') := fun W hb => rsame8_any x.rules hok.2.2 _ _ W (GSl.below hxu.rules hb) (GSl.below hxu2.rules hb)
      have K1 : Hid (wr.heap[g]? = some (.cells cur ty fr)) := hg
      have K2 : Hid (wr.heap[g2]? = some (.cells cur2 ty2 fr2)) := hg2
      have H1 : Hid (∀ j, j < 26 → cur[off + k * 29 + j]? = (cv x.cube.1 x.cube.2)[j]?) := fun j hj => by
        have h3 := hc j (by show j < 29; omega)
        rw [(leaf_at hok _).1 j hj] at h3
        exact h3
      have H2 : Hid (∀ j, j < 26 → cur2[off2 + k * 29 + j]? = (cv x.cube.1 x.cube.2)[j]?) := fun j hj => by
        have h3 := hc2 j (by show j < 29; omega)
        rw [(leaf_at hok _).1 j hj] at h3
        exact h3
      have a26 : ∀ v : Later wr, v.world.cell? ⟨g, off + k * 29 + 26, none⟩ = some (.int .i64 x.one) := later_cell12 K1.out (by have h3 := hc 26 (by show 26 < 29; omega); rw [(leaf_at hok _).2.1] at h3; exact h3)
      have a27 : ∀ v : Later wr, v.world.cell? ⟨g, off + k * 29 + 27, none⟩ = some (.int .i64 x.two) := later_cell12 K1.out (by have h3 := hc 27 (by show 27 < 29; omega); rw [(leaf_at hok _).2.2.1] at h3; exact h3)
      have a28 : ∀ v : Later wr, v.world.cell? ⟨g, off + k * 29 + 28, none⟩ = some (.slice o3 x.rules.length m3) := later_cell12 K1.out (by have h3 := hc 28 (by show 28 < 29; omega); rw [(leaf_at hok _).2.2.2] at h3; exact h3)
      have b26 : ∀ v : Later wr, v.world.cell? ⟨g2, off2 + k * 29 + 26, none⟩ = some (.int .i64 x.one) := later_cell12 K2.out (by have h3 := hc2 26 (by show 26 < 29; omega); rw [(leaf_at hok _).2.1] at h3; exact h3)
      have b27 : ∀ v : Later wr, v.world.cell? ⟨g2, off2 + k * 29 + 27, none⟩ = some (.int .i64 x.two) := later_cell12 K2.out (by have h3 := hc2 27 (by show 27 < 29; omega); rw [(leaf_at hok _).2.2.1] at h3; exact h3)
      have b28 : ∀ v : Later wr, v.world.cell? ⟨g2, off2 + k * 29 + 28, none⟩ = some (.slice o4 x.rules.length m4) := later_cell12 K2.out (by have h3 := hc2 28 (by show 28 < 29; omega); rw [(leaf_at hok _).2.2.2] at h3; exact h3)
      have E : ∀ W, (Op.equalIn 10000 26 (.agg (cv x.cube.1 x.cube.2)) (.agg (cv x.cube.1 x.cube.2))).run Try.prog W = .ok true W := fun W => by rw [eqC _ _ _ _ hVl hMl hVl hMl]; simp
      have EG : ∀ op p q xs ys w, (eqGuard op 26 p q (.agg xs) (.agg ys)).run Try.prog w = .ok () w := egC
      clear hg hc hg2 hc2 hxk hxk2 hxu hxu2 hok
      go_wp2_with fail
      have ne1 := Later.ne wr
      refine wp_region_later (by kernel_rfl) (by kernel_rfl) ?_
      repeat go_big_quiet_step (fail)
      refine qlCw rfl _ rfl g (off + k * 29) rfl cur ty fr x.cube.1 x.cube.2 hVl hMl (later_block K1.out) H1.out ?_
      simp only [Act.put, List.setIfInBounds_toArray, List.set_cons_succ, List.set_cons_zero]
      repeat go_big_quiet_step (fail)
      refine qlCw rfl _ rfl g2 (off2 + k * 29) rfl cur2 ty2 fr2 x.cube.1 x.cube.2 hVl hMl (later_block K2.out) H2.out ?_
      simp only [Act.put, List.setIfInBounds_toArray, List.set_cons_succ, List.set_cons_zero]
      repeat go_big_quiet_step (fail)
      go_big_quiet_want; go_big_quiet_op
      refine ⟨_, fun u => Calls.later_of (SM.out u.world u.below), ?_⟩
      go_big_quiet_on
      repeat go_big_quiet_step (fail)
      refine wpQuiet_nil ?_
      rintro w1 ⟨v5, rfl⟩
      have hb1 := v5.below
      obtain ⟨w1, hw1⟩ : ∃ w1, w1 = v5.world := ⟨_, rfl⟩
      rw [← hw1] at hb1 ⊢
      have B1 : Hid (Below w.heap.size w w1) := below_stepR HB.out HB.out.size hb1
      clear hb1 hw1 v5 ne1 a26 a27 a28 b26 b27 b28 K1 K2 HB
      go_wp2_with fail
      go_roundw
      case rel => exact ⟨k + 1, by omega, by go_num, B1⟩
      case measure => simp [intOf]; omega
    · have hlt' : ¬ (k : Int) < (n : Int) := by omega
      go_wp2_with fail
      go_ret
      exact ⟨rfl, HB.out⟩
end Go.Proofs.Ytbhnjhiecoapbaa
