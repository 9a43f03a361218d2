import Derived.Test.YtfamnloobmdhdaaDoorJ20
import Derived.Test.YtfamnloobmdhdaaDoorJ17
namespace Go.Proofs.YtfamnloobmdhdaaDoor
open Go Go.RowKit
set_option maxRecDepth 20000

set_option maxHeartbeats 16000000 in
set_option maxRecDepth 100000 in
theorem rapplies_any (x : Ent) (hx : ent32 x) (L : List Int) (hL : Byt L) (w : World) :
    Calls Tryd.prog 17 #[.agg (entV x), .agg (hv L)] w fun e w' => e = .returned (.bool (applyT L x)) ∧ Below w.heap.size w w' := by
  have hl := hL.1
  obtain ⟨Wa, hWa⟩ : ∃ Wa, Wa = (w.alloc (.cells (entV x) 35)).alloc (.cells (hv L) 37) := ⟨_, rfl⟩
  have b1 : Wa.heap[w.heap.size]? = some (.cells (entV x) 35 (0, 0)) := by rw [hWa]; exact heap_past _ _ _ _ (heap_new _ _ _ rfl)
  have b2 : Wa.heap[w.heap.size + 1]? = some (.cells (hv L) 37 (0, 0)) := by rw [hWa]; exact heap_new _ _ _ (by simp)
  have HBA : Hid (Below w.heap.size w Wa) := by rw [hWa]; exact below2 _ _ _
  have d0 := (ent_f b1).1
  rw [hWa] at d0
  cases hd : x.dflt with
  | true =>
    rw [hd] at d0
    rw [show applyT L x = true by unfold applyT; rw [hd]; rfl]
    rw [hWa] at HBA
    clear b1 b2 hWa
    go_enter Tryd.func17, Tryd.ntmps17
    go_wp2_with fail
    go_ret
    exact ⟨rfl, HBA.out⟩
  | false =>
    rw [hd] at d0
    rw [show applyT L x = applyR L x by unfold applyT; rw [hd]; rfl]
    have FD0 : Hid (∀ W, Calls Tryd.prog 36 #[.agg (hv L), .int .i64 0] W fun e w' => e = .returned (.int .i64 (fldN L 0)) ∧ Below W.heap.size W w') := fun W => number7_any L hL 0 (by decide) (by decide) W
    have fb0 := fldN_bd L hL 0 (by decide) (by decide)
    have FD1 : Hid (∀ W, Calls Tryd.prog 36 #[.agg (hv L), .int .i64 1] W fun e w' => e = .returned (.int .i64 (fldN L 1)) ∧ Below W.heap.size W w') := fun W => number7_any L hL 1 (by decide) (by decide) W
    have fb1 := fldN_bd L hL 1 (by decide) (by decide)
    have FD2 : Hid (∀ W, Calls Tryd.prog 36 #[.agg (hv L), .int .i64 2] W fun e w' => e = .returned (.int .i64 (fldN L 2)) ∧ Below W.heap.size W w') := fun W => number7_any L hL 2 (by decide) (by decide) W
    have fb2 := fldN_bd L hL 2 (by decide) (by decide)
    have FD3 : Hid (∀ W, Calls Tryd.prog 36 #[.agg (hv L), .int .i64 3] W fun e w' => e = .returned (.int .i64 (fldN L 3)) ∧ Below W.heap.size W w') := fun W => number7_any L hL 3 (by decide) (by decide) W
    have fb3 := fldN_bd L hL 3 (by decide) (by decide)
    have FD4 : Hid (∀ W, Calls Tryd.prog 36 #[.agg (hv L), .int .i64 4] W fun e w' => e = .returned (.int .i64 (fldN L 4)) ∧ Below W.heap.size W w') := fun W => number7_any L hL 4 (by decide) (by decide) W
    have fb4 := fldN_bd L hL 4 (by decide) (by decide)
    have HR : Hid (applyR L x = (beginsM (fldN L 0) x.src x.srcBits && beginsM (fldN L 1) x.dst x.dstBits && (decide (x.slow ≤ fldN L 2) && decide (fldN L 2 ≤ x.shigh)) && (decide (x.dlow ≤ fldN L 3) && decide (fldN L 3 ≤ x.dhigh)) && (x.proto == -1 || x.proto == fldN L 4))) := rfl
    obtain ⟨F0, hF0⟩ : ∃ F, F = fldN L 0 := ⟨_, rfl⟩
    rw [← hF0] at FD0 fb0 HR
    clear hF0
    obtain ⟨F1, hF1⟩ : ∃ F, F = fldN L 1 := ⟨_, rfl⟩
    rw [← hF1] at FD1 fb1 HR
    clear hF1
    obtain ⟨F2, hF2⟩ : ∃ F, F = fldN L 2 := ⟨_, rfl⟩
    rw [← hF2] at FD2 fb2 HR
    clear hF2
    obtain ⟨F3, hF3⟩ : ∃ F, F = fldN L 3 := ⟨_, rfl⟩
    rw [← hF3] at FD3 fb3 HR
    clear hF3
    obtain ⟨F4, hF4⟩ : ∃ F, F = fldN L 4 := ⟨_, rfl⟩
    rw [← hF4] at FD4 fb4 HR
    clear hF4
    have BG1 : Hid (∀ W, Calls Tryd.prog 35 #[.int .u32 F0, .int .u32 x.src, .int .i64 x.srcBits] W fun e w' => e = .returned (.bool (beginsM F0 x.src x.srcBits)) ∧ Below W.heap.size W w') := refBegins_any _ _ _ fb0 hx.1
    have BG2 : Hid (∀ W, Calls Tryd.prog 35 #[.int .u32 F1, .int .u32 x.dst, .int .i64 x.dstBits] W fun e w' => e = .returned (.bool (beginsM F1 x.dst x.dstBits)) ∧ Below W.heap.size W w') := refBegins_any _ _ _ fb1 hx.2
    have p01 := fb0.1
    have p02 := fb0.2
    have p11 := fb1.1
    have p12 := fb1.2
    obtain ⟨c1, hc1⟩ : ∃ c, c = beginsM F0 x.src x.srcBits := ⟨_, rfl⟩
    obtain ⟨c2, hc2⟩ : ∃ c, c = beginsM F1 x.dst x.dstBits := ⟨_, rfl⟩
    rw [← hc1] at BG1 HR
    rw [← hc2] at BG2 HR
    clear hc1 hc2 fb0 fb1 fb2 fb3 fb4 hx hd
    have l2 : ∀ u : Later Wa, u.world.cell? ⟨w.heap.size, 2, none⟩ = some (.int .u32 x.src) := later_cell7 b1 rfl
    have l3 : ∀ u : Later Wa, u.world.cell? ⟨w.heap.size, 3, none⟩ = some (.int .i64 x.srcBits) := later_cell7 b1 rfl
    have l4 : ∀ u : Later Wa, u.world.cell? ⟨w.heap.size, 4, none⟩ = some (.int .u32 x.dst) := later_cell7 b1 rfl
    have l5 : ∀ u : Later Wa, u.world.cell? ⟨w.heap.size, 5, none⟩ = some (.int .i64 x.dstBits) := later_cell7 b1 rfl
    have ne1 := Later.ne Wa
    cases c1 with
    | false =>
      rw [hWa] at HBA
      go_enter Tryd.func17, Tryd.ntmps17
      go_wp2_with fail
      rw [← hWa]
      rw [← hWa] at HBA
      refine wp_region_later (by kernel_rfl) (by kernel_rfl) ?_
      refine qlH rfl _ rfl (w.heap.size + 1) rfl L b2 hl ?_
      simp only [Act.put, List.setIfInBounds_toArray, List.set_cons_succ, List.set_cons_zero]
      go_big_quiet_want; go_big_quiet_op
      refine ⟨_, fun u => Calls.later_of (FD0.out u.world), ?_⟩
      go_big_quiet_on
      go_big_quiet_step (rfl)
      go_big_quiet_step (rfl)
      go_big_quiet_step (rfl)
      go_big_quiet_step (rfl)
      go_big_quiet_step (rfl)
      go_big_quiet_want; go_big_quiet_op
      refine ⟨_, fun u => Calls.later_of (BG1.out u.world), ?_⟩
      go_big_quiet_on
      go_big_quiet_step (rfl)
      go_big_quiet_step (rfl)
      go_big_quiet_step (rfl)
      go_big_quiet_step (rfl)
      go_big_quiet_step (rfl)
      go_big_quiet_step (rfl)
      go_big_quiet_step (rfl)
      go_big_quiet_step (rfl)
      go_big_quiet_step (rfl)
      go_big_quiet_step (rfl)
      go_big_quiet_step (rfl)
      go_big_quiet_step (rfl)
      refine wpQuiet_nil ?_
      rintro w' ⟨v, rfl⟩
      go_wp2_with fail
      go_ret
      rw [HR.out]
      exact ⟨by simp, HBA.out.trans (v.below.mono HBA.out.size)⟩
    | true =>
      cases c2 with
      | false =>
        rw [hWa] at HBA
        go_enter Tryd.func17, Tryd.ntmps17
        go_wp2_with fail
        rw [← hWa]
        rw [← hWa] at HBA
        refine wp_region_later (by kernel_rfl) (by kernel_rfl) ?_
        refine qlH rfl _ rfl (w.heap.size + 1) rfl L b2 hl ?_
        simp only [Act.put, List.setIfInBounds_toArray, List.set_cons_succ, List.set_cons_zero]
        go_big_quiet_want; go_big_quiet_op
        refine ⟨_, fun u => Calls.later_of (FD0.out u.world), ?_⟩
        go_big_quiet_on
        go_big_quiet_step (rfl)
        go_big_quiet_step (rfl)
        go_big_quiet_step (rfl)
        go_big_quiet_step (rfl)
        go_big_quiet_step (rfl)
        go_big_quiet_want; go_big_quiet_op
        refine ⟨_, fun u => Calls.later_of (BG1.out u.world), ?_⟩
        go_big_quiet_on
        go_big_quiet_step (rfl)
        go_big_quiet_step (rfl)
        refine qlH rfl _ rfl (w.heap.size + 1) rfl L b2 hl ?_
        simp only [Act.put, List.setIfInBounds_toArray, List.set_cons_succ, List.set_cons_zero]
        go_big_quiet_want; go_big_quiet_op
        refine ⟨_, fun u => Calls.later_of (FD1.out u.world), ?_⟩
        go_big_quiet_on
        go_big_quiet_step (rfl)
        go_big_quiet_step (rfl)
        go_big_quiet_step (rfl)
        go_big_quiet_step (rfl)
        go_big_quiet_step (rfl)
        go_big_quiet_want; go_big_quiet_op
        refine ⟨_, fun u => Calls.later_of (BG2.out u.world), ?_⟩
        go_big_quiet_on
        go_big_quiet_step (rfl)
        go_big_quiet_step (rfl)
        refine wpQuiet_nil ?_
        rintro w' ⟨v, rfl⟩
        go_wp2_with fail
        go_ret
        rw [HR.out]
        exact ⟨by simp, HBA.out.trans (v.below.mono HBA.out.size)⟩
      | true =>
        rw [hWa] at HBA
        go_enter Tryd.func17, Tryd.ntmps17
        go_wp2_with fail
        rw [← hWa]
        rw [← hWa] at HBA
        refine wp_region_later (by kernel_rfl) (by kernel_rfl) ?_
        refine qlH rfl _ rfl (w.heap.size + 1) rfl L b2 hl ?_
        simp only [Act.put, List.setIfInBounds_toArray, List.set_cons_succ, List.set_cons_zero]
        go_big_quiet_want; go_big_quiet_op
        refine ⟨_, fun u => Calls.later_of (FD0.out u.world), ?_⟩
        go_big_quiet_on
        go_big_quiet_step (rfl)
        go_big_quiet_step (rfl)
        go_big_quiet_step (rfl)
        go_big_quiet_step (rfl)
        go_big_quiet_step (rfl)
        go_big_quiet_want; go_big_quiet_op
        refine ⟨_, fun u => Calls.later_of (BG1.out u.world), ?_⟩
        go_big_quiet_on
        go_big_quiet_step (rfl)
        go_big_quiet_step (rfl)
        refine qlH rfl _ rfl (w.heap.size + 1) rfl L b2 hl ?_
        simp only [Act.put, List.setIfInBounds_toArray, List.set_cons_succ, List.set_cons_zero]
        go_big_quiet_want; go_big_quiet_op
        refine ⟨_, fun u => Calls.later_of (FD1.out u.world), ?_⟩
        go_big_quiet_on
        go_big_quiet_step (rfl)
        go_big_quiet_step (rfl)
        go_big_quiet_step (rfl)
        go_big_quiet_step (rfl)
        go_big_quiet_step (rfl)
        go_big_quiet_want; go_big_quiet_op
        refine ⟨_, fun u => Calls.later_of (BG2.out u.world), ?_⟩
        go_big_quiet_on
        go_big_quiet_step (rfl)
        go_big_quiet_step (rfl)
        refine wpQuiet_nil ?_
        rintro w' ⟨v, rfl⟩
        have k1 := later_block b1 _ ⟨v, rfl⟩
        have k2 : Hid (v.world.heap[w.heap.size + 1]? = some (.cells (hv L) 37 (0, 0))) := later_block b2 _ ⟨v, rfl⟩
        have K1 : Hid (v.world.heap[w.heap.size]? = some (.cells (entV x) 35 (0, 0))) := k1
        have BV : Hid (Below w.heap.size w v.world) := HBA.out.trans (v.below.mono HBA.out.size)
        obtain ⟨W1, hW1⟩ : ∃ W1, W1 = v.world := ⟨_, rfl⟩
        rw [← hW1] at k2 K1 BV ⊢
        clear hW1 l2 l3 l4 l5 ne1 b1 b2 hWa HBA k1
        go_wp2_with (refine wl_load26 rfl _ rfl (w.heap.size + 1) rfl L k2.out hl ?_)
        refine (FD2.out _).mono ?_
        rintro e w2 ⟨rfl, hb2⟩
        have z2 : w.heap.size + 1 < W1.heap.size := (Array.getElem?_eq_some_iff.1 k2.out).1
        have k3 : Hid (w2.heap[w.heap.size + 1]? = some (.cells (hv L) 37 (0, 0))) := (hb2.block _ z2).trans k2.out
        have K3 : Hid (w2.heap[w.heap.size]? = some (.cells (entV x) 35 (0, 0))) := (hb2.block _ (by omega)).trans K1.out
        have BW2 : Hid (Below w.heap.size w w2) := BV.out.trans (hb2.mono BV.out.size)
        have z3 : w.heap.size + 1 < w2.heap.size := (Array.getElem?_eq_some_iff.1 k3.out).1
        clear hb2 z2
        go_wp2_with (refine wl_load26 rfl _ rfl (w.heap.size + 1) rfl L k3.out hl ?_)
        refine (FD3.out _).mono ?_
        rintro e w4 ⟨rfl, hb4⟩
        have b5 : w4.heap[w.heap.size + 1]? = some (.cells (hv L) 37 (0, 0)) := (hb4.block _ z3).trans k3.out
        have b4 : w4.heap[w.heap.size]? = some (.cells (entV x) 35 (0, 0)) := (hb4.block _ (by omega)).trans K3.out
        have BW4 : Hid (Below w.heap.size w w4) := BW2.out.trans (hb4.mono BW2.out.size)
        clear hb4 z3
        have l6 : ∀ u : Later w4, u.world.cell? ⟨w.heap.size, 6, none⟩ = some (.int .i64 x.slow) := later_cell7 b4 rfl
        have l7 : ∀ u : Later w4, u.world.cell? ⟨w.heap.size, 7, none⟩ = some (.int .i64 x.shigh) := later_cell7 b4 rfl
        have l8 : ∀ u : Later w4, u.world.cell? ⟨w.heap.size, 8, none⟩ = some (.int .i64 x.dlow) := later_cell7 b4 rfl
        have l9 : ∀ u : Later w4, u.world.cell? ⟨w.heap.size, 9, none⟩ = some (.int .i64 x.dhigh) := later_cell7 b4 rfl
        have l10 : ∀ u : Later w4, u.world.cell? ⟨w.heap.size, 10, none⟩ = some (.int .i64 x.proto) := later_cell7 b4 rfl
        have ne1 := Later.ne w4
        by_cases q1 : x.slow ≤ F2
        · have q1t : decide (x.slow ≤ F2) = true := decide_eq_true q1
          by_cases q2 : F2 ≤ x.shigh
          · have q2t : decide (F2 ≤ x.shigh) = true := decide_eq_true q2
            by_cases q3 : x.dlow ≤ F3
            · have q3t : decide (x.dlow ≤ F3) = true := decide_eq_true q3
              by_cases q4 : F3 ≤ x.dhigh
              · have q4t : decide (F3 ≤ x.dhigh) = true := decide_eq_true q4
                by_cases p1 : x.proto = -1
                · have p1' : (x.proto == -1) = true := by simp [p1]
                  have P1 : Hid (x.proto = -1) := p1
                  clear p1
                  go_wp2_with fail
                  refine wp_region_later (by kernel_rfl) (by kernel_rfl) ?_
                  go_big_quiet_step (rfl)
                  go_big_quiet_step (rfl)
                  go_big_quiet_step (rfl)
                  go_big_quiet_step (rfl)
                  go_big_quiet_step (rfl)
                  go_big_quiet_step (rfl)
                  go_big_quiet_step (rfl)
                  go_big_quiet_step (rfl)
                  go_big_quiet_step (rfl)
                  go_big_quiet_step (rfl)
                  go_big_quiet_step (rfl)
                  go_big_quiet_step (rfl)
                  go_big_quiet_step (rfl)
                  go_big_quiet_step (rfl)
                  go_big_quiet_step (rfl)
                  go_big_quiet_step (rfl)
                  go_big_quiet_step (rfl)
                  go_big_quiet_step (rfl)
                  go_big_quiet_step (rfl)
                  go_big_quiet_step (rfl)
                  go_big_quiet_step (rfl)
                  go_big_quiet_step (rfl)
                  go_big_quiet_step (rfl)
                  go_big_quiet_step (rfl)
                  go_big_quiet_step (rfl)
                  go_big_quiet_step (rfl)
                  go_big_quiet_step (rfl)
                  go_big_quiet_step (rfl)
                  go_big_quiet_step (rfl)
                  go_big_quiet_step (rfl)
                  go_big_quiet_step (rfl)
                  go_big_quiet_step (rfl)
                  go_big_quiet_step (rfl)
                  go_big_quiet_step (rfl)
                  go_big_quiet_step (rfl)
                  refine wpQuiet_nil ?_
                  rintro w' ⟨v, rfl⟩
                  go_wp2_with fail
                  go_ret
                  rw [HR.out]
                  refine ⟨?_, BW4.out.trans (v.below.mono BW4.out.size)⟩
                  rw [q1t, q2t, q3t, q4t, P1.out]
                  rfl
                · have p1' : (x.proto == -1) = false := by simp [p1]
                  have P1 : Hid ((x.proto == -1) = false) := p1'
                  clear p1
                  go_wp2_with fail
                  refine wp_region_later (by kernel_rfl) (by kernel_rfl) ?_
                  go_big_quiet_step (rfl)
                  go_big_quiet_step (rfl)
                  go_big_quiet_step (rfl)
                  go_big_quiet_step (rfl)
                  go_big_quiet_step (rfl)
                  go_big_quiet_step (rfl)
                  go_big_quiet_step (rfl)
                  go_big_quiet_step (rfl)
                  go_big_quiet_step (rfl)
                  go_big_quiet_step (rfl)
                  go_big_quiet_step (rfl)
                  go_big_quiet_step (rfl)
                  go_big_quiet_step (rfl)
                  go_big_quiet_step (rfl)
                  go_big_quiet_step (rfl)
                  go_big_quiet_step (rfl)
                  go_big_quiet_step (rfl)
                  go_big_quiet_step (rfl)
                  go_big_quiet_step (rfl)
                  go_big_quiet_step (rfl)
                  go_big_quiet_step (rfl)
                  go_big_quiet_step (rfl)
                  go_big_quiet_step (rfl)
                  go_big_quiet_step (rfl)
                  go_big_quiet_step (rfl)
                  go_big_quiet_step (rfl)
                  go_big_quiet_step (rfl)
                  go_big_quiet_step (rfl)
                  go_big_quiet_step (rfl)
                  refine qlH rfl _ rfl (w.heap.size + 1) rfl L b5 hl ?_
                  simp only [Act.put, List.setIfInBounds_toArray, List.set_cons_succ, List.set_cons_zero]
                  go_big_quiet_want; go_big_quiet_op
                  refine ⟨_, fun u => Calls.later_of (FD4.out u.world), ?_⟩
                  go_big_quiet_on
                  go_big_quiet_step (rfl)
                  go_big_quiet_step (rfl)
                  go_big_quiet_step (rfl)
                  go_big_quiet_step (rfl)
                  refine wpQuiet_nil ?_
                  rintro w' ⟨v, rfl⟩
                  go_wp2_with fail
                  go_ret
                  rw [HR.out]
                  refine ⟨?_, BW4.out.trans (v.below.mono BW4.out.size)⟩
                  rw [q1t, q2t, q3t, q4t, P1.out]
                  simp
              · have q4f : decide (F3 ≤ x.dhigh) = false := decide_eq_false q4
                go_wp2_with fail
                refine wp_region_later (by kernel_rfl) (by kernel_rfl) ?_
                go_big_quiet_step (rfl)
                go_big_quiet_step (rfl)
                go_big_quiet_step (rfl)
                go_big_quiet_step (rfl)
                go_big_quiet_step (rfl)
                go_big_quiet_step (rfl)
                go_big_quiet_step (rfl)
                go_big_quiet_step (rfl)
                go_big_quiet_step (rfl)
                go_big_quiet_step (rfl)
                go_big_quiet_step (rfl)
                go_big_quiet_step (rfl)
                go_big_quiet_step (rfl)
                go_big_quiet_step (rfl)
                go_big_quiet_step (rfl)
                go_big_quiet_step (rfl)
                go_big_quiet_step (rfl)
                go_big_quiet_step (rfl)
                go_big_quiet_step (rfl)
                go_big_quiet_step (rfl)
                go_big_quiet_step (rfl)
                go_big_quiet_step (rfl)
                go_big_quiet_step (rfl)
                go_big_quiet_step (rfl)
                go_big_quiet_step (rfl)
                go_big_quiet_step (rfl)
                go_big_quiet_step (rfl)
                go_big_quiet_step (rfl)
                go_big_quiet_step (rfl)
                go_big_quiet_step (rfl)
                go_big_quiet_step (rfl)
                go_big_quiet_step (rfl)
                go_big_quiet_step (rfl)
                go_big_quiet_step (rfl)
                go_big_quiet_step (rfl)
                refine wpQuiet_nil ?_
                rintro w' ⟨v, rfl⟩
                go_wp2_with fail
                go_ret
                rw [HR.out]
                refine ⟨?_, BW4.out.trans (v.below.mono BW4.out.size)⟩
                rw [q4f]
                simp
            · have q3f : decide (x.dlow ≤ F3) = false := decide_eq_false q3
              go_wp2_with fail
              refine wp_region_later (by kernel_rfl) (by kernel_rfl) ?_
              go_big_quiet_step (rfl)
              go_big_quiet_step (rfl)
              go_big_quiet_step (rfl)
              go_big_quiet_step (rfl)
              go_big_quiet_step (rfl)
              go_big_quiet_step (rfl)
              go_big_quiet_step (rfl)
              go_big_quiet_step (rfl)
              go_big_quiet_step (rfl)
              go_big_quiet_step (rfl)
              go_big_quiet_step (rfl)
              go_big_quiet_step (rfl)
              go_big_quiet_step (rfl)
              go_big_quiet_step (rfl)
              go_big_quiet_step (rfl)
              go_big_quiet_step (rfl)
              go_big_quiet_step (rfl)
              go_big_quiet_step (rfl)
              go_big_quiet_step (rfl)
              go_big_quiet_step (rfl)
              go_big_quiet_step (rfl)
              go_big_quiet_step (rfl)
              go_big_quiet_step (rfl)
              go_big_quiet_step (rfl)
              go_big_quiet_step (rfl)
              go_big_quiet_step (rfl)
              go_big_quiet_step (rfl)
              go_big_quiet_step (rfl)
              go_big_quiet_step (rfl)
              go_big_quiet_step (rfl)
              go_big_quiet_step (rfl)
              go_big_quiet_step (rfl)
              go_big_quiet_step (rfl)
              go_big_quiet_step (rfl)
              go_big_quiet_step (rfl)
              refine wpQuiet_nil ?_
              rintro w' ⟨v, rfl⟩
              go_wp2_with fail
              go_ret
              rw [HR.out]
              refine ⟨?_, BW4.out.trans (v.below.mono BW4.out.size)⟩
              rw [q3f]
              simp
          · have q2f : decide (F2 ≤ x.shigh) = false := decide_eq_false q2
            go_wp2_with fail
            refine wp_region_later (by kernel_rfl) (by kernel_rfl) ?_
            go_big_quiet_step (rfl)
            go_big_quiet_step (rfl)
            go_big_quiet_step (rfl)
            go_big_quiet_step (rfl)
            go_big_quiet_step (rfl)
            go_big_quiet_step (rfl)
            go_big_quiet_step (rfl)
            go_big_quiet_step (rfl)
            go_big_quiet_step (rfl)
            go_big_quiet_step (rfl)
            go_big_quiet_step (rfl)
            go_big_quiet_step (rfl)
            go_big_quiet_step (rfl)
            go_big_quiet_step (rfl)
            go_big_quiet_step (rfl)
            go_big_quiet_step (rfl)
            go_big_quiet_step (rfl)
            go_big_quiet_step (rfl)
            go_big_quiet_step (rfl)
            go_big_quiet_step (rfl)
            go_big_quiet_step (rfl)
            go_big_quiet_step (rfl)
            go_big_quiet_step (rfl)
            go_big_quiet_step (rfl)
            go_big_quiet_step (rfl)
            go_big_quiet_step (rfl)
            go_big_quiet_step (rfl)
            go_big_quiet_step (rfl)
            go_big_quiet_step (rfl)
            go_big_quiet_step (rfl)
            go_big_quiet_step (rfl)
            go_big_quiet_step (rfl)
            go_big_quiet_step (rfl)
            go_big_quiet_step (rfl)
            go_big_quiet_step (rfl)
            refine wpQuiet_nil ?_
            rintro w' ⟨v, rfl⟩
            go_wp2_with fail
            go_ret
            rw [HR.out]
            refine ⟨?_, BW4.out.trans (v.below.mono BW4.out.size)⟩
            rw [q2f]
            simp
        · have q1f : decide (x.slow ≤ F2) = false := decide_eq_false q1
          go_wp2_with fail
          refine wp_region_later (by kernel_rfl) (by kernel_rfl) ?_
          go_big_quiet_step (rfl)
          go_big_quiet_step (rfl)
          go_big_quiet_step (rfl)
          go_big_quiet_step (rfl)
          go_big_quiet_step (rfl)
          go_big_quiet_step (rfl)
          go_big_quiet_step (rfl)
          go_big_quiet_step (rfl)
          go_big_quiet_step (rfl)
          go_big_quiet_step (rfl)
          go_big_quiet_step (rfl)
          go_big_quiet_step (rfl)
          go_big_quiet_step (rfl)
          go_big_quiet_step (rfl)
          go_big_quiet_step (rfl)
          go_big_quiet_step (rfl)
          go_big_quiet_step (rfl)
          go_big_quiet_step (rfl)
          go_big_quiet_step (rfl)
          go_big_quiet_step (rfl)
          go_big_quiet_step (rfl)
          go_big_quiet_step (rfl)
          go_big_quiet_step (rfl)
          go_big_quiet_step (rfl)
          go_big_quiet_step (rfl)
          go_big_quiet_step (rfl)
          go_big_quiet_step (rfl)
          go_big_quiet_step (rfl)
          go_big_quiet_step (rfl)
          go_big_quiet_step (rfl)
          go_big_quiet_step (rfl)
          go_big_quiet_step (rfl)
          go_big_quiet_step (rfl)
          go_big_quiet_step (rfl)
          go_big_quiet_step (rfl)
          refine wpQuiet_nil ?_
          rintro w' ⟨v, rfl⟩
          go_wp2_with fail
          go_ret
          rw [HR.out]
          refine ⟨?_, BW4.out.trans (v.below.mono BW4.out.size)⟩
          rw [q1f]
          simp

set_option maxHeartbeats 4000000 in
theorem lawSApplies_any (x : Ent) (hx : ent32 x) (L : List Int) (hL : Byt L) (w : World) (hP : Places w) :
    Calls Tryd.prog 5 #[.agg (entV x), .agg (hv L)] w fun e w' => e = .returned (.bool true) ∧ Below w.heap.size w w' := by
  have hl := hL.1
  have hp := hP.pos
  have AW : Hid (∀ W, Below w.heap.size w W → Calls Tryd.prog 9 #[] W fun e w' => e = .returned (.bool true) ∧ Below W.heap.size W w') := fun W hb => awake7_any W (hP.later hp hb)
  have AP : Hid (∀ W, Below w.heap.size w W → Calls Tryd.prog 16 #[.agg (entV x), .agg (hv L)] W fun e w' => e = .returned (.bool (applyT L x)) ∧ Below W.heap.size W w') := fun W hb => applies_any x hx L hL W (hP.later hp hb)
  have RA : Hid (∀ W, Calls Tryd.prog 17 #[.agg (entV x), .agg (hv L)] W fun e w' => e = .returned (.bool (applyT L x)) ∧ Below W.heap.size W w') := fun W => rapplies_any x hx L hL W
  obtain ⟨b, hb⟩ : ∃ b, b = applyT L x := ⟨_, rfl⟩
  rw [← hb] at AP RA
  have b1 : Hid (((w.alloc (.cells (entV x) 35)).alloc (.cells (hv L) 37)).heap[w.heap.size]? = some (.cells (entV x) 35 (0, 0))) := heap_past _ _ _ _ (heap_new _ _ _ rfl)
  have b2 : Hid (((w.alloc (.cells (entV x) 35)).alloc (.cells (hv L) 37)).heap[w.heap.size + 1]? = some (.cells (hv L) 37 (0, 0))) := heap_new _ _ _ (by simp)
  have B0 : Hid (Below w.heap.size w ((w.alloc (.cells (entV x) 35)).alloc (.cells (hv L) 37))) := below2 _ _ _
  clear hb hP hp hx
  go_enter Tryd.func5, Tryd.ntmps5
  go_wp2_with fail
  refine (AW.out _ B0.out).mono ?_
  rintro e w1 ⟨rfl, hb1⟩
  have r1 : w1.heap[w.heap.size]? = some (.cells (entV x) 35 (0, 0)) := (hb1.block _ (by simp; omega)).trans b1.out
  have r2 : w1.heap[w.heap.size + 1]? = some (.cells (hv L) 37 (0, 0)) := (hb1.block _ (by simp)).trans b2.out
  have B1 : Hid (Below w.heap.size w w1) := B0.out.trans (hb1.mono (by simp; omega))
  clear hb1 b1 b2 B0
  go_wp2_with fail
  have ne1 := Later.ne w1
  refine wp_region_later (by kernel_rfl) (by kernel_rfl) ?_
  refine qlE (E := EntE) EntOk rfl _ rfl w.heap.size 0 rfl _ _ _ (entV x) rfl (later_block r1) (own_cells _ _) ?_
  simp only [Act.put, List.setIfInBounds_toArray, List.set_cons_succ, List.set_cons_zero]
  refine qlH rfl _ rfl (w.heap.size + 1) rfl L r2 hl ?_
  simp only [Act.put, List.setIfInBounds_toArray, List.set_cons_succ, List.set_cons_zero]
  go_big_quiet_want; go_big_quiet_op
  refine ⟨_, fun u => Calls.later_of (AP.out u.world (B1.out.trans (u.below.mono B1.out.size))), ?_⟩
  go_big_quiet_on
  refine qlE (E := EntE) EntOk rfl _ rfl w.heap.size 0 rfl _ _ _ (entV x) rfl (later_block r1) (own_cells _ _) ?_
  simp only [Act.put, List.setIfInBounds_toArray, List.set_cons_succ, List.set_cons_zero]
  refine qlH rfl _ rfl (w.heap.size + 1) rfl L r2 hl ?_
  simp only [Act.put, List.setIfInBounds_toArray, List.set_cons_succ, List.set_cons_zero]
  go_big_quiet_want; go_big_quiet_op
  refine ⟨_, fun u => Calls.later_of (RA.out u.world), ?_⟩
  go_big_quiet_on
  go_big_quiet_step (rfl)
  go_big_quiet_step (rfl)
  refine wpQuiet_nil ?_
  rintro w' ⟨v, rfl⟩
  go_wp2_with fail
  go_ret
  refine ⟨?_, B1.out.trans (v.below.mono B1.out.size)⟩
  cases b <;> rfl
end Go.Proofs.YtfamnloobmdhdaaDoor
namespace Go.Proofs.YtfamnloobmdhdaaDoor
open Go Go.RowKit
set_option maxRecDepth 20000

theorem wl_min7 {ops : Array Oper} {rest : List Oper} {o : Oper} {a : Act} {w : World} {Q : Exit → Act → World → Prop} (hgd : o.guard = none) (x y : Operand) (ho : o.op = .call { callee := .builtin .min, args := #[x, y], argTypes := #[3, 3] })
    (p q r : Int) (hx : a.eval x = .int .i64 p) (hy : a.eval y = .int .i64 q) (hr : r = min p q) (h : wpList Tryd.prog ops Q rest (a.put o.dst (.int .i64 r)) w) : wpList Tryd.prog ops Q (o :: rest) a w := by
  obtain ⟨dst, op, ty, pos, after, guard⟩ := o
  subst ho
  have hr : (execOp a.eval ⟨dst, .call { callee := .builtin .min, args := #[x, y], argTypes := #[3, 3] }, ty, pos, after, guard⟩).run Tryd.prog w = .ok (.value (.int .i64 r)) w := by
    subst hr
    by_cases h1 : p ≤ q
    · rw [show min p q = p by omega]
      unfold execOp
      simp [resolve, invoke, builtin, hx, hy, Builtin.min_, Builtin.min2]
      all_goals omega
    · rw [show min p q = q by omega]
      unfold execOp
      simp [resolve, invoke, builtin, hx, hy, Builtin.min_, Builtin.min2]
      all_goals omega
  refine wpList_plain hgd fun K hK => ?_
  unfold Oper.wp
  rw [hr]
  exact hK _ _ h

theorem restK_stays {l : List Ent} {i : Nat} : ∀ {k : Nat}, restK l k = some i → ∀ m, k ≤ m → m ≤ l.length → restK l m = some i := by
  intro k h m
  induction m with
  | zero => intro h1 _; obtain rfl : k = 0 := by omega
            exact h
  | succ m ih =>
    intro h1 h2
    by_cases hk : k = m + 1
    · rw [← hk]; exact h
    · rw [restK_next (List.getElem?_eq_getElem (show m < l.length by omega)), ih (by omega) (by omega)]
      rfl
theorem GSl.take7 {α : Type} {E : El} {enc : α → Array Value} {w : World} {o : Option Addr} {n cap : Nat} {C : List α} (h : GSl E enc w (.slice o n cap) C) {k : Nat} (hk : k ≤ n) : GSl E enc w (.slice o k cap) (C.take k) := by
  obtain ⟨o', cap', h1, h2, h3, h4⟩ := h
  simp only [Value.slice.injEq] at h1
  obtain ⟨rfl, rfl, rfl⟩ := h1
  have hl : (C.take k).length = k := by rw [List.length_take]; omega
  refine ⟨o, cap, by rw [hl], by rw [hl]; omega, h3, fun i hi => ?_⟩
  rw [hl] at hi
  obtain ⟨g, off, cur, t, fr, e1, e2, e3⟩ := h4 i (by omega)
  refine ⟨g, off, cur, t, fr, e1, e2, fun j hj => ?_⟩
  rw [List.getElem_take]
  exact e3 j hj
theorem slice_ents (o : Option Addr) (n cap k : Nat) (hk : k ≤ cap) (ho : o = none → cap = 0) (hs : ∀ a, o = some a → a.spot = none) (W : World) : (Instr.sliceAt 23 (.slice o n cap) none (some (.int .i64 (k : Int))) none).run Tryd.prog W = .ok (.slice o k cap) W := by
  cases o with
  | none =>
    have := ho rfl
    subst this
    obtain rfl : k = 0 := by omega
    simp [go_sem, Tryd.underlying23]
  | some a =>
    simp [go_sem, Tryd.underlying23]
    omega
theorem which_says (ap : Ent → Bool) (l : List Ent) : (saysT ap l).2 = decide (0 ≤ whichI ap l) := by
  unfold saysT whichI
  cases whichT ap l with
  | none => rfl
  | some i =>
    have : (0 : Int) ≤ atW (some i) := by show (0 : Int) ≤ (i : Int); omega
    rw [decide_eq_true this]

set_option maxHeartbeats 16000000 in
set_option maxRecDepth 100000 in
theorem rwhich_any (l : List Ent) (vl : Value) (w : World) (hl : EntsAt w vl l) (h32 : ∀ x ∈ l, ent32 x) (L : List Int) (hL : Byt L) :
    Calls Tryd.prog 21 #[vl, .agg (hv L)] w fun e w' => e = .returned (.int .i64 (whichI (applyT L) l)) ∧ Below w.heap.size w w' := by
  have hLl := hL.1
  have RA : Hid (∀ (x : Ent) W, ent32 x → Calls Tryd.prog 17 #[.agg (entV x), .agg (hv L)] W fun e w' => e = .returned (.bool (applyT L x)) ∧ Below W.heap.size W w') := fun x W h1 => rapplies_any x h1 L hL W
  obtain ⟨o, cap, rfl, hc1, hc2⟩ := GSl.slice hl
  obtain ⟨n, hn⟩ : ∃ n, n = l.length := ⟨_, rfl⟩
  have HN : Hid (n = l.length) := hn
  rw [← hn] at hl hc1 ⊢
  have HL : Hid (EntsAt w (.slice o n cap) l) := hl
  have H32 : Hid (∀ x ∈ l, ent32 x) := h32
  unfold maxLen at hc2
  have HW : Hid (whichI (applyT L) l = if bestI (bestK (applyT L) l n) < 0 then atW (restK l n) else bestI (bestK (applyT L) l n)) := by rw [HN.out]; exact whichI_eq _ _
  obtain ⟨ap, hap⟩ : ∃ ap, ap = applyT L := ⟨_, rfl⟩
  rw [← hap] at HW RA ⊢
  have KN : Hid ((w.alloc (.cells (hv L) 37)).heap[w.heap.size]? = some (.cells (hv L) 37 (0, 0)) ∧ Below w.heap.size w (w.alloc (.cells (hv L) 37))) := ⟨heap_new _ _ _ rfl, (Below.refl _ _).alloc (Nat.le_refl _) _⟩
  clear hl hn h32 hap
  go_enter Tryd.func21, Tryd.ntmps21
  go_wp2_with fail
  go_loopw [5, 6] (fun ru i wr => ∃ k : Nat, k ≤ n ∧ i = .int .i64 (k : Int) ∧ ru = .int .i64 (bestI (bestK ap l k)) ∧ wr.heap[w.heap.size]? = some (.cells (hv L) 37 (0, 0)) ∧ Below w.heap.size w wr) (fun _ i _ => n - (intOf i).toNat)
  case atStart => exact ⟨0, Nat.zero_le _, rfl, rfl, KN.out.1, KN.out.2⟩
  case round =>
    clear KN
    obtain ⟨k, hk, rfl, rfl, R1, hb⟩ := hrel
    have HR1 : Hid (wr.heap[w.heap.size]? = some (.cells (hv L) 37 (0, 0))) := R1
    have HB : Hid (Below w.heap.size w wr) := hb
    clear hb
    by_cases hlt : k < n
    · have hlt' : (k : Int) < (n : Int) := by omega
      obtain ⟨g, off, cur, ty, fr, x, rfl, K1, hc, hxk⟩ := (GSl.below HL.out HB.out).at k hlt
      have H1 : Hid (∀ j, j < 12 → cur[off + k * 12 + j]? = (entV x)[j]?) := hc
      have HX : Hid (ent32 x) := H32.out x (List.mem_of_getElem? hxk)
      have BX : Hid (bestK ap l (k + 1) = stepB ap (bestK ap l k) k x) := bestK_next ap hxk
      have l0 : ∀ u : Later wr, u.world.cell? ⟨g, off + k * 12, none⟩ = some (.bool x.dflt) := later_cell7 K1 (hc 0 (by decide))
      have l1 : ∀ u : Later wr, u.world.cell? ⟨g, off + k * 12 + 1, none⟩ = some (.int .i64 x.prio) := later_cell7 K1 (hc 1 (by decide))
      have HLK : Hid (∀ j p, bestK ap l k = some (j, p) → ∃ y, l[j]? = some y ∧ y.prio = p ∧ j < k) := fun j p h => by
        obtain ⟨y, h1, h2, _, _, h5⟩ := bestK_in ap h
        exact ⟨y, h1, h2, h5⟩
      have ne1 := Later.ne wr
      clear hc hxk
      cases hd : x.dflt with
      | true =>
        rw [hd] at l0
        have HST : Hid (bestK ap l (k + 1) = bestK ap l k) := by show _ = _; rw [BX.out, step_no (by rw [hd]; rfl)]
        obtain ⟨be, hbe⟩ : ∃ be, be = bestI (bestK ap l k) := ⟨_, rfl⟩
        have HBE : Hid (be = bestI (bestK ap l (k + 1))) := by rw [HST.out]; exact hbe
        rw [← hbe]
        clear hbe hd
        go_wp2_with fail
        refine wp_region_later (by kernel_rfl) (by kernel_rfl) ?_
        go_big_quiet_step (rfl)
        go_big_quiet_step (rfl)
        go_big_quiet_step (rfl)
        go_big_quiet_step (rfl)
        go_big_quiet_step (rfl)
        go_big_quiet_step (rfl)
        go_big_quiet_step (rfl)
        go_big_quiet_step (rfl)
        go_big_quiet_step (rfl)
        go_big_quiet_step (rfl)
        go_big_quiet_step (rfl)
        go_big_quiet_step (rfl)
        go_big_quiet_step (rfl)
        go_big_quiet_step (rfl)
        go_big_quiet_step (rfl)
        go_big_quiet_step (rfl)
        go_big_quiet_step (rfl)
        go_big_quiet_step (rfl)
        go_big_quiet_step (rfl)
        go_big_quiet_step (rfl)
        go_big_quiet_step (rfl)
        go_big_quiet_step (rfl)
        go_big_quiet_step (rfl)
        go_big_quiet_step (rfl)
        go_big_quiet_step (rfl)
        go_big_quiet_step (rfl)
        go_big_quiet_step (rfl)
        go_big_quiet_step (rfl)
        go_big_quiet_step (rfl)
        go_big_quiet_step (rfl)
        go_big_quiet_step (rfl)
        refine wpQuiet_nil ?_
        rintro w' ⟨v, rfl⟩
        have R3 : Hid (v.world.heap[w.heap.size]? = some (.cells (hv L) 37 (0, 0))) := later_block R1 _ ⟨v, rfl⟩
        have B3 : Hid (Below w.heap.size w v.world) := HB.out.trans (v.below.mono HB.out.size)
        obtain ⟨W3, hW3⟩ : ∃ W3, W3 = v.world := ⟨_, rfl⟩
        rw [← hW3] at R3 B3 ⊢
        clear hW3 ne1
        clear l0 l1
        go_wp2_with fail
        go_roundw
        case rel => exact ⟨k + 1, by omega, by go_num, by rw [HBE.out], R3.out, B3.out⟩
        case measure => simp [intOf]; omega
      | false =>
        rw [hd] at l0
        have HDF : Hid (x.dflt = false) := hd
        clear hd
        cases ha : ap x with
        | false =>
          have HST : Hid (bestK ap l (k + 1) = bestK ap l k) := by show _ = _; rw [BX.out, step_no (by rw [ha]; simp)]
          obtain ⟨be, hbe⟩ : ∃ be, be = bestI (bestK ap l k) := ⟨_, rfl⟩
          have HBE : Hid (be = bestI (bestK ap l (k + 1))) := by rw [HST.out]; exact hbe
          rw [← hbe]
          have RX : Hid (∀ W, Calls Tryd.prog 17 #[.agg (entV x), .agg (hv L)] W fun e w' => e = .returned (.bool false) ∧ Below W.heap.size W w') := fun W => by have := RA.out x W HX.out; rwa [ha] at this
          clear hbe ha
          go_wp2_with fail
          refine wp_region_later (by kernel_rfl) (by kernel_rfl) ?_
          go_big_quiet_step (rfl)
          go_big_quiet_step (rfl)
          go_big_quiet_step (rfl)
          go_big_quiet_step (rfl)
          go_big_quiet_step (rfl)
          go_big_quiet_step (rfl)
          go_big_quiet_step (rfl)
          go_big_quiet_step (rfl)
          go_big_quiet_step (rfl)
          go_big_quiet_step (rfl)
          refine qlE (E := EntE) EntOk rfl _ rfl g (off + k * 12) rfl cur ty fr (entV x) rfl (later_block K1) H1.out ?_
          simp only [Act.put, List.setIfInBounds_toArray, List.set_cons_succ, List.set_cons_zero]
          refine qlH rfl _ rfl w.heap.size rfl L R1 hLl ?_
          simp only [Act.put, List.setIfInBounds_toArray, List.set_cons_succ, List.set_cons_zero]
          go_big_quiet_want; go_big_quiet_op
          refine ⟨_, fun u => Calls.later_of (RX.out u.world), ?_⟩
          go_big_quiet_on
          go_big_quiet_step (rfl)
          go_big_quiet_step (rfl)
          go_big_quiet_step (rfl)
          go_big_quiet_step (rfl)
          go_big_quiet_step (rfl)
          go_big_quiet_step (rfl)
          go_big_quiet_step (rfl)
          go_big_quiet_step (rfl)
          go_big_quiet_step (rfl)
          go_big_quiet_step (rfl)
          go_big_quiet_step (rfl)
          go_big_quiet_step (rfl)
          go_big_quiet_step (rfl)
          go_big_quiet_step (rfl)
          go_big_quiet_step (rfl)
          go_big_quiet_step (rfl)
          go_big_quiet_step (rfl)
          go_big_quiet_step (rfl)
          refine wpQuiet_nil ?_
          rintro w' ⟨v, rfl⟩
          have R3 : Hid (v.world.heap[w.heap.size]? = some (.cells (hv L) 37 (0, 0))) := later_block R1 _ ⟨v, rfl⟩
          have B3 : Hid (Below w.heap.size w v.world) := HB.out.trans (v.below.mono HB.out.size)
          obtain ⟨W3, hW3⟩ : ∃ W3, W3 = v.world := ⟨_, rfl⟩
          rw [← hW3] at R3 B3 ⊢
          clear hW3 ne1
          clear l0 l1
          go_wp2_with fail
          go_roundw
          case rel => exact ⟨k + 1, by omega, by go_num, by rw [HBE.out], R3.out, B3.out⟩
          case measure => simp [intOf]; omega
        | true =>
          have RX : Hid (∀ W, Calls Tryd.prog 17 #[.agg (entV x), .agg (hv L)] W fun e w' => e = .returned (.bool true) ∧ Below W.heap.size W w') := fun W => by have := RA.out x W HX.out; rwa [ha] at this
          have HAP : Hid (ap x = true) := ha
          clear ha
          cases hbe : bestK ap l k with
          | none =>
            have HST : Hid (bestK ap l (k + 1) = some (k, x.prio)) := by
              show _ = _
              rw [BX.out, step_yes (by rw [HDF.out, HAP.out, hbe]; rfl)]
            clear hbe
            rw [show bestI none = -1 from rfl]
            go_wp2_with fail
            refine wp_region_later (by kernel_rfl) (by kernel_rfl) ?_
            go_big_quiet_step (rfl)
            go_big_quiet_step (rfl)
            go_big_quiet_step (rfl)
            go_big_quiet_step (rfl)
            go_big_quiet_step (rfl)
            go_big_quiet_step (rfl)
            go_big_quiet_step (rfl)
            go_big_quiet_step (rfl)
            go_big_quiet_step (rfl)
            go_big_quiet_step (rfl)
            refine qlE (E := EntE) EntOk rfl _ rfl g (off + k * 12) rfl cur ty fr (entV x) rfl (later_block K1) H1.out ?_
            simp only [Act.put, List.setIfInBounds_toArray, List.set_cons_succ, List.set_cons_zero]
            refine qlH rfl _ rfl w.heap.size rfl L R1 hLl ?_
            simp only [Act.put, List.setIfInBounds_toArray, List.set_cons_succ, List.set_cons_zero]
            go_big_quiet_want; go_big_quiet_op
            refine ⟨_, fun u => Calls.later_of (RX.out u.world), ?_⟩
            go_big_quiet_on
            go_big_quiet_step (rfl)
            go_big_quiet_step (rfl)
            go_big_quiet_step (rfl)
            go_big_quiet_step (rfl)
            go_big_quiet_step (rfl)
            go_big_quiet_step (rfl)
            go_big_quiet_step (rfl)
            go_big_quiet_step (rfl)
            go_big_quiet_step (rfl)
            go_big_quiet_step (rfl)
            go_big_quiet_step (rfl)
            go_big_quiet_step (rfl)
            go_big_quiet_step (rfl)
            go_big_quiet_step (rfl)
            go_big_quiet_step (rfl)
            go_big_quiet_step (rfl)
            go_big_quiet_step (rfl)
            go_big_quiet_step (rfl)
            refine wpQuiet_nil ?_
            rintro w' ⟨v, rfl⟩
            have R3 : Hid (v.world.heap[w.heap.size]? = some (.cells (hv L) 37 (0, 0))) := later_block R1 _ ⟨v, rfl⟩
            have B3 : Hid (Below w.heap.size w v.world) := HB.out.trans (v.below.mono HB.out.size)
            obtain ⟨W3, hW3⟩ : ∃ W3, W3 = v.world := ⟨_, rfl⟩
            rw [← hW3] at R3 B3 ⊢
            clear hW3 ne1
            clear l0 l1
            go_wp2_with fail
            go_roundw
            case rel => exact ⟨k + 1, by omega, by go_num, by rw [HST.out]; rfl, R3.out, B3.out⟩
            case measure => simp [intOf]; omega
          | some bb =>
            obtain ⟨j, p⟩ := bb
            obtain ⟨y, hy, rfl, hjk⟩ := HLK.out j p hbe
            obtain ⟨g', off', cur', ty', fr', y', e0, hg', hc', hyj⟩ := (GSl.below HL.out HB.out).at j (by omega)
            simp only [Option.some.injEq, Addr.mk.injEq, and_true] at e0
            obtain ⟨rfl, rfl⟩ := e0
            obtain rfl : y = y' := Option.some.inj (hy.symm.trans hyj)
            have lg : ∀ u : Later wr, u.world.cell? ⟨g, off + j * 12 + 1, none⟩ = some (.int .i64 y.prio) := later_cell7 hg' (ent_prio hc')
            rw [show bestI (some (j, y.prio)) = (j : Int) from rfl]
            have hj0 : decide ((j : Int) < 0) = false := by simp
            have hj1 : (j : Int) < (n : Int) := by omega
            have hjn : j < n := by omega
            by_cases hgt : y.prio < x.prio
            · have hgt' : decide (x.prio > y.prio) = true := by simp; omega
              have HST : Hid (bestK ap l (k + 1) = some (k, x.prio)) := by
                show _ = _
                rw [BX.out, step_yes (by rw [HDF.out, HAP.out, hbe]; simp [beats, hgt])]
              clear hbe hy hyj hg' hc' hgt
              go_wp2_with fail
              refine wp_region_later (by kernel_rfl) (by kernel_rfl) ?_
              go_big_quiet_step (rfl)
              go_big_quiet_step (rfl)
              go_big_quiet_step (rfl)
              go_big_quiet_step (rfl)
              go_big_quiet_step (rfl)
              go_big_quiet_step (rfl)
              go_big_quiet_step (rfl)
              go_big_quiet_step (rfl)
              go_big_quiet_step (rfl)
              go_big_quiet_step (rfl)
              refine qlE (E := EntE) EntOk rfl _ rfl g (off + k * 12) rfl cur ty fr (entV x) rfl (later_block K1) H1.out ?_
              simp only [Act.put, List.setIfInBounds_toArray, List.set_cons_succ, List.set_cons_zero]
              refine qlH rfl _ rfl w.heap.size rfl L R1 hLl ?_
              simp only [Act.put, List.setIfInBounds_toArray, List.set_cons_succ, List.set_cons_zero]
              go_big_quiet_want; go_big_quiet_op
              refine ⟨_, fun u => Calls.later_of (RX.out u.world), ?_⟩
              go_big_quiet_on
              go_big_quiet_step (rfl)
              go_big_quiet_step (rfl)
              go_big_quiet_step (rfl)
              go_big_quiet_step (rfl)
              go_big_quiet_step (rfl)
              go_big_quiet_step (rfl)
              go_big_quiet_step (rfl)
              go_big_quiet_step (rfl)
              go_big_quiet_step (rfl)
              go_big_quiet_step (rfl)
              go_big_quiet_step (rfl)
              go_big_quiet_step (rfl)
              go_big_quiet_step (rfl)
              go_big_quiet_step (rfl)
              go_big_quiet_step (rfl)
              go_big_quiet_step (rfl)
              go_big_quiet_step (rfl)
              go_big_quiet_step (rfl)
              refine wpQuiet_nil ?_
              rintro w' ⟨v, rfl⟩
              have R3 : Hid (v.world.heap[w.heap.size]? = some (.cells (hv L) 37 (0, 0))) := later_block R1 _ ⟨v, rfl⟩
              have B3 : Hid (Below w.heap.size w v.world) := HB.out.trans (v.below.mono HB.out.size)
              obtain ⟨W3, hW3⟩ : ∃ W3, W3 = v.world := ⟨_, rfl⟩
              rw [← hW3] at R3 B3 ⊢
              clear hW3 ne1
              clear l0 l1 lg
              go_wp2_with fail
              go_roundw
              case rel => exact ⟨k + 1, by omega, by go_num, by rw [HST.out]; rfl, R3.out, B3.out⟩
              case measure => simp [intOf]; omega
            · have hgt' : decide (x.prio > y.prio) = false := by simp; omega
              have HST : Hid (bestK ap l (k + 1) = some (j, y.prio)) := by
                show _ = _
                rw [BX.out, step_no (by rw [HDF.out, HAP.out, hbe]; simp [beats, hgt]), hbe]
              clear hbe hy hyj hg' hc' hgt
              go_wp2_with fail
              refine wp_region_later (by kernel_rfl) (by kernel_rfl) ?_
              go_big_quiet_step (rfl)
              go_big_quiet_step (rfl)
              go_big_quiet_step (rfl)
              go_big_quiet_step (rfl)
              go_big_quiet_step (rfl)
              go_big_quiet_step (rfl)
              go_big_quiet_step (rfl)
              go_big_quiet_step (rfl)
              go_big_quiet_step (rfl)
              go_big_quiet_step (rfl)
              refine qlE (E := EntE) EntOk rfl _ rfl g (off + k * 12) rfl cur ty fr (entV x) rfl (later_block K1) H1.out ?_
              simp only [Act.put, List.setIfInBounds_toArray, List.set_cons_succ, List.set_cons_zero]
              refine qlH rfl _ rfl w.heap.size rfl L R1 hLl ?_
              simp only [Act.put, List.setIfInBounds_toArray, List.set_cons_succ, List.set_cons_zero]
              go_big_quiet_want; go_big_quiet_op
              refine ⟨_, fun u => Calls.later_of (RX.out u.world), ?_⟩
              go_big_quiet_on
              go_big_quiet_step (rfl)
              go_big_quiet_step (rfl)
              go_big_quiet_step (rfl)
              go_big_quiet_step (rfl)
              go_big_quiet_step (rfl)
              go_big_quiet_step (rfl)
              go_big_quiet_step (rfl)
              go_big_quiet_step (rfl)
              go_big_quiet_step (rfl)
              go_big_quiet_step (rfl)
              go_big_quiet_step (rfl)
              go_big_quiet_step (rfl)
              go_big_quiet_step (rfl)
              go_big_quiet_step (rfl)
              go_big_quiet_step (rfl)
              go_big_quiet_step (rfl)
              go_big_quiet_step (rfl)
              go_big_quiet_step (rfl)
              refine wpQuiet_nil ?_
              rintro w' ⟨v, rfl⟩
              have R3 : Hid (v.world.heap[w.heap.size]? = some (.cells (hv L) 37 (0, 0))) := later_block R1 _ ⟨v, rfl⟩
              have B3 : Hid (Below w.heap.size w v.world) := HB.out.trans (v.below.mono HB.out.size)
              obtain ⟨W3, hW3⟩ : ∃ W3, W3 = v.world := ⟨_, rfl⟩
              rw [← hW3] at R3 B3 ⊢
              clear hW3 ne1
              clear l0 l1 lg
              go_wp2_with fail
              go_roundw
              case rel => exact ⟨k + 1, by omega, by go_num, by rw [HST.out]; rfl, R3.out, B3.out⟩
              case measure => simp [intOf]; omega
    · have hlt' : ¬ (k : Int) < (n : Int) := by omega
      obtain rfl : k = n := by omega
      clear hlt R1
      cases hbe : bestK ap l k with
      | some bb =>
        obtain ⟨j, p⟩ := bb
        have HW2 : Hid (whichI ap l = (j : Int)) := by
          show _ = _
          rw [HW.out, hbe, if_neg (by show ¬ ((j : Int) < 0); omega)]
          rfl
        rw [show bestI (some (j, p)) = (j : Int) from rfl]
        have hj0 : ¬ (j : Int) < 0 := by omega
        clear hbe
        go_wp2_with fail
        go_loopw [5, 7] (fun be i wq => ∃ m : Nat, be = .int .i64 (j : Int) ∧ i = .int .i64 (m : Int) ∧ m = 0 ∧ Below w.heap.size w wq) (fun _ _ _ => 0)
        case atStart => exact ⟨0, rfl, rfl, rfl, HB.out⟩
        case round =>
          obtain ⟨m, rfl, rfl, rfl, hbq⟩ := hrel
          have HBQ : Hid (Below w.heap.size w wr) := hbq
          clear hbq
          by_cases hk0 : (0 : Int) < (k : Int)
          · go_wp2_with fail
            go_ret
            exact ⟨by rw [HW2.out]; rfl, HBQ.out⟩
          · go_wp2_with fail
            go_ret
            exact ⟨by rw [HW2.out]; rfl, HBQ.out⟩
      | none =>
        have HW2 : Hid (whichI ap l = atW (restK l k)) := by
          show _ = _
          rw [HW.out, hbe, if_pos (by decide)]
        rw [show bestI none = -1 from rfl]
        clear hbe
        go_wp2_with fail
        go_loopw [5, 7] (fun be i wq => ∃ m : Nat, m ≤ k ∧ i = .int .i64 (m : Int) ∧ be = .int .i64 (atW (restK l m)) ∧ Below w.heap.size w wq) (fun _ i _ => k - (intOf i).toNat)
        case atStart => exact ⟨0, Nat.zero_le _, rfl, rfl, HB.out⟩
        case round =>
          obtain ⟨m, hm, rfl, rfl, hbq⟩ := hrel
          have HBQ : Hid (Below w.heap.size w wr) := hbq
          clear hbq
          cases hre : restK l m with
          | some j =>
            have HW3 : Hid (whichI ap l = (j : Int)) := by
              show _ = _
              rw [HW2.out, restK_stays hre k hm (by rw [← HN.out]; omega)]
              rfl
            rw [show atW (some j) = (j : Int) from rfl]
            have hj0 : ¬ (j : Int) < 0 := by omega
            clear hre
            by_cases hmk : (m : Int) < (k : Int)
            · go_wp2_with fail
              go_ret
              exact ⟨by rw [HW3.out]; rfl, HBQ.out⟩
            · go_wp2_with fail
              go_ret
              exact ⟨by rw [HW3.out]; rfl, HBQ.out⟩
          | none =>
            rw [show atW none = -1 from rfl]
            by_cases hmk : m < k
            · have hmk' : (m : Int) < (k : Int) := by omega
              obtain ⟨g, off, cur, ty, fr, x, rfl, hg, hc, hxk⟩ := (GSl.below HL.out HBQ.out).at m hmk
              have c0 : wr.cell? ⟨g, off + m * 12, none⟩ = some (.bool x.dflt) := by rw [cell_of_row _ _ _ _ _ _ hg]; exact hc 0 (by decide)
              have RX : Hid (restK l (m + 1) = if x.dflt then some m else none) := by
                show _ = _
                rw [restK_next hxk, hre]
                rfl
              clear hg hc hxk hre
              cases hd : x.dflt with
              | true =>
                rw [hd] at c0 RX
                go_wp2_with fail
                go_roundw
                case rel => exact ⟨m + 1, by omega, by go_num, by rw [RX.out]; rfl, HBQ.out⟩
                case measure => simp [intOf]; omega
              | false =>
                rw [hd] at c0 RX
                go_wp2_with fail
                go_roundw
                case rel => exact ⟨m + 1, by omega, by go_num, by rw [RX.out]; rfl, HBQ.out⟩
                case measure => simp [intOf]; omega
            · obtain rfl : m = k := by omega
              have hmk' : ¬ (m : Int) < (m : Int) := by omega
              have HW3 : Hid (whichI ap l = -1) := by show _ = _; rw [HW2.out, hre]; rfl
              clear hre hmk
              go_wp2_with fail
              go_ret
              exact ⟨by rw [HW3.out]; rfl, HBQ.out⟩

set_option maxHeartbeats 1000000 in
theorem rsays_any (l : List Ent) (vl : Value) (w : World) (hl : EntsAt w vl l) (h32 : ∀ x ∈ l, ent32 x) (L : List Int) (hL : Byt L) :
    Calls Tryd.prog 20 #[vl, .agg (hv L)] w fun e w' => e = .returned (.tuple #[.int .i64 (saysT (applyT L) l).1, .bool (saysT (applyT L) l).2]) ∧ Below w.heap.size w w' := by
  have hLl := hL.1
  have WC : Hid (∀ W, Below w.heap.size w W → Calls Tryd.prog 21 #[vl, .agg (hv L)] W fun e w' => e = .returned (.int .i64 (whichI (applyT L) l)) ∧ Below W.heap.size W w') := fun W hb => rwhich_any l vl W (GSl.below hl hb) h32 L hL
  obtain ⟨o, cap, rfl, hc1, hc2⟩ := GSl.slice hl
  obtain ⟨n, hn⟩ : ∃ n, n = l.length := ⟨_, rfl⟩
  rw [← hn] at hl hc1 WC ⊢
  have HL : Hid (EntsAt w (.slice o n cap) l) := hl
  unfold maxLen at hc2
  have KN : Hid ((w.alloc (.cells (hv L) 37)).heap[w.heap.size]? = some (.cells (hv L) 37 (0, 0)) ∧ Below w.heap.size w (w.alloc (.cells (hv L) 37))) := ⟨heap_new _ _ _ rfl, (Below.refl _ _).alloc (Nat.le_refl _) _⟩
  cases hw : whichT (applyT L) l with
  | none =>
    have e1 : whichI (applyT L) l = -1 := by unfold whichI; rw [hw]; rfl
    have e2 : saysT (applyT L) l = (0, false) := by unfold saysT; rw [hw]
    rw [e2]
    rw [e1] at WC
    clear hl h32 hw e1 e2 hn
    go_enter Tryd.func20, Tryd.ntmps20
    go_wp2_with (refine wl_load26 rfl _ rfl w.heap.size rfl L KN.out.1 hLl ?_)
    refine (WC.out _ KN.out.2).mono ?_
    rintro e w1 ⟨rfl, hb1⟩
    have B1 : Hid (Below w.heap.size w w1) := KN.out.2.trans (hb1.mono KN.out.2.size)
    clear hb1
    go_wp2_with fail
    go_ret2
    exact ⟨rfl, B1.out⟩
  | some i =>
    obtain ⟨x, hx⟩ := whichT_in hw
    have hi : i < n := by rw [hn]; exact (List.getElem?_eq_some_iff.1 hx).1
    have e1 : whichI (applyT L) l = (i : Int) := by unfold whichI; rw [hw]; rfl
    have e2 : saysT (applyT L) l = (x.action, true) := by unfold saysT; rw [hw]; simp only [List.getD_eq_getElem?_getD, hx]; rfl
    rw [e2]
    rw [e1] at WC
    obtain ⟨g, off, cur, ty, fr, x', rfl, hg, hc, hxi⟩ := hl.at i hi
    obtain rfl : x = x' := Option.some.inj (hx.symm.trans hxi)
    have HG : Hid (w.heap[g]? = some (.cells cur ty fr)) := hg
    have HC : Hid (cur[off + i * 12 + 11]? = some (.int .i64 x.action)) := ent_act hc
    have hi0 : ¬ (i : Int) < 0 := by omega
    have hi1 : (i : Int) < (n : Int) := by omega
    clear hl h32 hw e1 e2 hx hxi hg hc hn
    go_enter Tryd.func20, Tryd.ntmps20
    go_wp2_with (refine wl_load26 rfl _ rfl w.heap.size rfl L KN.out.1 hLl ?_)
    refine (WC.out _ KN.out.2).mono ?_
    rintro e w1 ⟨rfl, hb1⟩
    have B1 : Hid (Below w.heap.size w w1) := KN.out.2.trans (hb1.mono KN.out.2.size)
    have q : w1.cell? ⟨g, off + i * 12 + 11, none⟩ = some (.int .i64 x.action) := by rw [cell_of_row _ _ _ _ _ _ ((B1.out.block g (Array.getElem?_eq_some_iff.1 HG.out).1).trans HG.out)]; exact HC.out
    clear hb1
    go_wp2_with fail
    go_ret2
    exact ⟨rfl, B1.out⟩


end Go.Proofs.YtfamnloobmdhdaaDoor
namespace Go.Proofs.YtfamnloobmdhdaaDoor
open Go Go.RowKit
set_option maxRecDepth 20000

theorem check_code (size : Int) : ∀ (l : List Raw) (i : Nat) (had : Bool) (e : Nat) (p : Int), checkGo size i had l = .error (e, p) → e ≠ 0
  | [], i, had, e, p, h => by
    rw [check_nil] at h
    split at h
    · cases h
    · simp only [Except.error.injEq, Prod.mk.injEq] at h; omega
  | r :: l, i, had, e, p, h => by
    by_cases hz : (rowF i had r).1 = 0
    · rw [(check_good size i had r l hz).1] at h
      cases hx : checkGo size (i + 1) (had || r.dflt) l with
      | ok m => rw [hx] at h; cases h
      | error y =>
        obtain ⟨e', p'⟩ := y
        rw [hx] at h
        simp only [Except.map, Except.error.injEq, Prod.mk.injEq] at h
        have := check_code size l _ _ e' p' hx
        omega
    · obtain ⟨e', h1, h2⟩ := check_bad size i had r l hz
      rw [h1] at h
      simp only [Except.error.injEq, Prod.mk.injEq] at h
      omega
theorem outC_cases (x : ResI (List Ent)) (hc : ∀ e p, x = .error (e, p) → e ≠ 0) : ((outC x).2.1 = 0 ∧ x = .ok (outC x).1 ∧ (outC x).2.2 = 0) ∨ ((outC x).2.1 ≠ 0 ∧ (outC x).1 = []) := by
  cases x with
  | ok m => exact .inl ⟨rfl, rfl, rfl⟩
  | error y =>
    obtain ⟨e, p⟩ := y
    refine .inr ⟨?_, rfl⟩
    have := hc e p rfl
    show (e : Int) ≠ 0
    omega
theorem readP_cases (S : List UInt8) : ((readP S).2.1 = 0 ∧ readT S = .ok (readP S).1 ∧ (readP S).2.2 = 0) ∨ ((readP S).2.1 ≠ 0 ∧ (readP S).1 = []) := by
  refine outC_cases (readT S) fun e p h => ?_
  by_cases hE : (parseP S).2.1 = 0
  · have := parseP_zero7 hE
    unfold readT at h
    rw [this] at h
    exact check_code _ _ _ _ _ _ h
  · have h1 := readP_bad hE
    unfold readP at h1
    rw [h] at h1
    have h2 : (e : Int) = ((parseP S).2.1 : Int) := congrArg (fun x => x.2.1) h1
    omega
theorem okE_32 {x : Ent} (h : okE x) : ent32 x := ⟨⟨h.src.1, h.src.2.1⟩, ⟨h.dst.1, h.dst.2.1⟩⟩
theorem ents32_of (S : List UInt8) : ∀ x ∈ (readP S).1, ent32 x := fun x hx => by
  rcases readP_cases S with ⟨_, h, _⟩ | ⟨_, h⟩
  · exact okE_32 ((read_in h).1 x hx)
  · rw [h] at hx; simp at hx
/-- What is said of a header. -/
theorem says_whole (S : List UInt8) (ap : Ent → Bool) : (saysT ap (readP S).1).2 = ((readP S).2.1 == 0) ∧ 0 ≤ (saysT ap (readP S).1).1 ∧ (saysT ap (readP S).1).1 ≤ 99 := by
  rcases readP_cases S with ⟨h0, h, _⟩ | ⟨h0, h⟩
  · obtain ⟨h1, h2, _⟩ := read_in h
    have hex : ∃ x ∈ (readP S).1, x.dflt = true := by
      have : 0 < ((readP S).1.filter fun x => x.dflt).length := by omega
      obtain ⟨x, hx⟩ := List.exists_mem_of_length_pos this
      rw [List.mem_filter] at hx
      exact ⟨x, hx.1, hx.2⟩
    obtain ⟨i, x, hw, hx⟩ := which_some ap (readP S).1 hex
    have e2 : saysT ap (readP S).1 = (x.action, true) := by unfold saysT; rw [hw]; simp only [List.getD_eq_getElem?_getD, hx]; rfl
    have ha := (h1 x (List.mem_of_getElem? hx)).act
    rw [e2, h0]
    exact ⟨rfl, ha.1, ha.2⟩
  · rw [h]
    have : saysT ap [] = (0, false) := rfl
    rw [this]
    refine ⟨?_, by decide, by decide⟩
    have : ((readP S).2.1 == 0) = false := by simpa using h0
    rw [this]

set_option maxHeartbeats 4000000 in
theorem lawSWhole_any (s : ByteArray) (hs : s.size ≤ maxLen) (L : List Int) (hL : Byt L) (w : World) (hP : Places w) :
    Calls Tryd.prog 7 #[.string s, .agg (hv L)] w fun e w' => e = .returned (.bool true) ∧ Below w.heap.size w w' := by
  have hLl := hL.1
  have hp := hP.pos
  have AW : Hid (∀ W, Below w.heap.size w W → Calls Tryd.prog 9 #[] W fun e w' => e = .returned (.bool true) ∧ Below W.heap.size W w') := fun W hb => awake7_any W (hP.later hp hb)
  have RD : Hid (∀ W, Calls Tryd.prog 10 #[.string s] W fun e w' => ∃ v, e = .returned (.tuple #[v, .int .i64 (readP s.data.toList).2.1, .int .i64 (readP s.data.toList).2.2]) ∧ EntsOwn W.heap.size w' (readP s.data.toList).1 v ∧ Below W.heap.size W w') := read_any s hs
  have SA : Hid (∀ W v, EntsAt W v (readP s.data.toList).1 → Below w.heap.size w W → Calls Tryd.prog 19 #[v, .agg (hv L)] W fun e w' => e = .returned (.tuple #[.int .i64 (saysT (applyT L) (readP s.data.toList).1).1, .bool (saysT (applyT L) (readP s.data.toList).1).2]) ∧ Below W.heap.size W w') := fun W v h hb => says_any _ v W h (ents32_of _) L hL (hP.later hp hb)
  obtain ⟨h1, h2, h3⟩ := says_whole s.data.toList (applyT L)
  obtain ⟨X, hX⟩ : ∃ X, X = readP s.data.toList := ⟨_, rfl⟩
  rw [← hX] at RD SA h1 h2 h3
  obtain ⟨⟨a, b⟩, hab⟩ : ∃ ab, ab = saysT (applyT L) X.1 := ⟨_, rfl⟩
  rw [← hab] at SA h1 h2 h3
  simp only at SA h1 h2 h3
  obtain ⟨l, E, A⟩ := X
  simp only at RD SA h1
  have KN : Hid ((w.alloc (.cells (hv L) 37)).heap[w.heap.size]? = some (.cells (hv L) 37 (0, 0)) ∧ Below w.heap.size w (w.alloc (.cells (hv L) 37))) := ⟨heap_new _ _ _ rfl, (Below.refl _ _).alloc (Nat.le_refl _) _⟩
  subst h1
  have hbb : ((E == 0) == (E == 0)) = true := by simp
  clear hX hab hs hP hp
  go_enter Tryd.func7, Tryd.ntmps7
  go_wp2_with fail
  refine (AW.out _ KN.out.2).mono ?_
  rintro e w1 ⟨rfl, hb1⟩
  have R1 : Hid (w1.heap[w.heap.size]? = some (.cells (hv L) 37 (0, 0))) := (hb1.block _ (by simp)).trans KN.out.1
  have B1 : Hid (Below w.heap.size w w1) := KN.out.2.trans (hb1.mono KN.out.2.size)
  have z1 : Hid (w.heap.size < w1.heap.size) := (Array.getElem?_eq_some_iff.1 R1.out).1
  clear hb1
  go_wp2_with fail
  refine (RD.out _).mono ?_
  rintro e w2 ⟨v, rfl, ho2, hb2⟩
  have HE : Hid (EntsAt w2 v l) := ents_sl ho2
  have R2 : Hid (w2.heap[w.heap.size]? = some (.cells (hv L) 37 (0, 0))) := (hb2.block _ z1.out).trans R1.out
  have B2 : Hid (Below w.heap.size w w2) := B1.out.trans (hb2.mono B1.out.size)
  clear hb2 ho2
  go_wp2_with (refine wl_load26 rfl _ rfl w.heap.size rfl L R2.out hLl ?_)
  refine (SA.out _ _ HE.out B2.out).mono ?_
  rintro e w3 ⟨rfl, hb3⟩
  have B3 : Hid (Below w.heap.size w w3) := B2.out.trans (hb3.mono B2.out.size)
  clear hb3
  go_wp2_with fail
  go_ret
  exact ⟨rfl, B3.out⟩
end Go.Proofs.YtfamnloobmdhdaaDoor
