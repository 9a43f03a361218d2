import Derived.Test.YtfamnloobmdhdaaDoorSnRef
namespace Go.Proofs.YtfamnloobmdhdaaDoor
open Go Go.RowKit
set_option maxRecDepth 20000

set_option maxHeartbeats 16000000 in
set_option maxRecDepth 100000 in
theorem rapplies_any (x : Ent) (hx : ent32 x) (L : List Int) (hL : Byt L) (w : World) :
    Calls Tryd.prog 17 #[.agg (entV x), .agg (hv L)] w fun e w' => e = .returned (.bool (applyT L x)) ∧ Below w.heap.size w w' := by
  have hl := hL.1
  obtain ⟨Wa, hWa⟩ : ∃ Wa, Wa = (w.alloc (.cells (entV x) 35)).alloc (.cells (hv L) 37) := ⟨_, rfl⟩
  have b1 : Wa.heap[w.heap.size]? = some (.cells (entV x) 35 (0, 0)) := by rw [hWa]; exact heap_past _ _ _ _ (heap_new _ _ _ rfl)
  have b2 : Wa.heap[w.heap.size + 1]? = some (.cells (hv L) 37 (0, 0)) := by rw [hWa]; exact heap_new _ _ _ (by simp)
  have HBA : Hid (Below w.heap.size w Wa) := by rw [hWa]; exact below2 _ _ _
  have d0 := (ent_f b1).1
  rw [hWa] at d0
  cases hd : x.dflt with
  | true =>
    rw [hd] at d0
    rw [show applyT L x = true by unfold applyT; rw [hd]; rfl]
    rw [hWa] at HBA
    clear b1 b2 hWa
    go_enter Tryd.func17, Tryd.ntmps17
    go_wp2_with fail
    go_ret
    exact ⟨rfl, HBA.out⟩
  | false =>
    rw [hd] at d0
    rw [show applyT L x = applyR L x by unfold applyT; rw [hd]; rfl]
    have FD0 : Hid (∀ W, Calls Tryd.prog 36 #[.agg (hv L), .int .i64 0] W fun e w' => e = .returned (.int .i64 (fldN L 0)) ∧ Below W.heap.size W w') := fun W => number7_any L hL 0 (by decide) (by decide) W
    have fb0 := fldN_bd L hL 0 (by decide) (by decide)
    have FD1 : Hid (∀ W, Calls Tryd.prog 36 #[.agg (hv L), .int .i64 1] W fun e w' => e = .returned (.int .i64 (fldN L 1)) ∧ Below W.heap.size W w') := fun W => number7_any L hL 1 (by decide) (by decide) W
    have fb1 := fldN_bd L hL 1 (by decide) (by decide)
    have FD2 : Hid (∀ W, Calls Tryd.prog 36 #[.agg (hv L), .int .i64 2] W fun e w' => e = .returned (.int .i64 (fldN L 2)) ∧ Below W.heap.size W w') := fun W => number7_any L hL 2 (by decide) (by decide) W
    have fb2 := fldN_bd L hL 2 (by decide) (by decide)
    have FD3 : Hid (∀ W, Calls Tryd.prog 36 #[.agg (hv L), .int .i64 3] W fun e w' => e = .returned (.int .i64 (fldN L 3)) ∧ Below W.heap.size W w') := fun W => number7_any L hL 3 (by decide) (by decide) W
    have fb3 := fldN_bd L hL 3 (by decide) (by decide)
    have FD4 : Hid (∀ W, Calls Tryd.prog 36 #[.agg (hv L), .int .i64 4] W fun e w' => e = .returned (.int .i64 (fldN L 4)) ∧ Below W.heap.size W w') := fun W => number7_any L hL 4 (by decide) (by decide) W
    have fb4 := fldN_bd L hL 4 (by decide) (by decide)
    have HR : Hid (applyR L x = (beginsM (fldN L 0) x.src x.srcBits && beginsM (fldN L 1) x.dst x.dstBits && (decide (x.slow ≤ fldN L 2) && decide (fldN L 2 ≤ x.shigh)) && (decide (x.dlow ≤ fldN L 3) && decide (fldN L 3 ≤ x.dhigh)) && (x.proto == -1 || x.proto == fldN L 4))) := rfl
    obtain ⟨F0, hF0⟩ : ∃ F, F = fldN L 0 := ⟨_, rfl⟩
    rw [← hF0] at FD0 fb0 HR
    clear hF0
    obtain ⟨F1, hF1⟩ : ∃ F, F = fldN L 1 := ⟨_, rfl⟩
    rw [← hF1] at FD1 fb1 HR
    clear hF1
    obtain ⟨F2, hF2⟩ : ∃ F, F = fldN L 2 := ⟨_, rfl⟩
    rw [← hF2] at FD2 fb2 HR
    clear hF2
    obtain ⟨F3, hF3⟩ : ∃ F, F = fldN L 3 := ⟨_, rfl⟩
    rw [← hF3] at FD3 fb3 HR
    clear hF3
    obtain ⟨F4, hF4⟩ : ∃ F, F = fldN L 4 := ⟨_, rfl⟩
    rw [← hF4] at FD4 fb4 HR
    clear hF4
    have BG1 : Hid (∀ W, Calls Tryd.prog 35 #[.int .u32 F0, .int .u32 x.src, .int .i64 x.srcBits] W fun e w' => e = .returned (.bool (beginsM F0 x.src x.srcBits)) ∧ Below W.heap.size W w') := refBegins_any _ _ _ fb0 hx.1
    have BG2 : Hid (∀ W, Calls Tryd.prog 35 #[.int .u32 F1, .int .u32 x.dst, .int .i64 x.dstBits] W fun e w' => e = .returned (.bool (beginsM F1 x.dst x.dstBits)) ∧ Below W.heap.size W w') := refBegins_any _ _ _ fb1 hx.2
    have p01 := fb0.1
    have p02 := fb0.2
    have p11 := fb1.1
    have p12 := fb1.2
    obtain ⟨c1, hc1⟩ : ∃ c, c = beginsM F0 x.src x.srcBits := ⟨_, rfl⟩
    obtain ⟨c2, hc2⟩ : ∃ c, c = beginsM F1 x.dst x.dstBits := ⟨_, rfl⟩
    rw [← hc1] at BG1 HR
    rw [← hc2] at BG2 HR
    clear hc1 hc2 fb0 fb1 fb2 fb3 fb4 hx hd
    have l2 : ∀ u : Later Wa, u.world.cell? ⟨w.heap.size, 2, none⟩ = some (.int .u32 x.src) := later_cell7 b1 rfl
    have l3 : ∀ u : Later Wa, u.world.cell? ⟨w.heap.size, 3, none⟩ = some (.int .i64 x.srcBits) := later_cell7 b1 rfl
    have l4 : ∀ u : Later Wa, u.world.cell? ⟨w.heap.size, 4, none⟩ = some (.int .u32 x.dst) := later_cell7 b1 rfl
    have l5 : ∀ u : Later Wa, u.world.cell? ⟨w.heap.size, 5, none⟩ = some (.int .i64 x.dstBits) := later_cell7 b1 rfl
    have ne1 := Later.ne Wa
    cases c1 with
    | false =>
      rw [hWa] at HBA
      go_enter Tryd.func17, Tryd.ntmps17
      go_wp2_with fail
      rw [← hWa]
      rw [← hWa] at HBA
      refine wp_region_later (by kernel_rfl) (by kernel_rfl) ?_
      refine qlH rfl _ rfl (w.heap.size + 1) rfl L b2 hl ?_
      simp only [Act.put, List.setIfInBounds_toArray, List.set_cons_succ, List.set_cons_zero]
      go_big_quiet_want; go_big_quiet_op
      refine ⟨_, fun u => Calls.later_of (FD0.out u.world), ?_⟩
      go_big_quiet_on
      go_big_quiet_step (rfl)
      go_big_quiet_step (rfl)
      go_big_quiet_step (rfl)
      go_big_quiet_step (rfl)
      go_big_quiet_step (rfl)
      go_big_quiet_want; go_big_quiet_op
      refine ⟨_, fun u => Calls.later_of (BG1.out u.world), ?_⟩
      go_big_quiet_on
      go_big_quiet_step (rfl)
      go_big_quiet_step (rfl)
      go_big_quiet_step (rfl)
      go_big_quiet_step (rfl)
      go_big_quiet_step (rfl)
      go_big_quiet_step (rfl)
      go_big_quiet_step (rfl)
      go_big_quiet_step (rfl)
      go_big_quiet_step (rfl)
      go_big_quiet_step (rfl)
      go_big_quiet_step (rfl)
      go_big_quiet_step (rfl)
      refine wpQuiet_nil ?_
      rintro w' ⟨v, rfl⟩
      go_wp2_with fail
      go_ret
      rw [HR.out]
      exact ⟨by simp, HBA.out.trans (v.below.mono HBA.out.size)⟩
    | true =>
      cases c2 with
      | false =>
        rw [hWa] at HBA
        go_enter Tryd.func17, Tryd.ntmps17
        go_wp2_with fail
        rw [← hWa]
        rw [← hWa] at HBA
        refine wp_region_later (by kernel_rfl) (by kernel_rfl) ?_
        refine qlH rfl _ rfl (w.heap.size + 1) rfl L b2 hl ?_
        simp only [Act.put, List.setIfInBounds_toArray, List.set_cons_succ, List.set_cons_zero]
        go_big_quiet_want; go_big_quiet_op
        refine ⟨_, fun u => Calls.later_of (FD0.out u.world), ?_⟩
        go_big_quiet_on
        go_big_quiet_step (rfl)
        go_big_quiet_step (rfl)
        go_big_quiet_step (rfl)
        go_big_quiet_step (rfl)
        go_big_quiet_step (rfl)
        go_big_quiet_want; go_big_quiet_op
        refine ⟨_, fun u => Calls.later_of (BG1.out u.world), ?_⟩
        go_big_quiet_on
        go_big_quiet_step (rfl)
        go_big_quiet_step (rfl)
        refine qlH rfl _ rfl (w.heap.size + 1) rfl L b2 hl ?_
        simp only [Act.put, List.setIfInBounds_toArray, List.set_cons_succ, List.set_cons_zero]
        go_big_quiet_want; go_big_quiet_op
        refine ⟨_, fun u => Calls.later_of (FD1.out u.world), ?_⟩
        go_big_quiet_on
        go_big_quiet_step (rfl)
        go_big_quiet_step (rfl)
        go_big_quiet_step (rfl)
        go_big_quiet_step (rfl)
        go_big_quiet_step (rfl)
        go_big_quiet_want; go_big_quiet_op
        refine ⟨_, fun u => Calls.later_of (BG2.out u.world), ?_⟩
        go_big_quiet_on
        go_big_quiet_step (rfl)
        go_big_quiet_step (rfl)
        refine wpQuiet_nil ?_
        rintro w' ⟨v, rfl⟩
        go_wp2_with fail
        go_ret
        rw [HR.out]
        exact ⟨by simp, HBA.out.trans (v.below.mono HBA.out.size)⟩
      | true =>
        rw [hWa] at HBA
        go_enter Tryd.func17, Tryd.ntmps17
        go_wp2_with fail
        rw [← hWa]
        rw [← hWa] at HBA
        refine wp_region_later (by kernel_rfl) (by kernel_rfl) ?_
        refine qlH rfl _ rfl (w.heap.size + 1) rfl L b2 hl ?_
        simp only [Act.put, List.setIfInBounds_toArray, List.set_cons_succ, List.set_cons_zero]
        go_big_quiet_want; go_big_quiet_op
        refine ⟨_, fun u => Calls.later_of (FD0.out u.world), ?_⟩
        go_big_quiet_on
        go_big_quiet_step (rfl)
        go_big_quiet_step (rfl)
        go_big_quiet_step (rfl)
        go_big_quiet_step (rfl)
        go_big_quiet_step (rfl)
        go_big_quiet_want; go_big_quiet_op
        refine ⟨_, fun u => Calls.later_of (BG1.out u.world), ?_⟩
        go_big_quiet_on
        go_big_quiet_step (rfl)
        go_big_quiet_step (rfl)
        refine qlH rfl _ rfl (w.heap.size + 1) rfl L b2 hl ?_
        simp only [Act.put, List.setIfInBounds_toArray, List.set_cons_succ, List.set_cons_zero]
        go_big_quiet_want; go_big_quiet_op
        refine ⟨_, fun u => Calls.later_of (FD1.out u.world), ?_⟩
        go_big_quiet_on
        go_big_quiet_step (rfl)
        go_big_quiet_step (rfl)
        go_big_quiet_step (rfl)
        go_big_quiet_step (rfl)
        go_big_quiet_step (rfl)
        go_big_quiet_want; go_big_quiet_op
        refine ⟨_, fun u => Calls.later_of (BG2.out u.world), ?_⟩
        go_big_quiet_on
        go_big_quiet_step (rfl)
        go_big_quiet_step (rfl)
        refine wpQuiet_nil ?_
        rintro w' ⟨v, rfl⟩
        have k1 := later_block b1 _ ⟨v, rfl⟩
        have k2 : Hid (v.world.heap[w.heap.size + 1]? = some (.cells (hv L) 37 (0, 0))) := later_block b2 _ ⟨v, rfl⟩
        have K1 : Hid (v.world.heap[w.heap.size]? = some (.cells (entV x) 35 (0, 0))) := k1
        have BV : Hid (Below w.heap.size w v.world) := HBA.out.trans (v.below.mono HBA.out.size)
        obtain ⟨W1, hW1⟩ : ∃ W1, W1 = v.world := ⟨_, rfl⟩
        rw [← hW1] at k2 K1 BV ⊢
        clear hW1 l2 l3 l4 l5 ne1 b1 b2 hWa HBA k1
        go_wp2_with (refine wl_load26 rfl _ rfl (w.heap.size + 1) rfl L k2.out hl ?_)
        refine (FD2.out _).mono ?_
        rintro e w2 ⟨rfl, hb2⟩
        have z2 : w.heap.size + 1 < W1.heap.size := (Array.getElem?_eq_some_iff.1 k2.out).1
        have k3 : Hid (w2.heap[w.heap.size + 1]? = some (.cells (hv L) 37 (0, 0))) := (hb2.block _ z2).trans k2.out
        have K3 : Hid (w2.heap[w.heap.size]? = some (.cells (entV x) 35 (0, 0))) := (hb2.block _ (by omega)).trans K1.out
        have BW2 : Hid (Below w.heap.size w w2) := BV.out.trans (hb2.mono BV.out.size)
        have z3 : w.heap.size + 1 < w2.heap.size := (Array.getElem?_eq_some_iff.1 k3.out).1
        clear hb2 z2
        go_wp2_with (refine wl_load26 rfl _ rfl (w.heap.size + 1) rfl L k3.out hl ?_)
        refine (FD3.out _).mono ?_
        rintro e w4 ⟨rfl, hb4⟩
        have b5 : w4.heap[w.heap.size + 1]? = some (.cells (hv L) 37 (0, 0)) := (hb4.block _ z3).trans k3.out
        have b4 : w4.heap[w.heap.size]? = some (.cells (entV x) 35 (0, 0)) := (hb4.block _ (by omega)).trans K3.out
        have BW4 : Hid (Below w.heap.size w w4) := BW2.out.trans (hb4.mono BW2.out.size)
        clear hb4 z3
        have l6 : ∀ u : Later w4, u.world.cell? ⟨w.heap.size, 6, none⟩ = some (.int .i64 x.slow) := later_cell7 b4 rfl
        have l7 : ∀ u : Later w4, u.world.cell? ⟨w.heap.size, 7, none⟩ = some (.int .i64 x.shigh) := later_cell7 b4 rfl
        have l8 : ∀ u : Later w4, u.world.cell? ⟨w.heap.size, 8, none⟩ = some (.int .i64 x.dlow) := later_cell7 b4 rfl
        have l9 : ∀ u : Later w4, u.world.cell? ⟨w.heap.size, 9, none⟩ = some (.int .i64 x.dhigh) := later_cell7 b4 rfl
        have l10 : ∀ u : Later w4, u.world.cell? ⟨w.heap.size, 10, none⟩ = some (.int .i64 x.proto) := later_cell7 b4 rfl
        have ne1 := Later.ne w4
        by_cases q1 : x.slow ≤ F2
        · have q1t : decide (x.slow ≤ F2) = true := decide_eq_true q1
          by_cases q2 : F2 ≤ x.shigh
          · have q2t : decide (F2 ≤ x.shigh) = true := decide_eq_true q2
            by_cases q3 : x.dlow ≤ F3
            · have q3t : decide (x.dlow ≤ F3) = true := decide_eq_true q3
              by_cases q4 : F3 ≤ x.dhigh
              · have q4t : decide (F3 ≤ x.dhigh) = true := decide_eq_true q4
                by_cases p1 : x.proto = -1
                · have p1' : (x.proto == -1) = true := by simp [p1]
                  have P1 : Hid (x.proto = -1) := p1
                  clear p1
                  go_wp2_with fail
                  refine wp_region_later (by kernel_rfl) (by kernel_rfl) ?_
                  go_big_quiet_step (rfl)
                  go_big_quiet_step (rfl)
                  go_big_quiet_step (rfl)
                  go_big_quiet_step (rfl)
                  go_big_quiet_step (rfl)
                  go_big_quiet_step (rfl)
                  go_big_quiet_step (rfl)
                  go_big_quiet_step (rfl)
                  go_big_quiet_step (rfl)
                  go_big_quiet_step (rfl)
                  go_big_quiet_step (rfl)
                  go_big_quiet_step (rfl)
                  go_big_quiet_step (rfl)
                  go_big_quiet_step (rfl)
                  go_big_quiet_step (rfl)
                  go_big_quiet_step (rfl)
                  go_big_quiet_step (rfl)
                  go_big_quiet_step (rfl)
                  go_big_quiet_step (rfl)
                  go_big_quiet_step (rfl)
                  go_big_quiet_step (rfl)
                  go_big_quiet_step (rfl)
                  go_big_quiet_step (rfl)
                  go_big_quiet_step (rfl)
                  go_big_quiet_step (rfl)
                  go_big_quiet_step (rfl)
                  go_big_quiet_step (rfl)
                  go_big_quiet_step (rfl)
                  go_big_quiet_step (rfl)
                  go_big_quiet_step (rfl)
                  go_big_quiet_step (rfl)
                  go_big_quiet_step (rfl)
                  go_big_quiet_step (rfl)
                  go_big_quiet_step (rfl)
                  go_big_quiet_step (rfl)
                  refine wpQuiet_nil ?_
                  rintro w' ⟨v, rfl⟩
                  go_wp2_with fail
                  go_ret
                  rw [HR.out]
                  refine ⟨?_, BW4.out.trans (v.below.mono BW4.out.size)⟩
                  rw [q1t, q2t, q3t, q4t, P1.out]
                  rfl
                · have p1' : (x.proto == -1) = false := by simp [p1]
                  have P1 : Hid ((x.proto == -1) = false) := p1'
                  clear p1
                  go_wp2_with fail
                  refine wp_region_later (by kernel_rfl) (by kernel_rfl) ?_
                  go_big_quiet_step (rfl)
                  go_big_quiet_step (rfl)
                  go_big_quiet_step (rfl)
                  go_big_quiet_step (rfl)
                  go_big_quiet_step (rfl)
                  go_big_quiet_step (rfl)
                  go_big_quiet_step (rfl)
                  go_big_quiet_step (rfl)
                  go_big_quiet_step (rfl)
                  go_big_quiet_step (rfl)
                  go_big_quiet_step (rfl)
                  go_big_quiet_step (rfl)
                  go_big_quiet_step (rfl)
                  go_big_quiet_step (rfl)
                  go_big_quiet_step (rfl)
                  go_big_quiet_step (rfl)
                  go_big_quiet_step (rfl)
                  go_big_quiet_step (rfl)
                  go_big_quiet_step (rfl)
                  go_big_quiet_step (rfl)
                  go_big_quiet_step (rfl)
                  go_big_quiet_step (rfl)
                  go_big_quiet_step (rfl)
                  go_big_quiet_step (rfl)
                  go_big_quiet_step (rfl)
                  go_big_quiet_step (rfl)
                  go_big_quiet_step (rfl)
                  go_big_quiet_step (rfl)
                  go_big_quiet_step (rfl)
                  refine qlH rfl _ rfl (w.heap.size + 1) rfl L b5 hl ?_
                  simp only [Act.put, List.setIfInBounds_toArray, List.set_cons_succ, List.set_cons_zero]
                  go_big_quiet_want; go_big_quiet_op
                  refine ⟨_, fun u => Calls.later_of (FD4.out u.world), ?_⟩
                  go_big_quiet_on
                  go_big_quiet_step (rfl)
                  go_big_quiet_step (rfl)
                  go_big_quiet_step (rfl)
                  go_big_quiet_step (rfl)
                  refine wpQuiet_nil ?_
                  rintro w' ⟨v, rfl⟩
                  go_wp2_with fail
                  go_ret
                  rw [HR.out]
                  refine ⟨?_, BW4.out.trans (v.below.mono BW4.out.size)⟩
                  rw [q1t, q2t, q3t, q4t, P1.out]
                  simp
              · have q4f : decide (F3 ≤ x.dhigh) = false := decide_eq_false q4
                go_wp2_with fail
                refine wp_region_later (by kernel_rfl) (by kernel_rfl) ?_
                go_big_quiet_step (rfl)
                go_big_quiet_step (rfl)
                go_big_quiet_step (rfl)
                go_big_quiet_step (rfl)
                go_big_quiet_step (rfl)
                go_big_quiet_step (rfl)
                go_big_quiet_step (rfl)
                go_big_quiet_step (rfl)
                go_big_quiet_step (rfl)
                go_big_quiet_step (rfl)
                go_big_quiet_step (rfl)
                go_big_quiet_step (rfl)
                go_big_quiet_step (rfl)
                go_big_quiet_step (rfl)
                go_big_quiet_step (rfl)
                go_big_quiet_step (rfl)
                go_big_quiet_step (rfl)
                go_big_quiet_step (rfl)
                go_big_quiet_step (rfl)
                go_big_quiet_step (rfl)
                go_big_quiet_step (rfl)
                go_big_quiet_step (rfl)
                go_big_quiet_step (rfl)
                go_big_quiet_step (rfl)
                go_big_quiet_step (rfl)
                go_big_quiet_step (rfl)
                go_big_quiet_step (rfl)
                go_big_quiet_step (rfl)
                go_big_quiet_step (rfl)
                go_big_quiet_step (rfl)
                go_big_quiet_step (rfl)
                go_big_quiet_step (rfl)
                go_big_quiet_step (rfl)
                go_big_quiet_step (rfl)
                go_big_quiet_step (rfl)
                refine wpQuiet_nil ?_
                rintro w' ⟨v, rfl⟩
                go_wp2_with fail
                go_ret
                rw [HR.out]
                refine ⟨?_, BW4.out.trans (v.below.mono BW4.out.size)⟩
                rw [q4f]
                simp
            · have q3f : decide (x.dlow ≤ F3) = false := decide_eq_false q3
              go_wp2_with fail
              refine wp_region_later (by kernel_rfl) (by kernel_rfl) ?_
              go_big_quiet_step (rfl)
              go_big_quiet_step (rfl)
              go_big_quiet_step (rfl)
              go_big_quiet_step (rfl)
              go_big_quiet_step (rfl)
              go_big_quiet_step (rfl)
              go_big_quiet_step (rfl)
              go_big_quiet_step (rfl)
              go_big_quiet_step (rfl)
              go_big_quiet_step (rfl)
              go_big_quiet_step (rfl)
              go_big_quiet_step (rfl)
              go_big_quiet_step (rfl)
              go_big_quiet_step (rfl)
              go_big_quiet_step (rfl)
              go_big_quiet_step (rfl)
              go_big_quiet_step (rfl)
              go_big_quiet_step (rfl)
              go_big_quiet_step (rfl)
              go_big_quiet_step (rfl)
              go_big_quiet_step (rfl)
              go_big_quiet_step (rfl)
              go_big_quiet_step (rfl)
              go_big_quiet_step (rfl)
              go_big_quiet_step (rfl)
              go_big_quiet_step (rfl)
              go_big_quiet_step (rfl)
              go_big_quiet_step (rfl)
              go_big_quiet_step (rfl)
              go_big_quiet_step (rfl)
              go_big_quiet_step (rfl)
              go_big_quiet_step (rfl)
              go_big_quiet_step (rfl)
              go_big_quiet_step (rfl)
              go_big_quiet_step (rfl)
              refine wpQuiet_nil ?_
              rintro w' ⟨v, rfl⟩
              go_wp2_with fail
              go_ret
              rw [HR.out]
              refine ⟨?_, BW4.out.trans (v.below.mono BW4.out.size)⟩
              rw [q3f]
              simp
          · have q2f : decide (F2 ≤ x.shigh) = false := decide_eq_false q2
            go_wp2_with fail
            refine wp_region_later (by kernel_rfl) (by kernel_rfl) ?_
            go_big_quiet_step (rfl)
            go_big_quiet_step (rfl)
            go_big_quiet_step (rfl)
            go_big_quiet_step (rfl)
            go_big_quiet_step (rfl)
            go_big_quiet_step (rfl)
            go_big_quiet_step (rfl)
            go_big_quiet_step (rfl)
            go_big_quiet_step (rfl)
            go_big_quiet_step (rfl)
            go_big_quiet_step (rfl)
            go_big_quiet_step (rfl)
            go_big_quiet_step (rfl)
            go_big_quiet_step (rfl)
            go_big_quiet_step (rfl)
            go_big_quiet_step (rfl)
            go_big_quiet_step (rfl)
            go_big_quiet_step (rfl)
            go_big_quiet_step (rfl)
            go_big_quiet_step (rfl)
            go_big_quiet_step (rfl)
            go_big_quiet_step (rfl)
            go_big_quiet_step (rfl)
            go_big_quiet_step (rfl)
            go_big_quiet_step (rfl)
            go_big_quiet_step (rfl)
            go_big_quiet_step (rfl)
            go_big_quiet_step (rfl)
            go_big_quiet_step (rfl)
            go_big_quiet_step (rfl)
            go_big_quiet_step (rfl)
            go_big_quiet_step (rfl)
            go_big_quiet_step (rfl)
            go_big_quiet_step (rfl)
            go_big_quiet_step (rfl)
            refine wpQuiet_nil ?_
            rintro w' ⟨v, rfl⟩
            go_wp2_with fail
            go_ret
            rw [HR.out]
            refine ⟨?_, BW4.out.trans (v.below.mono BW4.out.size)⟩
            rw [q2f]
            simp
        · have q1f : decide (x.slow ≤ F2) = false := decide_eq_false q1
          go_wp2_with fail
          refine wp_region_later (by kernel_rfl) (by kernel_rfl) ?_
          go_big_quiet_step (rfl)
          go_big_quiet_step (rfl)
          go_big_quiet_step (rfl)
          go_big_quiet_step (rfl)
          go_big_quiet_step (rfl)
          go_big_quiet_step (rfl)
          go_big_quiet_step (rfl)
          go_big_quiet_step (rfl)
          go_big_quiet_step (rfl)
          go_big_quiet_step (rfl)
          go_big_quiet_step (rfl)
          go_big_quiet_step (rfl)
          go_big_quiet_step (rfl)
          go_big_quiet_step (rfl)
          go_big_quiet_step (rfl)
          go_big_quiet_step (rfl)
          go_big_quiet_step (rfl)
          go_big_quiet_step (rfl)
          go_big_quiet_step (rfl)
          go_big_quiet_step (rfl)
          go_big_quiet_step (rfl)
          go_big_quiet_step (rfl)
          go_big_quiet_step (rfl)
          go_big_quiet_step (rfl)
          go_big_quiet_step (rfl)
          go_big_quiet_step (rfl)
          go_big_quiet_step (rfl)
          go_big_quiet_step (rfl)
          go_big_quiet_step (rfl)
          go_big_quiet_step (rfl)
          go_big_quiet_step (rfl)
          go_big_quiet_step (rfl)
          go_big_quiet_step (rfl)
          go_big_quiet_step (rfl)
          go_big_quiet_step (rfl)
          refine wpQuiet_nil ?_
          rintro w' ⟨v, rfl⟩
          go_wp2_with fail
          go_ret
          rw [HR.out]
          refine ⟨?_, BW4.out.trans (v.below.mono BW4.out.size)⟩
          rw [q1f]
          simp

set_option maxHeartbeats 4000000 in
theorem lawSApplies_any (x : Ent) (hx : ent32 x) (L : List Int) (hL : Byt L) (w : World) (hP : Places w) :
    Calls Tryd.prog 5 #[.agg (entV x), .agg (hv L)] w fun e w' => e = .returned (.bool true) ∧ Below w.heap.size w w' := by
  have hl := hL.1
  have hp := hP.pos
  have AW : Hid (∀ W, Below w.heap.size w W → Calls Tryd.prog 9 #[] W fun e w' => e = .returned (.bool true) ∧ Below W.heap.size W w') := fun W hb => awake7_any W (hP.later hp hb)
  have AP : Hid (∀ W, Below w.heap.size w W → Calls Tryd.prog 16 #[.agg (entV x), .agg (hv L)] W fun e w' => e = .returned (.bool (applyT L x)) ∧ Below W.heap.size W w') := fun W hb => applies_any x hx L hL W (hP.later hp hb)
  have RA : Hid (∀ W, Calls Tryd.prog 17 #[.agg (entV x), .agg (hv L)] W fun e w' => e = .returned (.bool (applyT L x)) ∧ Below W.heap.size W w') := fun W => rapplies_any x hx L hL W
  obtain ⟨b, hb⟩ : ∃ b, b = applyT L x := ⟨_, rfl⟩
  rw [← hb] at AP RA
  have b1 : Hid (((w.alloc (.cells (entV x) 35)).alloc (.cells (hv L) 37)).heap[w.heap.size]? = some (.cells (entV x) 35 (0, 0))) := heap_past _ _ _ _ (heap_new _ _ _ rfl)
  have b2 : Hid (((w.alloc (.cells (entV x) 35)).alloc (.cells (hv L) 37)).heap[w.heap.size + 1]? = some (.cells (hv L) 37 (0, 0))) := heap_new _ _ _ (by simp)
  have B0 : Hid (Below w.heap.size w ((w.alloc (.cells (entV x) 35)).alloc (.cells (hv L) 37))) := below2 _ _ _
  clear hb hP hp hx
  go_enter Tryd.func5, Tryd.ntmps5
  go_wp2_with fail
  refine (AW.out _ B0.out).mono ?_
  rintro e w1 ⟨rfl, hb1⟩
  have r1 : w1.heap[w.heap.size]? = some (.cells (entV x) 35 (0, 0)) := (hb1.block _ (by simp; omega)).trans b1.out
  have r2 : w1.heap[w.heap.size + 1]? = some (.cells (hv L) 37 (0, 0)) := (hb1.block _ (by simp)).trans b2.out
  have B1 : Hid (Below w.heap.size w w1) := B0.out.trans (hb1.mono (by simp; omega))
  clear hb1 b1 b2 B0
  go_wp2_with fail
  have ne1 := Later.ne w1
  refine wp_region_later (by kernel_rfl) (by kernel_rfl) ?_
  refine qlE (E := EntE) EntOk rfl _ rfl w.heap.size 0 rfl _ _ _ (entV x) rfl (later_block r1) (own_cells _ _) ?_
  simp only [Act.put, List.setIfInBounds_toArray, List.set_cons_succ, List.set_cons_zero]
  refine qlH rfl _ rfl (w.heap.size + 1) rfl L r2 hl ?_
  simp only [Act.put, List.setIfInBounds_toArray, List.set_cons_succ, List.set_cons_zero]
  go_big_quiet_want; go_big_quiet_op
  refine ⟨_, fun u => Calls.later_of (AP.out u.world (B1.out.trans (u.below.mono B1.out.size))), ?_⟩
  go_big_quiet_on
  refine qlE (E := EntE) EntOk rfl _ rfl w.heap.size 0 rfl _ _ _ (entV x) rfl (later_block r1) (own_cells _ _) ?_
  simp only [Act.put, List.setIfInBounds_toArray, List.set_cons_succ, List.set_cons_zero]
  refine qlH rfl _ rfl (w.heap.size + 1) rfl L r2 hl ?_
  simp only [Act.put, List.setIfInBounds_toArray, List.set_cons_succ, List.set_cons_zero]
  go_big_quiet_want; go_big_quiet_op
  refine ⟨_, fun u => Calls.later_of (RA.out u.world), ?_⟩
  go_big_quiet_on
  go_big_quiet_step (rfl)
  go_big_quiet_step (rfl)
  refine wpQuiet_nil ?_
  rintro w' ⟨v, rfl⟩
  go_wp2_with fail
  go_ret
  refine ⟨?_, B1.out.trans (v.below.mono B1.out.size)⟩
  cases b <;> rfl
end Go.Proofs.YtfamnloobmdhdaaDoor
