import Derived.Test.YtfamnloobmdhdaaDoorJ10
namespace Go.Proofs.YtfamnloobmdhdaaDoor
open Go Go.RowKit
set_option maxRecDepth 20000

def applyR (L : List Int) (x : Ent) : Bool := beginsM (fldN L 0) x.src x.srcBits && beginsM (fldN L 1) x.dst x.dstBits && (decide (x.slow ≤ fldN L 2) && decide (fldN L 2 ≤ x.shigh)) && (decide (x.dlow ≤ fldN L 3) && decide (fldN L 3 ≤ x.dhigh)) && (x.proto == -1 || x.proto == fldN L 4)
/-- Does an entry apply to a header? -/
def applyT (L : List Int) (x : Ent) : Bool := x.dflt || applyR L x
/-- An entry's addresses are numbers of 32 bits. -/
def ent32 (x : Ent) : Prop := (0 ≤ x.src ∧ x.src < 4294967296) ∧ (0 ≤ x.dst ∧ x.dst < 4294967296)
theorem ent_f {w : World} {b : Nat} {x : Ent} {ty : TypeId} {fr : Nat × Nat} (h : w.heap[b]? = some (.cells (entV x) ty fr)) :
    w.cell? ⟨b, 0, none⟩ = some (.bool x.dflt) ∧ w.cell? ⟨b, 1, none⟩ = some (.int .i64 x.prio) ∧ w.cell? ⟨b, 11, none⟩ = some (.int .i64 x.action) := by
  refine ⟨?_, ?_, ?_⟩ <;> (rw [cell_of_row _ _ _ _ _ _ h]; rfl)

set_option maxHeartbeats 16000000 in
set_option maxRecDepth 100000 in
theorem applies_any (x : Ent) (hx : ent32 x) (L : List Int) (hL : Byt L) (w : World) (hP : Places w) :
    Calls Tryd.prog 16 #[.agg (entV x), .agg (hv L)] w fun e w' => e = .returned (.bool (applyT L x)) ∧ Below w.heap.size w w' := by
  have hl := hL.1
  have hp := hP.pos
  obtain ⟨Wa, hWa⟩ : ∃ Wa, Wa = (w.alloc (.cells (entV x) 35)).alloc (.cells (hv L) 37) := ⟨_, rfl⟩
  have b1 : Wa.heap[w.heap.size]? = some (.cells (entV x) 35 (0, 0)) := by rw [hWa]; exact heap_past _ _ _ _ (heap_new _ _ _ rfl)
  have b2 : Wa.heap[w.heap.size + 1]? = some (.cells (hv L) 37 (0, 0)) := by rw [hWa]; exact heap_new _ _ _ (by simp)
  have BA : Below w.heap.size w Wa := by rw [hWa]; exact below2 _ _ _
  have PA : Places Wa := hP.later hp BA
  have pa := PA.pos
  have HBA : Hid (Below w.heap.size w Wa) := BA
  have d0 := (ent_f b1).1
  rw [hWa] at d0
  cases hd : x.dflt with
  | true =>
    rw [hd] at d0
    rw [show applyT L x = true by unfold applyT; rw [hd]; rfl]
    rw [hWa] at HBA
    clear b1 b2 BA PA hWa hP
    go_enter Tryd.func16, Tryd.ntmps16
    go_wp2_with fail
    go_ret
    exact ⟨rfl, HBA.out⟩
  | false =>
    rw [hd] at d0
    rw [show applyT L x = applyR L x by unfold applyT; rw [hd]; rfl]
    have FD0 : Hid (∀ u : Later Wa, Calls Tryd.prog 33 #[.agg (hv L), .int .i64 0] u.world fun e w' => e = .returned (.int .u32 (fldN L 0)) ∧ Below u.world.heap.size u.world w') := fun u => field7_any L hL 0 (by decide) (by decide) u.world (PA.later pa u.below)
    have fb0 := fldN_bd L hL 0 (by decide) (by decide)
    have FD1 : Hid (∀ u : Later Wa, Calls Tryd.prog 33 #[.agg (hv L), .int .i64 1] u.world fun e w' => e = .returned (.int .u32 (fldN L 1)) ∧ Below u.world.heap.size u.world w') := fun u => field7_any L hL 1 (by decide) (by decide) u.world (PA.later pa u.below)
    have fb1 := fldN_bd L hL 1 (by decide) (by decide)
    have FD2 : Hid (∀ u : Later Wa, Calls Tryd.prog 33 #[.agg (hv L), .int .i64 2] u.world fun e w' => e = .returned (.int .u32 (fldN L 2)) ∧ Below u.world.heap.size u.world w') := fun u => field7_any L hL 2 (by decide) (by decide) u.world (PA.later pa u.below)
    have fb2 := fldN_bd L hL 2 (by decide) (by decide)
    have FD3 : Hid (∀ u : Later Wa, Calls Tryd.prog 33 #[.agg (hv L), .int .i64 3] u.world fun e w' => e = .returned (.int .u32 (fldN L 3)) ∧ Below u.world.heap.size u.world w') := fun u => field7_any L hL 3 (by decide) (by decide) u.world (PA.later pa u.below)
    have fb3 := fldN_bd L hL 3 (by decide) (by decide)
    have FD4 : Hid (∀ u : Later Wa, Calls Tryd.prog 33 #[.agg (hv L), .int .i64 4] u.world fun e w' => e = .returned (.int .u32 (fldN L 4)) ∧ Below u.world.heap.size u.world w') := fun u => field7_any L hL 4 (by decide) (by decide) u.world (PA.later pa u.below)
    have fb4 := fldN_bd L hL 4 (by decide) (by decide)
    have HR : Hid (applyR L x = (beginsM (fldN L 0) x.src x.srcBits && beginsM (fldN L 1) x.dst x.dstBits && (decide (x.slow ≤ fldN L 2) && decide (fldN L 2 ≤ x.shigh)) && (decide (x.dlow ≤ fldN L 3) && decide (fldN L 3 ≤ x.dhigh)) && (x.proto == -1 || x.proto == fldN L 4))) := rfl
    obtain ⟨F0, hF0⟩ : ∃ F, F = fldN L 0 := ⟨_, rfl⟩
    rw [← hF0] at FD0 fb0 HR
    clear hF0
    obtain ⟨F1, hF1⟩ : ∃ F, F = fldN L 1 := ⟨_, rfl⟩
    rw [← hF1] at FD1 fb1 HR
    clear hF1
    obtain ⟨F2, hF2⟩ : ∃ F, F = fldN L 2 := ⟨_, rfl⟩
    rw [← hF2] at FD2 fb2 HR
    clear hF2
    obtain ⟨F3, hF3⟩ : ∃ F, F = fldN L 3 := ⟨_, rfl⟩
    rw [← hF3] at FD3 fb3 HR
    clear hF3
    obtain ⟨F4, hF4⟩ : ∃ F, F = fldN L 4 := ⟨_, rfl⟩
    rw [← hF4] at FD4 fb4 HR
    clear hF4
    have BG1 : Hid (∀ W, Calls Tryd.prog 32 #[.int .u32 F0, .int .u32 x.src, .int .i64 x.srcBits] W fun e w' => e = .returned (.bool (beginsM F0 x.src x.srcBits)) ∧ w' = W) := begins7_any _ _ _ fb0 hx.1
    have BG2 : Hid (∀ W, Calls Tryd.prog 32 #[.int .u32 F1, .int .u32 x.dst, .int .i64 x.dstBits] W fun e w' => e = .returned (.bool (beginsM F1 x.dst x.dstBits)) ∧ w' = W) := begins7_any _ _ _ fb1 hx.2
    have WI1 : Hid (∀ W, Calls Tryd.prog 34 #[.int .u32 F2, .int .i64 x.slow, .int .i64 x.shigh] W fun e w' => e = .returned (.bool (decide (x.slow ≤ F2) && decide (F2 ≤ x.shigh))) ∧ w' = W) := within_any _ _ _ fb2
    have WI2 : Hid (∀ W, Calls Tryd.prog 34 #[.int .u32 F3, .int .i64 x.dlow, .int .i64 x.dhigh] W fun e w' => e = .returned (.bool (decide (x.dlow ≤ F3) && decide (F3 ≤ x.dhigh))) ∧ w' = W) := within_any _ _ _ fb3
    have p41 := fb4.1
    have p42 := fb4.2
    have HP2 : Hid (0 ≤ F4 ∧ F4 < 4294967296) := fb4
    obtain ⟨c1, hc1⟩ : ∃ c, c = beginsM F0 x.src x.srcBits := ⟨_, rfl⟩
    obtain ⟨c2, hc2⟩ : ∃ c, c = beginsM F1 x.dst x.dstBits := ⟨_, rfl⟩
    obtain ⟨c3, hc3⟩ : ∃ c, c = (decide (x.slow ≤ F2) && decide (F2 ≤ x.shigh)) := ⟨_, rfl⟩
    obtain ⟨c4, hc4⟩ : ∃ c, c = (decide (x.dlow ≤ F3) && decide (F3 ≤ x.dhigh)) := ⟨_, rfl⟩
    rw [← hc1] at BG1 HR
    rw [← hc2] at BG2 HR
    rw [← hc3] at WI1 HR
    rw [← hc4] at WI2 HR
    clear hc1 hc2 hc3 hc4 fb0 fb1 fb2 fb3 fb4 PA pa hP hp BA hx hd
    have l2 : ∀ u : Later Wa, u.world.cell? ⟨w.heap.size, 2, none⟩ = some (.int .u32 x.src) := later_cell7 b1 rfl
    have l3 : ∀ u : Later Wa, u.world.cell? ⟨w.heap.size, 3, none⟩ = some (.int .i64 x.srcBits) := later_cell7 b1 rfl
    have l4 : ∀ u : Later Wa, u.world.cell? ⟨w.heap.size, 4, none⟩ = some (.int .u32 x.dst) := later_cell7 b1 rfl
    have l5 : ∀ u : Later Wa, u.world.cell? ⟨w.heap.size, 5, none⟩ = some (.int .i64 x.dstBits) := later_cell7 b1 rfl
    have l6 : ∀ u : Later Wa, u.world.cell? ⟨w.heap.size, 6, none⟩ = some (.int .i64 x.slow) := later_cell7 b1 rfl
    have l7 : ∀ u : Later Wa, u.world.cell? ⟨w.heap.size, 7, none⟩ = some (.int .i64 x.shigh) := later_cell7 b1 rfl
    have l8 : ∀ u : Later Wa, u.world.cell? ⟨w.heap.size, 8, none⟩ = some (.int .i64 x.dlow) := later_cell7 b1 rfl
    have l9 : ∀ u : Later Wa, u.world.cell? ⟨w.heap.size, 9, none⟩ = some (.int .i64 x.dhigh) := later_cell7 b1 rfl
    have l10 : ∀ u : Later Wa, u.world.cell? ⟨w.heap.size, 10, none⟩ = some (.int .i64 x.proto) := later_cell7 b1 rfl
    have ne1 := Later.ne Wa
    cases c1 with
    | false =>
      rw [hWa] at HBA
      go_enter Tryd.func16, Tryd.ntmps16
      go_wp2_with fail
      rw [← hWa]
      refine wp_region_later (by kernel_rfl) (by kernel_rfl) ?_
      refine qlH rfl _ rfl (w.heap.size + 1) rfl L b2 hl ?_
      simp only [Act.put, List.setIfInBounds_toArray, List.set_cons_succ, List.set_cons_zero]
      go_big_quiet_want; go_big_quiet_op
      refine ⟨_, fun u => Calls.later_of (FD0.out u), ?_⟩
      go_big_quiet_on
      go_big_quiet_step (rfl)
      go_big_quiet_step (rfl)
      go_big_quiet_step (rfl)
      go_big_quiet_step (rfl)
      go_big_quiet_want; go_big_quiet_op
      refine ⟨_, fun u => Calls.later_same (BG1.out u.world), ?_⟩
      go_big_quiet_on
      go_big_quiet_step (rfl)
      go_big_quiet_step (rfl)
      go_big_quiet_step (rfl)
      go_big_quiet_step (rfl)
      go_big_quiet_step (rfl)
      go_big_quiet_step (rfl)
      go_big_quiet_step (rfl)
      go_big_quiet_step (rfl)
      go_big_quiet_step (rfl)
      go_big_quiet_step (rfl)
      go_big_quiet_step (rfl)
      go_big_quiet_step (rfl)
      go_big_quiet_step (rfl)
      go_big_quiet_step (rfl)
      go_big_quiet_step (rfl)
      go_big_quiet_step (rfl)
      go_big_quiet_step (rfl)
      go_big_quiet_step (rfl)
      go_big_quiet_step (rfl)
      go_big_quiet_step (rfl)
      go_big_quiet_step (rfl)
      go_big_quiet_step (rfl)
      go_big_quiet_step (rfl)
      go_big_quiet_step (rfl)
      go_big_quiet_step (rfl)
      go_big_quiet_step (rfl)
      go_big_quiet_step (rfl)
      go_big_quiet_step (rfl)
      go_big_quiet_step (rfl)
      go_big_quiet_step (rfl)
      go_big_quiet_step (rfl)
      go_big_quiet_step (rfl)
      go_big_quiet_step (rfl)
      go_big_quiet_step (rfl)
      go_big_quiet_step (rfl)
      go_big_quiet_step (rfl)
      go_big_quiet_step (rfl)
      go_big_quiet_step (rfl)
      go_big_quiet_step (rfl)
      go_big_quiet_step (rfl)
      go_big_quiet_step (rfl)
      refine wpQuiet_nil ?_
      rintro w' ⟨v, rfl⟩
      go_wp2_with fail
      go_ret
      rw [HR.out]
      rw [← hWa] at HBA
      refine ⟨?_, HBA.out.trans (v.below.mono HBA.out.size)⟩
      simp
    | true =>
      cases c2 with
      | false =>
        rw [hWa] at HBA
        go_enter Tryd.func16, Tryd.ntmps16
        go_wp2_with fail
        rw [← hWa]
        refine wp_region_later (by kernel_rfl) (by kernel_rfl) ?_
        refine qlH rfl _ rfl (w.heap.size + 1) rfl L b2 hl ?_
        simp only [Act.put, List.setIfInBounds_toArray, List.set_cons_succ, List.set_cons_zero]
        go_big_quiet_want; go_big_quiet_op
        refine ⟨_, fun u => Calls.later_of (FD0.out u), ?_⟩
        go_big_quiet_on
        go_big_quiet_step (rfl)
        go_big_quiet_step (rfl)
        go_big_quiet_step (rfl)
        go_big_quiet_step (rfl)
        go_big_quiet_want; go_big_quiet_op
        refine ⟨_, fun u => Calls.later_same (BG1.out u.world), ?_⟩
        go_big_quiet_on
        go_big_quiet_step (rfl)
        refine qlH rfl _ rfl (w.heap.size + 1) rfl L b2 hl ?_
        simp only [Act.put, List.setIfInBounds_toArray, List.set_cons_succ, List.set_cons_zero]
        go_big_quiet_want; go_big_quiet_op
        refine ⟨_, fun u => Calls.later_of (FD1.out u), ?_⟩
        go_big_quiet_on
        go_big_quiet_step (rfl)
        go_big_quiet_step (rfl)
        go_big_quiet_step (rfl)
        go_big_quiet_step (rfl)
        go_big_quiet_want; go_big_quiet_op
        refine ⟨_, fun u => Calls.later_same (BG2.out u.world), ?_⟩
        go_big_quiet_on
        go_big_quiet_step (rfl)
        go_big_quiet_step (rfl)
        go_big_quiet_step (rfl)
        go_big_quiet_step (rfl)
        go_big_quiet_step (rfl)
        go_big_quiet_step (rfl)
        go_big_quiet_step (rfl)
        go_big_quiet_step (rfl)
        go_big_quiet_step (rfl)
        go_big_quiet_step (rfl)
        go_big_quiet_step (rfl)
        go_big_quiet_step (rfl)
        go_big_quiet_step (rfl)
        go_big_quiet_step (rfl)
        go_big_quiet_step (rfl)
        go_big_quiet_step (rfl)
        go_big_quiet_step (rfl)
        go_big_quiet_step (rfl)
        go_big_quiet_step (rfl)
        go_big_quiet_step (rfl)
        go_big_quiet_step (rfl)
        go_big_quiet_step (rfl)
        go_big_quiet_step (rfl)
        go_big_quiet_step (rfl)
        go_big_quiet_step (rfl)
        go_big_quiet_step (rfl)
        go_big_quiet_step (rfl)
        go_big_quiet_step (rfl)
        go_big_quiet_step (rfl)
        go_big_quiet_step (rfl)
        go_big_quiet_step (rfl)
        go_big_quiet_step (rfl)
        go_big_quiet_step (rfl)
        refine wpQuiet_nil ?_
        rintro w' ⟨v, rfl⟩
        go_wp2_with fail
        go_ret
        rw [HR.out]
        rw [← hWa] at HBA
        refine ⟨?_, HBA.out.trans (v.below.mono HBA.out.size)⟩
        simp
      | true =>
        cases c3 with
        | false =>
          rw [hWa] at HBA
          go_enter Tryd.func16, Tryd.ntmps16
          go_wp2_with fail
          rw [← hWa]
          refine wp_region_later (by kernel_rfl) (by kernel_rfl) ?_
          refine qlH rfl _ rfl (w.heap.size + 1) rfl L b2 hl ?_
          simp only [Act.put, List.setIfInBounds_toArray, List.set_cons_succ, List.set_cons_zero]
          go_big_quiet_want; go_big_quiet_op
          refine ⟨_, fun u => Calls.later_of (FD0.out u), ?_⟩
          go_big_quiet_on
          go_big_quiet_step (rfl)
          go_big_quiet_step (rfl)
          go_big_quiet_step (rfl)
          go_big_quiet_step (rfl)
          go_big_quiet_want; go_big_quiet_op
          refine ⟨_, fun u => Calls.later_same (BG1.out u.world), ?_⟩
          go_big_quiet_on
          go_big_quiet_step (rfl)
          refine qlH rfl _ rfl (w.heap.size + 1) rfl L b2 hl ?_
          simp only [Act.put, List.setIfInBounds_toArray, List.set_cons_succ, List.set_cons_zero]
          go_big_quiet_want; go_big_quiet_op
          refine ⟨_, fun u => Calls.later_of (FD1.out u), ?_⟩
          go_big_quiet_on
          go_big_quiet_step (rfl)
          go_big_quiet_step (rfl)
          go_big_quiet_step (rfl)
          go_big_quiet_step (rfl)
          go_big_quiet_want; go_big_quiet_op
          refine ⟨_, fun u => Calls.later_same (BG2.out u.world), ?_⟩
          go_big_quiet_on
          go_big_quiet_step (rfl)
          go_big_quiet_step (rfl)
          refine qlH rfl _ rfl (w.heap.size + 1) rfl L b2 hl ?_
          simp only [Act.put, List.setIfInBounds_toArray, List.set_cons_succ, List.set_cons_zero]
          go_big_quiet_want; go_big_quiet_op
          refine ⟨_, fun u => Calls.later_of (FD2.out u), ?_⟩
          go_big_quiet_on
          go_big_quiet_step (rfl)
          go_big_quiet_step (rfl)
          go_big_quiet_step (rfl)
          go_big_quiet_step (rfl)
          go_big_quiet_want; go_big_quiet_op
          refine ⟨_, fun u => Calls.later_same (WI1.out u.world), ?_⟩
          go_big_quiet_on
          go_big_quiet_step (rfl)
          go_big_quiet_step (rfl)
          go_big_quiet_step (rfl)
          go_big_quiet_step (rfl)
          go_big_quiet_step (rfl)
          go_big_quiet_step (rfl)
          go_big_quiet_step (rfl)
          go_big_quiet_step (rfl)
          go_big_quiet_step (rfl)
          go_big_quiet_step (rfl)
          go_big_quiet_step (rfl)
          go_big_quiet_step (rfl)
          go_big_quiet_step (rfl)
          go_big_quiet_step (rfl)
          go_big_quiet_step (rfl)
          go_big_quiet_step (rfl)
          go_big_quiet_step (rfl)
          go_big_quiet_step (rfl)
          go_big_quiet_step (rfl)
          go_big_quiet_step (rfl)
          go_big_quiet_step (rfl)
          go_big_quiet_step (rfl)
          go_big_quiet_step (rfl)
          go_big_quiet_step (rfl)
          refine wpQuiet_nil ?_
          rintro w' ⟨v, rfl⟩
          go_wp2_with fail
          go_ret
          rw [HR.out]
          rw [← hWa] at HBA
          refine ⟨?_, HBA.out.trans (v.below.mono HBA.out.size)⟩
          simp
        | true =>
          cases c4 with
          | false =>
            rw [hWa] at HBA
            go_enter Tryd.func16, Tryd.ntmps16
            go_wp2_with fail
            rw [← hWa]
            refine wp_region_later (by kernel_rfl) (by kernel_rfl) ?_
            refine qlH rfl _ rfl (w.heap.size + 1) rfl L b2 hl ?_
            simp only [Act.put, List.setIfInBounds_toArray, List.set_cons_succ, List.set_cons_zero]
            go_big_quiet_want; go_big_quiet_op
            refine ⟨_, fun u => Calls.later_of (FD0.out u), ?_⟩
            go_big_quiet_on
            go_big_quiet_step (rfl)
            go_big_quiet_step (rfl)
            go_big_quiet_step (rfl)
            go_big_quiet_step (rfl)
            go_big_quiet_want; go_big_quiet_op
            refine ⟨_, fun u => Calls.later_same (BG1.out u.world), ?_⟩
            go_big_quiet_on
            go_big_quiet_step (rfl)
            refine qlH rfl _ rfl (w.heap.size + 1) rfl L b2 hl ?_
            simp only [Act.put, List.setIfInBounds_toArray, List.set_cons_succ, List.set_cons_zero]
            go_big_quiet_want; go_big_quiet_op
            refine ⟨_, fun u => Calls.later_of (FD1.out u), ?_⟩
            go_big_quiet_on
            go_big_quiet_step (rfl)
            go_big_quiet_step (rfl)
            go_big_quiet_step (rfl)
            go_big_quiet_step (rfl)
            go_big_quiet_want; go_big_quiet_op
            refine ⟨_, fun u => Calls.later_same (BG2.out u.world), ?_⟩
            go_big_quiet_on
            go_big_quiet_step (rfl)
            go_big_quiet_step (rfl)
            refine qlH rfl _ rfl (w.heap.size + 1) rfl L b2 hl ?_
            simp only [Act.put, List.setIfInBounds_toArray, List.set_cons_succ, List.set_cons_zero]
            go_big_quiet_want; go_big_quiet_op
            refine ⟨_, fun u => Calls.later_of (FD2.out u), ?_⟩
            go_big_quiet_on
            go_big_quiet_step (rfl)
            go_big_quiet_step (rfl)
            go_big_quiet_step (rfl)
            go_big_quiet_step (rfl)
            go_big_quiet_want; go_big_quiet_op
            refine ⟨_, fun u => Calls.later_same (WI1.out u.world), ?_⟩
            go_big_quiet_on
            go_big_quiet_step (rfl)
            go_big_quiet_step (rfl)
            refine qlH rfl _ rfl (w.heap.size + 1) rfl L b2 hl ?_
            simp only [Act.put, List.setIfInBounds_toArray, List.set_cons_succ, List.set_cons_zero]
            go_big_quiet_want; go_big_quiet_op
            refine ⟨_, fun u => Calls.later_of (FD3.out u), ?_⟩
            go_big_quiet_on
            go_big_quiet_step (rfl)
            go_big_quiet_step (rfl)
            go_big_quiet_step (rfl)
            go_big_quiet_step (rfl)
            go_big_quiet_want; go_big_quiet_op
            refine ⟨_, fun u => Calls.later_same (WI2.out u.world), ?_⟩
            go_big_quiet_on
            go_big_quiet_step (rfl)
            go_big_quiet_step (rfl)
            go_big_quiet_step (rfl)
            go_big_quiet_step (rfl)
            go_big_quiet_step (rfl)
            go_big_quiet_step (rfl)
            go_big_quiet_step (rfl)
            go_big_quiet_step (rfl)
            go_big_quiet_step (rfl)
            go_big_quiet_step (rfl)
            go_big_quiet_step (rfl)
            go_big_quiet_step (rfl)
            go_big_quiet_step (rfl)
            go_big_quiet_step (rfl)
            go_big_quiet_step (rfl)
            refine wpQuiet_nil ?_
            rintro w' ⟨v, rfl⟩
            go_wp2_with fail
            go_ret
            rw [HR.out]
            rw [← hWa] at HBA
            refine ⟨?_, HBA.out.trans (v.below.mono HBA.out.size)⟩
            simp
          | true =>
            by_cases p1 : x.proto = -1
            · have p1' : (x.proto == -1) = true := by simp [p1]
              rw [hWa] at HBA
              have P1 : Hid (x.proto = -1) := p1
              clear p1
              go_enter Tryd.func16, Tryd.ntmps16
              go_wp2_with fail
              rw [← hWa]
              refine wp_region_later (by kernel_rfl) (by kernel_rfl) ?_
              refine qlH rfl _ rfl (w.heap.size + 1) rfl L b2 hl ?_
              simp only [Act.put, List.setIfInBounds_toArray, List.set_cons_succ, List.set_cons_zero]
              go_big_quiet_want; go_big_quiet_op
              refine ⟨_, fun u => Calls.later_of (FD0.out u), ?_⟩
              go_big_quiet_on
              go_big_quiet_step (rfl)
              go_big_quiet_step (rfl)
              go_big_quiet_step (rfl)
              go_big_quiet_step (rfl)
              go_big_quiet_want; go_big_quiet_op
              refine ⟨_, fun u => Calls.later_same (BG1.out u.world), ?_⟩
              go_big_quiet_on
              go_big_quiet_step (rfl)
              refine qlH rfl _ rfl (w.heap.size + 1) rfl L b2 hl ?_
              simp only [Act.put, List.setIfInBounds_toArray, List.set_cons_succ, List.set_cons_zero]
              go_big_quiet_want; go_big_quiet_op
              refine ⟨_, fun u => Calls.later_of (FD1.out u), ?_⟩
              go_big_quiet_on
              go_big_quiet_step (rfl)
              go_big_quiet_step (rfl)
              go_big_quiet_step (rfl)
              go_big_quiet_step (rfl)
              go_big_quiet_want; go_big_quiet_op
              refine ⟨_, fun u => Calls.later_same (BG2.out u.world), ?_⟩
              go_big_quiet_on
              go_big_quiet_step (rfl)
              go_big_quiet_step (rfl)
              refine qlH rfl _ rfl (w.heap.size + 1) rfl L b2 hl ?_
              simp only [Act.put, List.setIfInBounds_toArray, List.set_cons_succ, List.set_cons_zero]
              go_big_quiet_want; go_big_quiet_op
              refine ⟨_, fun u => Calls.later_of (FD2.out u), ?_⟩
              go_big_quiet_on
              go_big_quiet_step (rfl)
              go_big_quiet_step (rfl)
              go_big_quiet_step (rfl)
              go_big_quiet_step (rfl)
              go_big_quiet_want; go_big_quiet_op
              refine ⟨_, fun u => Calls.later_same (WI1.out u.world), ?_⟩
              go_big_quiet_on
              go_big_quiet_step (rfl)
              go_big_quiet_step (rfl)
              refine qlH rfl _ rfl (w.heap.size + 1) rfl L b2 hl ?_
              simp only [Act.put, List.setIfInBounds_toArray, List.set_cons_succ, List.set_cons_zero]
              go_big_quiet_want; go_big_quiet_op
              refine ⟨_, fun u => Calls.later_of (FD3.out u), ?_⟩
              go_big_quiet_on
              go_big_quiet_step (rfl)
              go_big_quiet_step (rfl)
              go_big_quiet_step (rfl)
              go_big_quiet_step (rfl)
              go_big_quiet_want; go_big_quiet_op
              refine ⟨_, fun u => Calls.later_same (WI2.out u.world), ?_⟩
              go_big_quiet_on
              go_big_quiet_step (rfl)
              go_big_quiet_step (rfl)
              go_big_quiet_step (rfl)
              go_big_quiet_step (rfl)
              go_big_quiet_step (rfl)
              go_big_quiet_step (rfl)
              go_big_quiet_step (rfl)
              go_big_quiet_step (rfl)
              go_big_quiet_step (rfl)
              go_big_quiet_step (rfl)
              go_big_quiet_step (rfl)
              go_big_quiet_step (rfl)
              go_big_quiet_step (rfl)
              go_big_quiet_step (rfl)
              go_big_quiet_step (rfl)
              refine wpQuiet_nil ?_
              rintro w' ⟨v, rfl⟩
              go_wp2_with fail
              go_ret
              rw [HR.out]
              rw [← hWa] at HBA
              refine ⟨?_, HBA.out.trans (v.below.mono HBA.out.size)⟩
              rw [P1.out]
              rfl
            · have p1' : (x.proto == -1) = false := by simp [p1]
              rw [hWa] at HBA
              have P1 : Hid ((x.proto == -1) = false) := p1'
              clear p1
              go_enter Tryd.func16, Tryd.ntmps16
              go_wp2_with fail
              rw [← hWa]
              refine wp_region_later (by kernel_rfl) (by kernel_rfl) ?_
              refine qlH rfl _ rfl (w.heap.size + 1) rfl L b2 hl ?_
              simp only [Act.put, List.setIfInBounds_toArray, List.set_cons_succ, List.set_cons_zero]
              go_big_quiet_want; go_big_quiet_op
              refine ⟨_, fun u => Calls.later_of (FD0.out u), ?_⟩
              go_big_quiet_on
              go_big_quiet_step (rfl)
              go_big_quiet_step (rfl)
              go_big_quiet_step (rfl)
              go_big_quiet_step (rfl)
              go_big_quiet_want; go_big_quiet_op
              refine ⟨_, fun u => Calls.later_same (BG1.out u.world), ?_⟩
              go_big_quiet_on
              go_big_quiet_step (rfl)
              refine qlH rfl _ rfl (w.heap.size + 1) rfl L b2 hl ?_
              simp only [Act.put, List.setIfInBounds_toArray, List.set_cons_succ, List.set_cons_zero]
              go_big_quiet_want; go_big_quiet_op
              refine ⟨_, fun u => Calls.later_of (FD1.out u), ?_⟩
              go_big_quiet_on
              go_big_quiet_step (rfl)
              go_big_quiet_step (rfl)
              go_big_quiet_step (rfl)
              go_big_quiet_step (rfl)
              go_big_quiet_want; go_big_quiet_op
              refine ⟨_, fun u => Calls.later_same (BG2.out u.world), ?_⟩
              go_big_quiet_on
              go_big_quiet_step (rfl)
              go_big_quiet_step (rfl)
              refine qlH rfl _ rfl (w.heap.size + 1) rfl L b2 hl ?_
              simp only [Act.put, List.setIfInBounds_toArray, List.set_cons_succ, List.set_cons_zero]
              go_big_quiet_want; go_big_quiet_op
              refine ⟨_, fun u => Calls.later_of (FD2.out u), ?_⟩
              go_big_quiet_on
              go_big_quiet_step (rfl)
              go_big_quiet_step (rfl)
              go_big_quiet_step (rfl)
              go_big_quiet_step (rfl)
              go_big_quiet_want; go_big_quiet_op
              refine ⟨_, fun u => Calls.later_same (WI1.out u.world), ?_⟩
              go_big_quiet_on
              go_big_quiet_step (rfl)
              go_big_quiet_step (rfl)
              refine qlH rfl _ rfl (w.heap.size + 1) rfl L b2 hl ?_
              simp only [Act.put, List.setIfInBounds_toArray, List.set_cons_succ, List.set_cons_zero]
              go_big_quiet_want; go_big_quiet_op
              refine ⟨_, fun u => Calls.later_of (FD3.out u), ?_⟩
              go_big_quiet_on
              go_big_quiet_step (rfl)
              go_big_quiet_step (rfl)
              go_big_quiet_step (rfl)
              go_big_quiet_step (rfl)
              go_big_quiet_want; go_big_quiet_op
              refine ⟨_, fun u => Calls.later_same (WI2.out u.world), ?_⟩
              go_big_quiet_on
              go_big_quiet_step (rfl)
              go_big_quiet_step (rfl)
              go_big_quiet_step (rfl)
              go_big_quiet_step (rfl)
              go_big_quiet_step (rfl)
              go_big_quiet_step (rfl)
              go_big_quiet_step (rfl)
              go_big_quiet_step (rfl)
              refine qlH rfl _ rfl (w.heap.size + 1) rfl L b2 hl ?_
              simp only [Act.put, List.setIfInBounds_toArray, List.set_cons_succ, List.set_cons_zero]
              go_big_quiet_want; go_big_quiet_op
              refine ⟨_, fun u => Calls.later_of (FD4.out u), ?_⟩
              go_big_quiet_on
              go_big_quiet_step (rfl)
              go_big_quiet_step (rfl)
              go_big_quiet_step (rfl)
              go_big_quiet_step (rfl)
              go_big_quiet_step (rfl)
              refine wpQuiet_nil ?_
              rintro w' ⟨v, rfl⟩
              go_wp2_with fail
              go_ret
              rw [HR.out]
              rw [← hWa] at HBA
              refine ⟨?_, HBA.out.trans (v.below.mono HBA.out.size)⟩
              rw [P1.out]
              simp
end Go.Proofs.YtfamnloobmdhdaaDoor
namespace Go.Proofs.YtfamnloobmdhdaaDoor
open Go Go.RowKit
set_option maxRecDepth 20000

theorem ent_prio {x : Ent} {cur : Array Value} {off k : Nat} (h : ∀ j, j < 12 → cur[off + k * 12 + j]? = (entV x)[j]?) : cur[off + k * 12 + 1]? = some (.int .i64 x.prio) := h 1 (by decide)
theorem ent_act {x : Ent} {cur : Array Value} {off k : Nat} (h : ∀ j, j < 12 → cur[off + k * 12 + j]? = (entV x)[j]?) : cur[off + k * 12 + 11]? = some (.int .i64 x.action) := h 11 (by decide)
theorem step_no {ap : Ent → Bool} {b : Option (Nat × Int)} {i : Nat} {x : Ent} (h : (!x.dflt && ap x && beats x.prio b) = false) : stepB ap b i x = b := by unfold stepB; rw [h]; rfl
theorem step_yes {ap : Ent → Bool} {b : Option (Nat × Int)} {i : Nat} {x : Ent} (h : (!x.dflt && ap x && beats x.prio b) = true) : stepB ap b i x = some (i, x.prio) := by unfold stepB; rw [h]; rfl

set_option maxHeartbeats 16000000 in
set_option maxRecDepth 100000 in
theorem which_any (l : List Ent) (vl : Value) (w : World) (hl : EntsAt w vl l) (h32 : ∀ x ∈ l, ent32 x) (L : List Int) (hL : Byt L) (hP : Places w) :
    Calls Tryd.prog 18 #[vl, .agg (hv L)] w fun e w' => e = .returned (.int .i64 (whichI (applyT L) l)) ∧ Below w.heap.size w w' := by
  have hLl := hL.1
  have hp := hP.pos
  have AP : Hid (∀ (x : Ent) W, ent32 x → Below w.heap.size w W → Calls Tryd.prog 16 #[.agg (entV x), .agg (hv L)] W fun e w' => e = .returned (.bool (applyT L x)) ∧ Below W.heap.size W w') := fun x W h1 h2 => applies_any x h1 L hL W (hP.later hp h2)
  obtain ⟨o, cap, rfl, hc1, hc2⟩ := GSl.slice hl
  obtain ⟨n, hn⟩ : ∃ n, n = l.length := ⟨_, rfl⟩
  have HN : Hid (n = l.length) := hn
  rw [← hn] at hl hc1 ⊢
  have HL : Hid (EntsAt w (.slice o n cap) l) := hl
  have H32 : Hid (∀ x ∈ l, ent32 x) := h32
  unfold maxLen at hc2
  have HW : Hid (whichI (applyT L) l = if bestI (bestK (applyT L) l n) < 0 then atW (restK l n) else bestI (bestK (applyT L) l n)) := by rw [HN.out]; exact whichI_eq _ _
  obtain ⟨ap, hap⟩ : ∃ ap, ap = applyT L := ⟨_, rfl⟩
  rw [← hap] at HW AP ⊢
  have KN : Hid ((w.alloc (.cells (hv L) 37)).heap[w.heap.size]? = some (.cells (hv L) 37 (0, 0)) ∧ Below w.heap.size w (w.alloc (.cells (hv L) 37))) := ⟨heap_new _ _ _ rfl, (Below.refl _ _).alloc (Nat.le_refl _) _⟩
  clear hl hn h32 hP hp hap
  go_enter Tryd.func18, Tryd.ntmps18
  go_wp2_with fail
  go_loopw [5, 6, 11] (fun ru re i wr => ∃ k : Nat, k ≤ n ∧ i = .int .i64 (k : Int) ∧ ru = .int .i64 (bestI (bestK ap l k)) ∧ re = .int .i64 (atW (restK l k)) ∧ wr.heap[w.heap.size]? = some (.cells (hv L) 37 (0, 0)) ∧ Below w.heap.size w wr) (fun _ _ i _ => n - (intOf i).toNat)
  case atStart => exact ⟨0, Nat.zero_le _, rfl, rfl, rfl, KN.out.1, KN.out.2⟩
  case round =>
    clear KN
    obtain ⟨k, hk, rfl, rfl, rfl, hr1, hb⟩ := hrel
    have R1 : Hid (wr.heap[w.heap.size]? = some (.cells (hv L) 37 (0, 0))) := hr1
    have HB : Hid (Below w.heap.size w wr) := hb
    clear hr1 hb
    by_cases hlt : k < n
    · have hlt' : (k : Int) < (n : Int) := by omega
      obtain ⟨g, off, cur, ty, fr, x, rfl, hg, hc, hxk⟩ := (GSl.below HL.out HB.out).at k hlt
      have K1 : Hid (wr.heap[g]? = some (.cells cur ty fr)) := hg
      have H1 : Hid (∀ j, j < 12 → cur[off + k * 12 + j]? = (entV x)[j]?) := hc
      have HX : Hid (ent32 x) := H32.out x (List.mem_of_getElem? hxk)
      have BX : Hid (bestK ap l (k + 1) = stepB ap (bestK ap l k) k x) := bestK_next ap hxk
      have RX : Hid (restK l (k + 1) = (restK l k).or (if x.dflt then some k else none)) := restK_next hxk
      have KN : Hid ((wr.alloc (.cells (entV x) 35)).heap[wr.heap.size]? = some (.cells (entV x) 35 (0, 0))) := heap_new _ _ _ rfl
      have BN : Hid (Below wr.heap.size wr (wr.alloc (.cells (entV x) 35))) := (Below.refl _ _).alloc (Nat.le_refl _) _
      have RN : Hid ((wr.alloc (.cells (entV x) 35)).heap[w.heap.size]? = some (.cells (hv L) 37 (0, 0))) := heap_past _ _ _ _ R1.out
      have BWN : Hid (Below w.heap.size w (wr.alloc (.cells (entV x) 35))) := HB.out.trans (BN.out.mono HB.out.size)
      have d0 := (ent_f KN.out).1
      have HLK : Hid (∀ j p, bestK ap l k = some (j, p) → ∃ y, l[j]? = some y ∧ y.prio = p ∧ j < k) := fun j p h => by
        obtain ⟨y, h1, h2, _, _, h5⟩ := bestK_in ap h
        exact ⟨y, h1, h2, h5⟩
      clear hg hc hxk
      cases hd : x.dflt with
      | true =>
        rw [hd] at d0 RX
        have hstep : bestK ap l (k + 1) = bestK ap l k := by rw [BX.out, step_no (by rw [hd]; rfl)]
        have HST : Hid (bestK ap l (k + 1) = bestK ap l k) := hstep
        clear hstep hd
        cases hre : restK l k with
        | none =>
          rw [hre] at RX
          have HRE : Hid (restK l (k + 1) = some k) := RX.out
          rw [show atW none = -1 from rfl]
          go_wp2_with (first
            | (refine wl_loadE (E := EntE) EntOk rfl _ rfl g (off + k * 12) rfl cur ty fr (entV x) rfl K1.out H1.out ?_)
            | (refine wl_storeE (E := EntE) EntOk rfl _ _ rfl wr.heap.size (entV x) (ent_fits _) rfl rfl _ (heap_new _ _ _ rfl) rfl _ (setRow_new _ _ _ _ _ rfl) ?_))
          go_roundw
          case rel => exact ⟨k + 1, by omega, by go_num, by rw [HST.out], by rw [HRE.out]; rfl, RN.out, BWN.out⟩
          case measure => simp [intOf]; omega
        | some j =>
          rw [hre] at RX
          have HRE : Hid (restK l (k + 1) = some j) := RX.out
          rw [show atW (some j) = (j : Int) from rfl]
          have hj0 : ¬ (j : Int) < 0 := by omega
          clear hre
          go_wp2_with (first
            | (refine wl_loadE (E := EntE) EntOk rfl _ rfl g (off + k * 12) rfl cur ty fr (entV x) rfl K1.out H1.out ?_)
            | (refine wl_storeE (E := EntE) EntOk rfl _ _ rfl wr.heap.size (entV x) (ent_fits _) rfl rfl _ (heap_new _ _ _ rfl) rfl _ (setRow_new _ _ _ _ _ rfl) ?_))
          go_roundw
          case rel => exact ⟨k + 1, by omega, by go_num, by rw [HST.out], by rw [HRE.out]; rfl, RN.out, BWN.out⟩
          case measure => simp [intOf]; omega
      | false =>
        rw [hd] at d0 RX
        have HRE : Hid (restK l (k + 1) = restK l k) := by
          show _ = _
          rw [RX.out]
          cases restK l k <;> rfl
        have HDF : Hid (x.dflt = false) := hd
        clear hd
        obtain ⟨re, hre⟩ : ∃ re, re = atW (restK l k) := ⟨_, rfl⟩
        have HRR : Hid (re = atW (restK l (k + 1))) := by rw [HRE.out]; exact hre
        rw [← hre]
        clear hre
        go_wp2_with (first
          | (refine wl_loadE (E := EntE) EntOk rfl _ rfl g (off + k * 12) rfl cur ty fr (entV x) rfl K1.out H1.out ?_)
          | (refine wl_storeE (E := EntE) EntOk rfl _ _ rfl wr.heap.size (entV x) (ent_fits _) rfl rfl _ (heap_new _ _ _ rfl) rfl _ (setRow_new _ _ _ _ _ rfl) ?_)
          | (refine wl_loadE (E := EntE) EntOk rfl _ rfl wr.heap.size 0 rfl _ _ _ (entV x) rfl KN.out (own_cells _ _) ?_)
          | (refine wl_load26 rfl _ rfl w.heap.size rfl L RN.out hLl ?_))
        refine (AP.out x _ HX.out BWN.out).mono ?_
        rintro e w1 ⟨rfl, hb1⟩
        have R2 : Hid (w1.heap[w.heap.size]? = some (.cells (hv L) 37 (0, 0))) := (hb1.block _ (Array.getElem?_eq_some_iff.1 RN.out).1).trans RN.out
        have B2 : Hid (Below w.heap.size w w1) := BWN.out.trans (hb1.mono BWN.out.size)
        have k2 : w1.heap[wr.heap.size]? = some (.cells (entV x) 35 (0, 0)) := (hb1.block _ (by simp)).trans KN.out
        have BR : Hid (Below wr.heap.size wr w1) := BN.out.trans (hb1.mono BN.out.size)
        clear hb1 d0
        cases ha : ap x with
        | false =>
          have HST : Hid (bestK ap l (k + 1) = bestK ap l k) := by
            show _ = _
            rw [BX.out, step_no (by rw [ha]; simp)]
          clear ha
          obtain ⟨be, hbe⟩ : ∃ be, be = bestI (bestK ap l k) := ⟨_, rfl⟩
          have HBE : Hid (be = bestI (bestK ap l (k + 1))) := by rw [HST.out]; exact hbe
          rw [← hbe]
          clear hbe
          go_wp2_with fail
          go_roundw
          case rel => exact ⟨k + 1, by omega, by go_num, by rw [HBE.out], by rw [HRR.out], R2.out, B2.out⟩
          case measure => simp [intOf]; omega
        | true =>
          have HAP : Hid (ap x = true) := ha
          clear ha
          cases hbe : bestK ap l k with
          | none =>
            have HST : Hid (bestK ap l (k + 1) = some (k, x.prio)) := by
              show _ = _
              rw [BX.out, step_yes (by rw [HDF.out, HAP.out, hbe]; rfl)]
            clear hbe
            rw [show bestI none = -1 from rfl]
            have lp : ∀ u : Later w1, u.world.cell? ⟨wr.heap.size, 1, none⟩ = some (.int .i64 x.prio) := later_cell7 k2 rfl
            go_wp2_with fail
            have ne1 := Later.ne w1
            refine wp_region_later (by kernel_rfl) (by kernel_rfl) ?_
            repeat go_big_quiet_step (rfl)
            refine wpQuiet_nil ?_
            rintro w' ⟨v, rfl⟩
            have R3 : Hid (v.world.heap[w.heap.size]? = some (.cells (hv L) 37 (0, 0))) := later_block R2.out _ ⟨v, rfl⟩
            have B3 : Hid (Below w.heap.size w v.world) := B2.out.trans (v.below.mono B2.out.size)
            obtain ⟨W3, hW3⟩ : ∃ W3, W3 = v.world := ⟨_, rfl⟩
            rw [← hW3] at R3 B3 ⊢
            clear hW3 lp ne1
            go_wp2_with fail
            go_roundw
            case rel => exact ⟨k + 1, by omega, by go_num, by rw [HST.out]; rfl, by rw [HRR.out], R3.out, B3.out⟩
            case measure => simp [intOf]; omega
          | some bb =>
            obtain ⟨j, p⟩ := bb
            obtain ⟨y, hy, rfl, hjk⟩ := HLK.out j p hbe
            obtain ⟨g', off', cur', ty', fr', y', e0, hg', hc', hyj⟩ := (GSl.below HL.out HB.out).at j (by omega)
            simp only [Option.some.injEq, Addr.mk.injEq, and_true] at e0
            obtain ⟨rfl, rfl⟩ := e0
            obtain rfl : y = y' := Option.some.inj (hy.symm.trans hyj)
            have lg : ∀ u : Later w1, u.world.cell? ⟨g, off + j * 12 + 1, none⟩ = some (.int .i64 y.prio) := later_cell7 ((BR.out.block g (Array.getElem?_eq_some_iff.1 hg').1).trans hg') (ent_prio hc')
            have lp : ∀ u : Later w1, u.world.cell? ⟨wr.heap.size, 1, none⟩ = some (.int .i64 x.prio) := later_cell7 k2 rfl
            rw [show bestI (some (j, y.prio)) = (j : Int) from rfl]
            have hj0 : decide ((j : Int) < 0) = false := by simp
            have hj1 : (j : Int) < (n : Int) := by omega
            have hjn : j < n := by omega
            by_cases hgt : y.prio < x.prio
            · have hgt' : decide (x.prio > y.prio) = true := by simp; omega
              have HST : Hid (bestK ap l (k + 1) = some (k, x.prio)) := by
                show _ = _
                rw [BX.out, step_yes (by rw [HDF.out, HAP.out, hbe]; simp [beats, hgt])]
              clear hbe hy hyj hg' hc' hgt
              go_wp2_with fail
              have ne1 := Later.ne w1
              refine wp_region_later (by kernel_rfl) (by kernel_rfl) ?_
              repeat go_big_quiet_step (rfl)
              refine wpQuiet_nil ?_
              rintro w' ⟨v, rfl⟩
              have R3 : Hid (v.world.heap[w.heap.size]? = some (.cells (hv L) 37 (0, 0))) := later_block R2.out _ ⟨v, rfl⟩
              have B3 : Hid (Below w.heap.size w v.world) := B2.out.trans (v.below.mono B2.out.size)
              obtain ⟨W3, hW3⟩ : ∃ W3, W3 = v.world := ⟨_, rfl⟩
              rw [← hW3] at R3 B3 ⊢
              clear hW3 lp lg ne1
              go_wp2_with fail
              go_roundw
              case rel => exact ⟨k + 1, by omega, by go_num, by rw [HST.out]; rfl, by rw [HRR.out], R3.out, B3.out⟩
              case measure => simp [intOf]; omega
            · have hgt' : decide (x.prio > y.prio) = false := by simp; omega
              have HST : Hid (bestK ap l (k + 1) = some (j, y.prio)) := by
                show _ = _
                rw [BX.out, step_no (by rw [HDF.out, HAP.out, hbe]; simp [beats, hgt]), hbe]
              clear hbe hy hyj hg' hc' hgt
              go_wp2_with fail
              have ne1 := Later.ne w1
              refine wp_region_later (by kernel_rfl) (by kernel_rfl) ?_
              repeat go_big_quiet_step (rfl)
              refine wpQuiet_nil ?_
              rintro w' ⟨v, rfl⟩
              have R3 : Hid (v.world.heap[w.heap.size]? = some (.cells (hv L) 37 (0, 0))) := later_block R2.out _ ⟨v, rfl⟩
              have B3 : Hid (Below w.heap.size w v.world) := B2.out.trans (v.below.mono B2.out.size)
              obtain ⟨W3, hW3⟩ : ∃ W3, W3 = v.world := ⟨_, rfl⟩
              rw [← hW3] at R3 B3 ⊢
              clear hW3 lp lg ne1
              go_wp2_with fail
              go_roundw
              case rel => exact ⟨k + 1, by omega, by go_num, by rw [HST.out]; rfl, by rw [HRR.out], R3.out, B3.out⟩
              case measure => simp [intOf]; omega
    · have hlt' : (n : Int) ≤ (k : Int) := by omega
      obtain rfl : k = n := by omega
      clear hlt
      by_cases hneg : bestI (bestK ap l k) < 0
      · have HW2 : Hid (whichI ap l = atW (restK l k)) := by rw [HW.out]; exact if_pos hneg
        go_wp2_with fail
        go_ret
        exact ⟨by rw [HW2.out]; rfl, HB.out⟩
      · have HW2 : Hid (whichI ap l = bestI (bestK ap l k)) := by rw [HW.out]; exact if_neg hneg
        go_wp2_with fail
        go_ret
        exact ⟨by rw [HW2.out]; rfl, HB.out⟩
end Go.Proofs.YtfamnloobmdhdaaDoor
