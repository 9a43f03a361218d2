import Derived.Test.YthddlchkbnmcaaaGreatDoorJ33
import Derived.Test.YthddlchkbnmcaaaGreatDoorJ32
namespace Go.Proofs.YthddlchkbnmcaaaGreatDoor
open Go Go.RowKit
set_option maxRecDepth 20000

def applyR (L : List Int) (x : Ent) : Bool := beginsM (fldN L 0) x.src x.srcBits && beginsM (fldN L 1) x.dst x.dstBits && (decide (x.slow ≤ fldN L 2) && decide (fldN L 2 ≤ x.shigh)) && (decide (x.dlow ≤ fldN L 3) && decide (fldN L 3 ≤ x.dhigh)) && (x.proto == -1 || x.proto == fldN L 4)
/-- Does an entry apply to a header? -/
def applyT (L : List Int) (x : Ent) : Bool := x.dflt || applyR L x
/-- An entry's addresses are numbers of 32 bits. -/
def ent32 (x : Ent) : Prop := (0 ≤ x.src ∧ x.src < 4294967296) ∧ (0 ≤ x.dst ∧ x.dst < 4294967296)
theorem ent_f {w : World} {b : Nat} {x : Ent} {ty : TypeId} {fr : Nat × Nat} (h : w.heap[b]? = some (.cells (entV x) ty fr)) :
    w.cell? ⟨b, 0, none⟩ = some (.bool x.dflt) ∧ w.cell? ⟨b, 1, none⟩ = some (.int .i64 x.prio) ∧ w.cell? ⟨b, 11, none⟩ = some (.int .i64 x.action) := by
  refine ⟨?_, ?_, ?_⟩ <;> (rw [cell_of_row _ _ _ _ _ _ h]; rfl)

set_option maxHeartbeats 16000000 in
set_option maxRecDepth 100000 in
theorem applies_any (x : Ent) (hx : ent32 x) (L : List Int) (hL : Byt L) (w : World) (hP : Places w) :
    Calls Tryz.prog 41 #[.agg (entV x), .agg (hv L)] w fun e w' => e = .returned (.bool (applyT L x)) ∧ Below w.heap.size w w' := by
  have hl := hL.1
  have hp := hP.pos
  obtain ⟨Wa, hWa⟩ : ∃ Wa, Wa = (w.alloc (.cells (entV x) 35)).alloc (.cells (hv L) 31) := ⟨_, rfl⟩
  have b1 : Wa.heap[w.heap.size]? = some (.cells (entV x) 35 (0, 0)) := by rw [hWa]; exact heap_past _ _ _ _ (heap_new _ _ _ rfl)
  have b2 : Wa.heap[w.heap.size + 1]? = some (.cells (hv L) 31 (0, 0)) := by rw [hWa]; exact heap_new _ _ _ (by simp)
  have BA : Below w.heap.size w Wa := by rw [hWa]; exact below2 _ _ _
  have PA : Places Wa := hP.later hp BA
  have pa := PA.pos
  have HBA : Hid (Below w.heap.size w Wa) := BA
  have d0 := (ent_f b1).1
  rw [hWa] at d0
  cases hd : x.dflt with
  | true =>
    rw [hd] at d0
    rw [show applyT L x = true by unfold applyT; rw [hd]; rfl]
    rw [hWa] at HBA
    clear b1 b2 BA PA hWa hP
    go_enter Tryz.func41, Tryz.ntmps41
    go_wp2_with fail
    go_ret
    exact ⟨rfl, HBA.out⟩
  | false =>
    rw [hd] at d0
    rw [show applyT L x = applyR L x by unfold applyT; rw [hd]; rfl]
    have FD0 : Hid (∀ u : Later Wa, Calls Tryz.prog 66 #[.agg (hv L), .int .i64 0] u.world fun e w' => e = .returned (.int .u32 (fldN L 0)) ∧ Below u.world.heap.size u.world w') := fun u => field7_any L hL 0 (by decide) (by decide) u.world (PA.later pa u.below)
    have fb0 := fldN_bd L hL 0 (by decide) (by decide)
    have FD1 : Hid (∀ u : Later Wa, Calls Tryz.prog 66 #[.agg (hv L), .int .i64 1] u.world fun e w' => e = .returned (.int .u32 (fldN L 1)) ∧ Below u.world.heap.size u.world w') := fun u => field7_any L hL 1 (by decide) (by decide) u.world (PA.later pa u.below)
    have fb1 := fldN_bd L hL 1 (by decide) (by decide)
    have FD2 : Hid (∀ u : Later Wa, Calls Tryz.prog 66 #[.agg (hv L), .int .i64 2] u.world fun e w' => e = .returned (.int .u32 (fldN L 2)) ∧ Below u.world.heap.size u.world w') := fun u => field7_any L hL 2 (by decide) (by decide) u.world (PA.later pa u.below)
    have fb2 := fldN_bd L hL 2 (by decide) (by decide)
    have FD3 : Hid (∀ u : Later Wa, Calls Tryz.prog 66 #[.agg (hv L), .int .i64 3] u.world fun e w' => e = .returned (.int .u32 (fldN L 3)) ∧ Below u.world.heap.size u.world w') := fun u => field7_any L hL 3 (by decide) (by decide) u.world (PA.later pa u.below)
    have fb3 := fldN_bd L hL 3 (by decide) (by decide)
    have FD4 : Hid (∀ u : Later Wa, Calls Tryz.prog 66 #[.agg (hv L), .int .i64 4] u.world fun e w' => e = .returned (.int .u32 (fldN L 4)) ∧ Below u.world.heap.size u.world w') := fun u => field7_any L hL 4 (by decide) (by decide) u.world (PA.later pa u.below)
    have fb4 := fldN_bd L hL 4 (by decide) (by decide)
    have HR : Hid (applyR L x = (beginsM (fldN L 0) x.src x.srcBits && beginsM (fldN L 1) x.dst x.dstBits && (decide (x.slow ≤ fldN L 2) && decide (fldN L 2 ≤ x.shigh)) && (decide (x.dlow ≤ fldN L 3) && decide (fldN L 3 ≤ x.dhigh)) && (x.proto == -1 || x.proto == fldN L 4))) := rfl
    obtain ⟨F0, hF0⟩ : ∃ F, F = fldN L 0 := ⟨_, rfl⟩
    rw [← hF0] at FD0 fb0 HR
    clear hF0
    obtain ⟨F1, hF1⟩ : ∃ F, F = fldN L 1 := ⟨_, rfl⟩
    rw [← hF1] at FD1 fb1 HR
    clear hF1
    obtain ⟨F2, hF2⟩ : ∃ F, F = fldN L 2 := ⟨_, rfl⟩
    rw [← hF2] at FD2 fb2 HR
    clear hF2
    obtain ⟨F3, hF3⟩ : ∃ F, F = fldN L 3 := ⟨_, rfl⟩
    rw [← hF3] at FD3 fb3 HR
    clear hF3
    obtain ⟨F4, hF4⟩ : ∃ F, F = fldN L 4 := ⟨_, rfl⟩
    rw [← hF4] at FD4 fb4 HR
    clear hF4
    have BG1 : Hid (∀ W, Calls Tryz.prog 65 #[.int .u32 F0, .int .u32 x.src, .int .i64 x.srcBits] W fun e w' => e = .returned (.bool (beginsM F0 x.src x.srcBits)) ∧ w' = W) := begins7_any _ _ _ fb0 hx.1
    have BG2 : Hid (∀ W, Calls Tryz.prog 65 #[.int .u32 F1, .int .u32 x.dst, .int .i64 x.dstBits] W fun e w' => e = .returned (.bool (beginsM F1 x.dst x.dstBits)) ∧ w' = W) := begins7_any _ _ _ fb1 hx.2
    have WI1 : Hid (∀ W, Calls Tryz.prog 67 #[.int .u32 F2, .int .i64 x.slow, .int .i64 x.shigh] W fun e w' => e = .returned (.bool (decide (x.slow ≤ F2) && decide (F2 ≤ x.shigh))) ∧ w' = W) := swithin_any _ _ _ fb2
    have WI2 : Hid (∀ W, Calls Tryz.prog 67 #[.int .u32 F3, .int .i64 x.dlow, .int .i64 x.dhigh] W fun e w' => e = .returned (.bool (decide (x.dlow ≤ F3) && decide (F3 ≤ x.dhigh))) ∧ w' = W) := swithin_any _ _ _ fb3
    have p41 := fb4.1
    have p42 := fb4.2
    have HP2 : Hid (0 ≤ F4 ∧ F4 < 4294967296) := fb4
    obtain ⟨c1, hc1⟩ : ∃ c, c = beginsM F0 x.src x.srcBits := ⟨_, rfl⟩
    obtain ⟨c2, hc2⟩ : ∃ c, c = beginsM F1 x.dst x.dstBits := ⟨_, rfl⟩
    obtain ⟨c3, hc3⟩ : ∃ c, c = (decide (x.slow ≤ F2) && decide (F2 ≤ x.shigh)) := ⟨_, rfl⟩
    obtain ⟨c4, hc4⟩ : ∃ c, c = (decide (x.dlow ≤ F3) && decide (F3 ≤ x.dhigh)) := ⟨_, rfl⟩
    rw [← hc1] at BG1 HR
    rw [← hc2] at BG2 HR
    rw [← hc3] at WI1 HR
    rw [← hc4] at WI2 HR
    clear hc1 hc2 hc3 hc4 fb0 fb1 fb2 fb3 fb4 PA pa hP hp BA hx hd
    have l2 : ∀ u : Later Wa, u.world.cell? ⟨w.heap.size, 2, none⟩ = some (.int .u32 x.src) := later_cell7 b1 rfl
    have l3 : ∀ u : Later Wa, u.world.cell? ⟨w.heap.size, 3, none⟩ = some (.int .i64 x.srcBits) := later_cell7 b1 rfl
    have l4 : ∀ u : Later Wa, u.world.cell? ⟨w.heap.size, 4, none⟩ = some (.int .u32 x.dst) := later_cell7 b1 rfl
    have l5 : ∀ u : Later Wa, u.world.cell? ⟨w.heap.size, 5, none⟩ = some (.int .i64 x.dstBits) := later_cell7 b1 rfl
    have l6 : ∀ u : Later Wa, u.world.cell? ⟨w.heap.size, 6, none⟩ = some (.int .i64 x.slow) := later_cell7 b1 rfl
    have l7 : ∀ u : Later Wa, u.world.cell? ⟨w.heap.size, 7, none⟩ = some (.int .i64 x.shigh) := later_cell7 b1 rfl
    have l8 : ∀ u : Later Wa, u.world.cell? ⟨w.heap.size, 8, none⟩ = some (.int .i64 x.dlow) := later_cell7 b1 rfl
    have l9 : ∀ u : Later Wa, u.world.cell? ⟨w.heap.size, 9, none⟩ = some (.int .i64 x.dhigh) := later_cell7 b1 rfl
    have l10 : ∀ u : Later Wa, u.world.cell? ⟨w.heap.size, 10, none⟩ = some (.int .i64 x.proto) := later_cell7 b1 rfl
    have ne1 := Later.ne Wa
    cases c1 with
    | false =>
      rw [hWa] at HBA
      go_enter Tryz.func41, Tryz.ntmps41
      go_wp2_with fail
      rw [← hWa]
      refine wp_region_later (by kernel_rfl) (by kernel_rfl) ?_
      refine qlH rfl _ rfl (w.heap.size + 1) rfl L b2 hl ?_
      simp only [Act.put, List.setIfInBounds_toArray, List.set_cons_succ, List.set_cons_zero]
      go_big_quiet_want; go_big_quiet_op
      refine ⟨_, fun u => Calls.later_of (FD0.out u), ?_⟩
      go_big_quiet_on
      go_big_quiet_step (rfl)
      go_big_quiet_step (rfl)
      go_big_quiet_step (rfl)
      go_big_quiet_step (rfl)
      go_big_quiet_want; go_big_quiet_op
      refine ⟨_, fun u => Calls.later_same (BG1.out u.world), ?_⟩
      go_big_quiet_on
      go_big_quiet_step (rfl)
      go_big_quiet_step (rfl)
      go_big_quiet_step (rfl)
      go_big_quiet_step (rfl)
      go_big_quiet_step (rfl)
      go_big_quiet_step (rfl)
      go_big_quiet_step (rfl)
      go_big_quiet_step (rfl)
      go_big_quiet_step (rfl)
      go_big_quiet_step (rfl)
      go_big_quiet_step (rfl)
      go_big_quiet_step (rfl)
      go_big_quiet_step (rfl)
      go_big_quiet_step (rfl)
      go_big_quiet_step (rfl)
      go_big_quiet_step (rfl)
      go_big_quiet_step (rfl)
      go_big_quiet_step (rfl)
      go_big_quiet_step (rfl)
      go_big_quiet_step (rfl)
      go_big_quiet_step (rfl)
      go_big_quiet_step (rfl)
      go_big_quiet_step (rfl)
      go_big_quiet_step (rfl)
      go_big_quiet_step (rfl)
      go_big_quiet_step (rfl)
      go_big_quiet_step (rfl)
      go_big_quiet_step (rfl)
      go_big_quiet_step (rfl)
      go_big_quiet_step (rfl)
      go_big_quiet_step (rfl)
      go_big_quiet_step (rfl)
      go_big_quiet_step (rfl)
      go_big_quiet_step (rfl)
      go_big_quiet_step (rfl)
      go_big_quiet_step (rfl)
      go_big_quiet_step (rfl)
      go_big_quiet_step (rfl)
      go_big_quiet_step (rfl)
      go_big_quiet_step (rfl)
      go_big_quiet_step (rfl)
      refine wpQuiet_nil ?_
      rintro w' ⟨v, rfl⟩
      go_wp2_with fail
      go_ret
      rw [HR.out]
      rw [← hWa] at HBA
      refine ⟨?_, HBA.out.trans (v.below.mono HBA.out.size)⟩
      simp
    | true =>
      cases c2 with
      | false =>
        rw [hWa] at HBA
        go_enter Tryz.func41, Tryz.ntmps41
        go_wp2_with fail
        rw [← hWa]
        refine wp_region_later (by kernel_rfl) (by kernel_rfl) ?_
        refine qlH rfl _ rfl (w.heap.size + 1) rfl L b2 hl ?_
        simp only [Act.put, List.setIfInBounds_toArray, List.set_cons_succ, List.set_cons_zero]
        go_big_quiet_want; go_big_quiet_op
        refine ⟨_, fun u => Calls.later_of (FD0.out u), ?_⟩
        go_big_quiet_on
        go_big_quiet_step (rfl)
        go_big_quiet_step (rfl)
        go_big_quiet_step (rfl)
        go_big_quiet_step (rfl)
        go_big_quiet_want; go_big_quiet_op
        refine ⟨_, fun u => Calls.later_same (BG1.out u.world), ?_⟩
        go_big_quiet_on
        go_big_quiet_step (rfl)
        refine qlH rfl _ rfl (w.heap.size + 1) rfl L b2 hl ?_
        simp only [Act.put, List.setIfInBounds_toArray, List.set_cons_succ, List.set_cons_zero]
        go_big_quiet_want; go_big_quiet_op
        refine ⟨_, fun u => Calls.later_of (FD1.out u), ?_⟩
        go_big_quiet_on
        go_big_quiet_step (rfl)
        go_big_quiet_step (rfl)
        go_big_quiet_step (rfl)
        go_big_quiet_step (rfl)
        go_big_quiet_want; go_big_quiet_op
        refine ⟨_, fun u => Calls.later_same (BG2.out u.world), ?_⟩
        go_big_quiet_on
        go_big_quiet_step (rfl)
        go_big_quiet_step (rfl)
        go_big_quiet_step (rfl)
        go_big_quiet_step (rfl)
        go_big_quiet_step (rfl)
        go_big_quiet_step (rfl)
        go_big_quiet_step (rfl)
        go_big_quiet_step (rfl)
        go_big_quiet_step (rfl)
        go_big_quiet_step (rfl)
        go_big_quiet_step (rfl)
        go_big_quiet_step (rfl)
        go_big_quiet_step (rfl)
        go_big_quiet_step (rfl)
        go_big_quiet_step (rfl)
        go_big_quiet_step (rfl)
        go_big_quiet_step (rfl)
        go_big_quiet_step (rfl)
        go_big_quiet_step (rfl)
        go_big_quiet_step (rfl)
        go_big_quiet_step (rfl)
        go_big_quiet_step (rfl)
        go_big_quiet_step (rfl)
        go_big_quiet_step (rfl)
        go_big_quiet_step (rfl)
        go_big_quiet_step (rfl)
        go_big_quiet_step (rfl)
        go_big_quiet_step (rfl)
        go_big_quiet_step (rfl)
        go_big_quiet_step (rfl)
        go_big_quiet_step (rfl)
        go_big_quiet_step (rfl)
        go_big_quiet_step (rfl)
        refine wpQuiet_nil ?_
        rintro w' ⟨v, rfl⟩
        go_wp2_with fail
        go_ret
        rw [HR.out]
        rw [← hWa] at HBA
        refine ⟨?_, HBA.out.trans (v.below.mono HBA.out.size)⟩
        simp
      | true =>
        cases c3 with
        | false =>
          rw [hWa] at HBA
          go_enter Tryz.func41, Tryz.ntmps41
          go_wp2_with fail
          rw [← hWa]
          refine wp_region_later (by kernel_rfl) (by kernel_rfl) ?_
          refine qlH rfl _ rfl (w.heap.size + 1) rfl L b2 hl ?_
          simp only [Act.put, List.setIfInBounds_toArray, List.set_cons_succ, List.set_cons_zero]
          go_big_quiet_want; go_big_quiet_op
          refine ⟨_, fun u => Calls.later_of (FD0.out u), ?_⟩
          go_big_quiet_on
          go_big_quiet_step (rfl)
          go_big_quiet_step (rfl)
          go_big_quiet_step (rfl)
          go_big_quiet_step (rfl)
          go_big_quiet_want; go_big_quiet_op
          refine ⟨_, fun u => Calls.later_same (BG1.out u.world), ?_⟩
          go_big_quiet_on
          go_big_quiet_step (rfl)
          refine qlH rfl _ rfl (w.heap.size + 1) rfl L b2 hl ?_
          simp only [Act.put, List.setIfInBounds_toArray, List.set_cons_succ, List.set_cons_zero]
          go_big_quiet_want; go_big_quiet_op
          refine ⟨_, fun u => Calls.later_of (FD1.out u), ?_⟩
          go_big_quiet_on
          go_big_quiet_step (rfl)
          go_big_quiet_step (rfl)
          go_big_quiet_step (rfl)
          go_big_quiet_step (rfl)
          go_big_quiet_want; go_big_quiet_op
          refine ⟨_, fun u => Calls.later_same (BG2.out u.world), ?_⟩
          go_big_quiet_on
          go_big_quiet_step (rfl)
          go_big_quiet_step (rfl)
          refine qlH rfl _ rfl (w.heap.size + 1) rfl L b2 hl ?_
          simp only [Act.put, List.setIfInBounds_toArray, List.set_cons_succ, List.set_cons_zero]
          go_big_quiet_want; go_big_quiet_op
          refine ⟨_, fun u => Calls.later_of (FD2.out u), ?_⟩
          go_big_quiet_on
          go_big_quiet_step (rfl)
          go_big_quiet_step (rfl)
          go_big_quiet_step (rfl)
          go_big_quiet_step (rfl)
          go_big_quiet_want; go_big_quiet_op
          refine ⟨_, fun u => Calls.later_same (WI1.out u.world), ?_⟩
          go_big_quiet_on
          go_big_quiet_step (rfl)
          go_big_quiet_step (rfl)
          go_big_quiet_step (rfl)
          go_big_quiet_step (rfl)
          go_big_quiet_step (rfl)
          go_big_quiet_step (rfl)
          go_big_quiet_step (rfl)
          go_big_quiet_step (rfl)
          go_big_quiet_step (rfl)
          go_big_quiet_step (rfl)
          go_big_quiet_step (rfl)
          go_big_quiet_step (rfl)
          go_big_quiet_step (rfl)
          go_big_quiet_step (rfl)
          go_big_quiet_step (rfl)
          go_big_quiet_step (rfl)
          go_big_quiet_step (rfl)
          go_big_quiet_step (rfl)
          go_big_quiet_step (rfl)
          go_big_quiet_step (rfl)
          go_big_quiet_step (rfl)
          go_big_quiet_step (rfl)
          go_big_quiet_step (rfl)
          go_big_quiet_step (rfl)
          refine wpQuiet_nil ?_
          rintro w' ⟨v, rfl⟩
          go_wp2_with fail
          go_ret
          rw [HR.out]
          rw [← hWa] at HBA
          refine ⟨?_, HBA.out.trans (v.below.mono HBA.out.size)⟩
          simp
        | true =>
          cases c4 with
          | false =>
            rw [hWa] at HBA
            go_enter Tryz.func41, Tryz.ntmps41
            go_wp2_with fail
            rw [← hWa]
            refine wp_region_later (by kernel_rfl) (by kernel_rfl) ?_
            refine qlH rfl _ rfl (w.heap.size + 1) rfl L b2 hl ?_
            simp only [Act.put, List.setIfInBounds_toArray, List.set_cons_succ, List.set_cons_zero]
            go_big_quiet_want; go_big_quiet_op
            refine ⟨_, fun u => Calls.later_of (FD0.out u), ?_⟩
            go_big_quiet_on
            go_big_quiet_step (rfl)
            go_big_quiet_step (rfl)
            go_big_quiet_step (rfl)
            go_big_quiet_step (rfl)
            go_big_quiet_want; go_big_quiet_op
            refine ⟨_, fun u => Calls.later_same (BG1.out u.world), ?_⟩
            go_big_quiet_on
            go_big_quiet_step (rfl)
            refine qlH rfl _ rfl (w.heap.size + 1) rfl L b2 hl ?_
            simp only [Act.put, List.setIfInBounds_toArray, List.set_cons_succ, List.set_cons_zero]
            go_big_quiet_want; go_big_quiet_op
            refine ⟨_, fun u => Calls.later_of (FD1.out u), ?_⟩
            go_big_quiet_on
            go_big_quiet_step (rfl)
            go_big_quiet_step (rfl)
            go_big_quiet_step (rfl)
            go_big_quiet_step (rfl)
            go_big_quiet_want; go_big_quiet_op
            refine ⟨_, fun u => Calls.later_same (BG2.out u.world), ?_⟩
            go_big_quiet_on
            go_big_quiet_step (rfl)
            go_big_quiet_step (rfl)
            refine qlH rfl _ rfl (w.heap.size + 1) rfl L b2 hl ?_
            simp only [Act.put, List.setIfInBounds_toArray, List.set_cons_succ, List.set_cons_zero]
            go_big_quiet_want; go_big_quiet_op
            refine ⟨_, fun u => Calls.later_of (FD2.out u), ?_⟩
            go_big_quiet_on
            go_big_quiet_step (rfl)
            go_big_quiet_step (rfl)
            go_big_quiet_step (rfl)
            go_big_quiet_step (rfl)
            go_big_quiet_want; go_big_quiet_op
            refine ⟨_, fun u => Calls.later_same (WI1.out u.world), ?_⟩
            go_big_quiet_on
            go_big_quiet_step (rfl)
            go_big_quiet_step (rfl)
            refine qlH rfl _ rfl (w.heap.size + 1) rfl L b2 hl ?_
            simp only [Act.put, List.setIfInBounds_toArray, List.set_cons_succ, List.set_cons_zero]
            go_big_quiet_want; go_big_quiet_op
            refine ⟨_, fun u => Calls.later_of (FD3.out u), ?_⟩
            go_big_quiet_on
            go_big_quiet_step (rfl)
            go_big_quiet_step (rfl)
            go_big_quiet_step (rfl)
            go_big_quiet_step (rfl)
            go_big_quiet_want; go_big_quiet_op
            refine ⟨_, fun u => Calls.later_same (WI2.out u.world), ?_⟩
            go_big_quiet_on
            go_big_quiet_step (rfl)
            go_big_quiet_step (rfl)
            go_big_quiet_step (rfl)
            go_big_quiet_step (rfl)
            go_big_quiet_step (rfl)
            go_big_quiet_step (rfl)
            go_big_quiet_step (rfl)
            go_big_quiet_step (rfl)
            go_big_quiet_step (rfl)
            go_big_quiet_step (rfl)
            go_big_quiet_step (rfl)
            go_big_quiet_step (rfl)
            go_big_quiet_step (rfl)
            go_big_quiet_step (rfl)
            go_big_quiet_step (rfl)
            refine wpQuiet_nil ?_
            rintro w' ⟨v, rfl⟩
            go_wp2_with fail
            go_ret
            rw [HR.out]
            rw [← hWa] at HBA
            refine ⟨?_, HBA.out.trans (v.below.mono HBA.out.size)⟩
            simp
          | true =>
            by_cases p1 : x.proto = -1
            · have p1' : (x.proto == -1) = true := by simp [p1]
              rw [hWa] at HBA
              have P1 : Hid (x.proto = -1) := p1
              clear p1
              go_enter Tryz.func41, Tryz.ntmps41
              go_wp2_with fail
              rw [← hWa]
              refine wp_region_later (by kernel_rfl) (by kernel_rfl) ?_
              refine qlH rfl _ rfl (w.heap.size + 1) rfl L b2 hl ?_
              simp only [Act.put, List.setIfInBounds_toArray, List.set_cons_succ, List.set_cons_zero]
              go_big_quiet_want; go_big_quiet_op
              refine ⟨_, fun u => Calls.later_of (FD0.out u), ?_⟩
              go_big_quiet_on
              go_big_quiet_step (rfl)
              go_big_quiet_step (rfl)
              go_big_quiet_step (rfl)
              go_big_quiet_step (rfl)
              go_big_quiet_want; go_big_quiet_op
              refine ⟨_, fun u => Calls.later_same (BG1.out u.world), ?_⟩
              go_big_quiet_on
              go_big_quiet_step (rfl)
              refine qlH rfl _ rfl (w.heap.size + 1) rfl L b2 hl ?_
              simp only [Act.put, List.setIfInBounds_toArray, List.set_cons_succ, List.set_cons_zero]
              go_big_quiet_want; go_big_quiet_op
              refine ⟨_, fun u => Calls.later_of (FD1.out u), ?_⟩
              go_big_quiet_on
              go_big_quiet_step (rfl)
              go_big_quiet_step (rfl)
              go_big_quiet_step (rfl)
              go_big_quiet_step (rfl)
              go_big_quiet_want; go_big_quiet_op
              refine ⟨_, fun u => Calls.later_same (BG2.out u.world), ?_⟩
              go_big_quiet_on
              go_big_quiet_step (rfl)
              go_big_quiet_step (rfl)
              refine qlH rfl _ rfl (w.heap.size + 1) rfl L b2 hl ?_
              simp only [Act.put, List.setIfInBounds_toArray, List.set_cons_succ, List.set_cons_zero]
              go_big_quiet_want; go_big_quiet_op
              refine ⟨_, fun u => Calls.later_of (FD2.out u), ?_⟩
              go_big_quiet_on
              go_big_quiet_step (rfl)
              go_big_quiet_step (rfl)
              go_big_quiet_step (rfl)
              go_big_quiet_step (rfl)
              go_big_quiet_want; go_big_quiet_op
              refine ⟨_, fun u => Calls.later_same (WI1.out u.world), ?_⟩
              go_big_quiet_on
              go_big_quiet_step (rfl)
              go_big_quiet_step (rfl)
              refine qlH rfl _ rfl (w.heap.size + 1) rfl L b2 hl ?_
              simp only [Act.put, List.setIfInBounds_toArray, List.set_cons_succ, List.set_cons_zero]
              go_big_quiet_want; go_big_quiet_op
              refine ⟨_, fun u => Calls.later_of (FD3.out u), ?_⟩
              go_big_quiet_on
              go_big_quiet_step (rfl)
              go_big_quiet_step (rfl)
              go_big_quiet_step (rfl)
              go_big_quiet_step (rfl)
              go_big_quiet_want; go_big_quiet_op
              refine ⟨_, fun u => Calls.later_same (WI2.out u.world), ?_⟩
              go_big_quiet_on
              go_big_quiet_step (rfl)
              go_big_quiet_step (rfl)
              go_big_quiet_step (rfl)
              go_big_quiet_step (rfl)
              go_big_quiet_step (rfl)
              go_big_quiet_step (rfl)
              go_big_quiet_step (rfl)
              go_big_quiet_step (rfl)
              go_big_quiet_step (rfl)
              go_big_quiet_step (rfl)
              go_big_quiet_step (rfl)
              go_big_quiet_step (rfl)
              go_big_quiet_step (rfl)
              go_big_quiet_step (rfl)
              go_big_quiet_step (rfl)
              refine wpQuiet_nil ?_
              rintro w' ⟨v, rfl⟩
              go_wp2_with fail
              go_ret
              rw [HR.out]
              rw [← hWa] at HBA
              refine ⟨?_, HBA.out.trans (v.below.mono HBA.out.size)⟩
              rw [P1.out]
              rfl
            · have p1' : (x.proto == -1) = false := by simp [p1]
              rw [hWa] at HBA
              have P1 : Hid ((x.proto == -1) = false) := p1'
              clear p1
              go_enter Tryz.func41, Tryz.ntmps41
              go_wp2_with fail
              rw [← hWa]
              refine wp_region_later (by kernel_rfl) (by kernel_rfl) ?_
              refine qlH rfl _ rfl (w.heap.size + 1) rfl L b2 hl ?_
              simp only [Act.put, List.setIfInBounds_toArray, List.set_cons_succ, List.set_cons_zero]
              go_big_quiet_want; go_big_quiet_op
              refine ⟨_, fun u => Calls.later_of (FD0.out u), ?_⟩
              go_big_quiet_on
              go_big_quiet_step (rfl)
              go_big_quiet_step (rfl)
              go_big_quiet_step (rfl)
              go_big_quiet_step (rfl)
              go_big_quiet_want; go_big_quiet_op
              refine ⟨_, fun u => Calls.later_same (BG1.out u.world), ?_⟩
              go_big_quiet_on
              go_big_quiet_step (rfl)
              refine qlH rfl _ rfl (w.heap.size + 1) rfl L b2 hl ?_
              simp only [Act.put, List.setIfInBounds_toArray, List.set_cons_succ, List.set_cons_zero]
              go_big_quiet_want; go_big_quiet_op
              refine ⟨_, fun u => Calls.later_of (FD1.out u), ?_⟩
              go_big_quiet_on
              go_big_quiet_step (rfl)
              go_big_quiet_step (rfl)
              go_big_quiet_step (rfl)
              go_big_quiet_step (rfl)
              go_big_quiet_want; go_big_quiet_op
              refine ⟨_, fun u => Calls.later_same (BG2.out u.world), ?_⟩
              go_big_quiet_on
              go_big_quiet_step (rfl)
              go_big_quiet_step (rfl)
              refine qlH rfl _ rfl (w.heap.size + 1) rfl L b2 hl ?_
              simp only [Act.put, List.setIfInBounds_toArray, List.set_cons_succ, List.set_cons_zero]
              go_big_quiet_want; go_big_quiet_op
              refine ⟨_, fun u => Calls.later_of (FD2.out u), ?_⟩
              go_big_quiet_on
              go_big_quiet_step (rfl)
              go_big_quiet_step (rfl)
              go_big_quiet_step (rfl)
              go_big_quiet_step (rfl)
              go_big_quiet_want; go_big_quiet_op
              refine ⟨_, fun u => Calls.later_same (WI1.out u.world), ?_⟩
              go_big_quiet_on
              go_big_quiet_step (rfl)
              go_big_quiet_step (rfl)
              refine qlH rfl _ rfl (w.heap.size + 1) rfl L b2 hl ?_
              simp only [Act.put, List.setIfInBounds_toArray, List.set_cons_succ, List.set_cons_zero]
              go_big_quiet_want; go_big_quiet_op
              refine ⟨_, fun u => Calls.later_of (FD3.out u), ?_⟩
              go_big_quiet_on
              go_big_quiet_step (rfl)
              go_big_quiet_step (rfl)
              go_big_quiet_step (rfl)
              go_big_quiet_step (rfl)
              go_big_quiet_want; go_big_quiet_op
              refine ⟨_, fun u => Calls.later_same (WI2.out u.world), ?_⟩
              go_big_quiet_on
              go_big_quiet_step (rfl)
              go_big_quiet_step (rfl)
              go_big_quiet_step (rfl)
              go_big_quiet_step (rfl)
              go_big_quiet_step (rfl)
              go_big_quiet_step (rfl)
              go_big_quiet_step (rfl)
              go_big_quiet_step (rfl)
              refine qlH rfl _ rfl (w.heap.size + 1) rfl L b2 hl ?_
              simp only [Act.put, List.setIfInBounds_toArray, List.set_cons_succ, List.set_cons_zero]
              go_big_quiet_want; go_big_quiet_op
              refine ⟨_, fun u => Calls.later_of (FD4.out u), ?_⟩
              go_big_quiet_on
              go_big_quiet_step (rfl)
              go_big_quiet_step (rfl)
              go_big_quiet_step (rfl)
              go_big_quiet_step (rfl)
              go_big_quiet_step (rfl)
              refine wpQuiet_nil ?_
              rintro w' ⟨v, rfl⟩
              go_wp2_with fail
              go_ret
              rw [HR.out]
              rw [← hWa] at HBA
              refine ⟨?_, HBA.out.trans (v.below.mono HBA.out.size)⟩
              rw [P1.out]
              simp
end Go.Proofs.YthddlchkbnmcaaaGreatDoor
namespace Go.Proofs.YthddlchkbnmcaaaGreatDoor
open Go Go.RowKit
set_option maxRecDepth 20000

/-- The rows of a list: those that are not default by the falling priority, then the default ones. -/
def RowsOf (l R : List Ent) : Prop := ∃ S, Sorted8 (l.filter fun x => !x.dflt) S ∧ R = S ++ l.filter fun x => x.dflt
theorem rowsOf_one {l R R' : List Ent} (h : RowsOf l R) (h' : RowsOf l R') : R = R' := by
  obtain ⟨S, h1, rfl⟩ := h
  obtain ⟨S', h2, rfl⟩ := h'
  rw [desc_one S S' h1.desc h2.desc (h1.alike.trans h2.alike.symm)]
theorem RowsOf.mem {l R : List Ent} (h : RowsOf l R) (x : Ent) : x ∈ R ↔ x ∈ l := by
  obtain ⟨S, h1, rfl⟩ := h
  rw [List.mem_append, h1.alike.mem, List.mem_filter, List.mem_filter]
  cases x.dflt <;> simp
theorem rows_len_le {l : List Ent} (k : Nat) (q : Ent → Bool) : ((l.take k).filter q).length ≤ k := Nat.le_trans (List.length_filter_le _ _) (by rw [List.length_take]; omega)
theorem filter_take_yes {l : List Ent} {k : Nat} {x : Ent} {q : Ent → Bool} (h : l[k]? = some x) (hq : q x = true) : (l.take (k + 1)).filter q = (l.take k).filter q ++ [x] := by
  rw [List.take_add_one, h, List.filter_append]
  simp [hq]
theorem filter_take_no {l : List Ent} {k : Nat} {x : Ent} {q : Ent → Bool} (h : l[k]? = some x) (hq : q x = false) : (l.take (k + 1)).filter q = (l.take k).filter q := by
  rw [List.take_add_one, h, List.filter_append]
  simp [hq]

theorem own_by2 {w w' : World} {B : Nat} {e : TypeId} {s : Nat} {v : Value} {n : Nat} {xs : List Value} {row : Option Nat} (h : w.ownsRow B e s v n xs) (hg : w.grownBy w' row) (hne : v.ownBlock = none ∨ row = none ∨ v.ownBlock ≠ row) : w'.ownsRow B e s v n xs := by
  obtain ⟨h1, h2 | ⟨g, cap, cur, rfl, hB, hcur, h3⟩⟩ := h
  · exact ⟨h1, .inl h2⟩
  · refine ⟨h1, .inr ⟨g, cap, cur, rfl, hB, (hg.block g (Array.getElem?_eq_some_iff.1 hcur).1 ?_).trans hcur, h3⟩⟩
    intro e
    rcases hne with h | h | h
    · cases h
    · rw [h] at e; cases e
    · exact h e
/-- Two rows of one's own lie apart. -/
def Apart8 (a b : Option Nat) : Prop := a = none ∨ b = none ∨ a ≠ b
theorem Apart8.symm {a b : Option Nat} (h : Apart8 a b) : Apart8 b a := by
  rcases h with h | h | h
  · exact .inr (.inl h)
  · exact .inl h
  · exact .inr (.inr fun e => h e.symm)
theorem apart_new {w : World} {B : Nat} {e : TypeId} {s n : Nat} {v u u' : Value} {xs : List Value} (h : w.ownsRow B e s v n xs) (ha : Apart8 u.ownBlock v.ownBlock) (hu : u'.ownBlock = u.ownBlock ∨ u'.ownBlock = some w.heap.size) : Apart8 u'.ownBlock v.ownBlock := by
  rcases hu with hu | hu
  · rw [hu]; exact ha
  · refine .inr (.inr fun e => ?_)
    rw [hu] at e
    have := (h.lt _ e.symm).2
    omega

set_option maxHeartbeats 16000000 in
set_option maxRecDepth 100000 in
theorem rows_any (l : List Ent) (vl : Value) (w : World) (hl : EntsAt w vl l) (hn : l.length ≤ 100000) :
    Calls Tryz.prog 15 #[vl] w fun e w' => (∃ v R, e = .returned v ∧ RowsOf l R ∧ w'.ownsRow w.heap.size 35 12 v R.length (gcells entV R)) ∧ Below w.heap.size w w' := by
  obtain ⟨o, cap, rfl, hc1, hc2⟩ := GSl.slice hl
  obtain ⟨n, hn0⟩ : ∃ n, n = l.length := ⟨_, rfl⟩
  have HN : Hid (n = l.length) := hn0
  rw [← hn0] at hl hc1 hn ⊢
  have HL : Hid (EntsAt w (.slice o n cap) l) := hl
  unfold maxLen at hc2
  have ST : Hid (∀ (m : List Ent) v W, W.ownsRow w.heap.size 35 12 v m.length (gcells entV m) → m.length ≤ 1000000 → Calls Tryz.prog 26 #[v, .func (.func 27) #[] #[]] W fun e w' => e = .returned (.tuple #[]) ∧ ∃ m', Sorted8 m m' ∧ w'.ownsRow w.heap.size 35 12 v m'.length (gcells entV m') ∧ W.grownBy w' v.ownBlock) := fun m v W h1 h2 => sortStable_any _ m v W h1 h2
  clear hl hn0
  go_enter Tryz.func15, Tryz.ntmps15
  go_wp2_with fail
  go_loopw [3, 4, 9] (fun v1 v2 i wr => ∃ (k : Nat) (m1 m2 : List Ent), k ≤ n ∧ i = .int .i64 (k : Int) ∧ Hid (m1 = (l.take k).filter fun x => !x.dflt) ∧ Hid (m2 = (l.take k).filter fun x => x.dflt) ∧ wr.ownsRow w.heap.size 35 12 v1 m1.length (gcells entV m1) ∧ wr.ownsRow w.heap.size 35 12 v2 m2.length (gcells entV m2) ∧ Apart8 v1.ownBlock v2.ownBlock ∧ Below w.heap.size w wr) (fun _ _ i _ => n - (intOf i).toNat)
  case atStart => exact ⟨0, [], [], Nat.zero_le _, rfl, rfl, rfl, World.ownsRow_nil _ _ _ _, World.ownsRow_nil _ _ _ _, .inl rfl, Below.refl _ _⟩
  case round =>
    obtain ⟨k, m1, m2, hk, rfl, E1, E2, ho1, ho2, hne, hb⟩ := hrel
    have O1 : Hid (wr.ownsRow w.heap.size 35 12 u3 m1.length (gcells entV m1)) := ho1
    have O2 : Hid (wr.ownsRow w.heap.size 35 12 u4 m2.length (gcells entV m2)) := ho2
    have NE : Hid (Apart8 u3.ownBlock u4.ownBlock) := hne
    have HB : Hid (Below w.heap.size w wr) := hb
    have ML1 : Hid (m1.length ≤ 100000) := by have := rows_len_le (l := l) k fun x => !x.dflt; rw [← E1.out] at this; exact (by omega : m1.length ≤ 100000)
    have ML2 : Hid (m2.length ≤ 100000) := by have := rows_len_le (l := l) k fun x => x.dflt; rw [← E2.out] at this; exact (by omega : m2.length ≤ 100000)
    clear ho1 ho2 hne hb
    by_cases hlt : k < n
    · have hlt' : (k : Int) < (n : Int) := by omega
      obtain ⟨g, off, cur, ty, fr, x, rfl, hg, hc, hxk⟩ := (GSl.below HL.out HB.out).at k hlt
      have K1 : Hid (wr.heap[g]? = some (.cells cur ty fr)) := hg
      have H1 : Hid (∀ j, j < 12 → cur[off + k * 12 + j]? = (entV x)[j]?) := hc
      have HX : Hid (l[k]? = some x) := hxk
      have KN : Hid ((wr.alloc (.cells (entV x) 35)).heap[wr.heap.size]? = some (.cells (entV x) 35 (0, 0))) := heap_new _ _ _ rfl
      have BWN : Hid (Below w.heap.size w ((wr.alloc (.cells (entV x) 35)).alloc (.cells (entV x) 35))) := (HB.out.alloc HB.out.size _).alloc (by have := HB.out.size; simp; omega) _
      have P1 : Hid (((wr.alloc (.cells (entV x) 35)).alloc (.cells (entV x) 35)).ownsRow w.heap.size 35 12 u3 m1.length (gcells entV m1)) := (O1.out.alloc _).alloc _
      have P2 : Hid (((wr.alloc (.cells (entV x) 35)).alloc (.cells (entV x) 35)).ownsRow w.heap.size 35 12 u4 m2.length (gcells entV m2)) := (O2.out.alloc _).alloc _
      have d0 := (ent_f KN.out).1
      clear hg hc hxk O1 O2
      cases hd : x.dflt with
      | true =>
        rw [hd] at d0
        have HD : Hid (x.dflt = true) := hd
        clear hd
        go_wp2_with (first
          | (refine wl_loadE (E := EntE) EntOk rfl _ rfl g (off + k * 12) rfl cur ty fr (entV x) rfl K1.out H1.out ?_)
          | (refine wl_loadE (E := EntE) EntOk rfl _ rfl wr.heap.size 0 rfl _ _ _ (entV x) rfl KN.out (own_cells _ _) ?_)
          | (refine wl_storeE (E := EntE) EntOk rfl _ _ rfl wr.heap.size (entV x) (ent_fits _) rfl rfl _ (heap_new _ _ _ rfl) rfl _ (setRow_new _ _ _ _ _ rfl) ?_)
          | (refine wl_buildE (E := EntE) EntOk rfl _ rfl (entV x) rfl rfl ?_)
          | (at_builtin; refine of_stopT ?_))
        unfold StopT
        refine wl_appendE (E := EntE) EntOk entV rfl _ _ rfl w.heap.size u4 m2 x (ent_fits _) rfl P2.out (wr.heap.size + 1) 1 rfl (heap_new _ _ _ (by simp)) (by have := ML2.out; omega) (by have := HB.out.size; simp; omega) ?_
        intro v' w3 hown3 hgr3 hv'
        have B3 : Hid (Below w.heap.size w w3) := BWN.out.trans ((Below.refl _ _).grown hgr3 BWN.out.size fun k hk => (P2.out.lt k hk).1)
        have O3 : Hid (w3.ownsRow w.heap.size 35 12 v' (m2 ++ [x]).length (gcells entV (m2 ++ [x]))) := hown3
        have Q3 : Hid (w3.ownsRow w.heap.size 35 12 u3 m1.length (gcells entV m1)) := own_by2 P1.out hgr3 (NE.out)
        have N3 : Hid (Apart8 u3.ownBlock v'.ownBlock) := (apart_new P1.out NE.out.symm hv').symm
        clear hown3 hgr3 hv'
        simp only [Act.put, List.setIfInBounds_toArray, List.set_cons_succ, List.set_cons_zero]
        go_wp2_with fail
        go_roundw
        case rel =>
          refine ⟨k + 1, m1, m2 ++ [x], by omega, by go_num, ?_, ?_, Q3.out, O3.out, N3.out, B3.out⟩
          · show _ = _
            rw [E1.out]; exact (filter_take_no HX.out (by rw [HD.out]; rfl)).symm
          · show _ = _
            rw [E2.out]; exact (filter_take_yes HX.out HD.out).symm
        case measure => simp [intOf]; omega
      | false =>
        rw [hd] at d0
        have HD : Hid (x.dflt = false) := hd
        clear hd
        go_wp2_with (first
          | (refine wl_loadE (E := EntE) EntOk rfl _ rfl g (off + k * 12) rfl cur ty fr (entV x) rfl K1.out H1.out ?_)
          | (refine wl_loadE (E := EntE) EntOk rfl _ rfl wr.heap.size 0 rfl _ _ _ (entV x) rfl KN.out (own_cells _ _) ?_)
          | (refine wl_storeE (E := EntE) EntOk rfl _ _ rfl wr.heap.size (entV x) (ent_fits _) rfl rfl _ (heap_new _ _ _ rfl) rfl _ (setRow_new _ _ _ _ _ rfl) ?_)
          | (refine wl_buildE (E := EntE) EntOk rfl _ rfl (entV x) rfl rfl ?_)
          | (at_builtin; refine of_stopT ?_))
        unfold StopT
        refine wl_appendE (E := EntE) EntOk entV rfl _ _ rfl w.heap.size u3 m1 x (ent_fits _) rfl P1.out (wr.heap.size + 1) 1 rfl (heap_new _ _ _ (by simp)) (by have := ML1.out; omega) (by have := HB.out.size; simp; omega) ?_
        intro v' w3 hown3 hgr3 hv'
        have B3 : Hid (Below w.heap.size w w3) := BWN.out.trans ((Below.refl _ _).grown hgr3 BWN.out.size fun k hk => (P1.out.lt k hk).1)
        have O3 : Hid (w3.ownsRow w.heap.size 35 12 v' (m1 ++ [x]).length (gcells entV (m1 ++ [x]))) := hown3
        have Q3 : Hid (w3.ownsRow w.heap.size 35 12 u4 m2.length (gcells entV m2)) := own_by2 P2.out hgr3 (NE.out.symm)
        have N3 : Hid (Apart8 v'.ownBlock u4.ownBlock) := apart_new P2.out NE.out hv'
        clear hown3 hgr3 hv'
        simp only [Act.put, List.setIfInBounds_toArray, List.set_cons_succ, List.set_cons_zero]
        go_wp2_with fail
        go_roundw
        case rel =>
          refine ⟨k + 1, m1 ++ [x], m2, by omega, by go_num, ?_, ?_, O3.out, Q3.out, N3.out, B3.out⟩
          · show _ = _
            rw [E1.out]; exact (filter_take_yes HX.out (by rw [HD.out]; rfl)).symm
          · show _ = _
            rw [E2.out]; exact (filter_take_no HX.out HD.out).symm
        case measure => simp [intOf]; omega
    · have hlt' : ¬ (k : Int) < (n : Int) := by omega
      have hkn : k = n := by omega
      have EL : Hid (m1 = l.filter (fun x => !x.dflt) ∧ m2 = l.filter fun x => x.dflt) := by
        have e := HN.out
        refine ⟨?_, ?_⟩
        · rw [E1.out, hkn, e, List.take_length]
        · rw [E2.out, hkn, e, List.take_length]
      clear E1 E2 hkn
      go_wp2_with fail
      refine (ST.out m1 u3 _ O1.out (by have := ML1.out; omega)).mono ?_
      rintro e w1 ⟨rfl, m3, hs3, ho3, hg3⟩
      have B1 : Hid (Below w.heap.size w w1) := HB.out.trans ((Below.refl _ _).grown hg3 HB.out.size fun k hk => (O1.out.lt k hk).1)
      have O3 : Hid (w1.ownsRow w.heap.size 35 12 u3 m3.length (gcells entV m3)) := ho3
      have Q2 : Hid (w1.ownsRow w.heap.size 35 12 u4 m2.length (gcells entV m2)) := own_by2 O2.out hg3 NE.out.symm
      have S3 : Hid (Sorted8 m1 m3) := hs3
      clear hs3 ho3 hg3
      go_wp2_with (at_builtin; refine of_stopT ?_)
      unfold StopT
      refine wl_appendL (E := EntE) EntOk entV ent_fits rfl _ _ rfl w.heap.size w.heap.size u3 u4 m3 m2 rfl O3.out rfl Q2.out (by have h1 := ML1.out; have h2 := ML2.out; have h3 := S3.out.len; omega) B1.out.size ?_
      intro v' w3 hown3 hgr3 _
      have B3 : Hid (Below w.heap.size w w3) := B1.out.trans ((Below.refl _ _).grown hgr3 B1.out.size fun k hk => (O3.out.lt k hk).1)
      have O4 : Hid (w3.ownsRow w.heap.size 35 12 v' (m3 ++ m2).length (gcells entV (m3 ++ m2))) := hown3
      clear hown3 hgr3
      simp only [Act.put, List.setIfInBounds_toArray, List.set_cons_succ, List.set_cons_zero]
      go_wp2_with fail
      go_ret
      refine ⟨⟨_, _, rfl, ⟨m3, ?_, ?_⟩, O4.out⟩, B3.out⟩
      · rw [← EL.out.1]; exact S3.out
      · rw [EL.out.2]
end Go.Proofs.YthddlchkbnmcaaaGreatDoor
