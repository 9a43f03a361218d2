import Derived.Test.YtjmbdoiibchokaaJ9
import Derived.Test.YtjmbdoiibchokaaJ5
namespace Go.Proofs.Ytjmbdoiibchokaa
open Go Go.Lib Go.RowKit
set_option maxRecDepth 20000

/-! Fields by their letters: the reference's Fields, Get, Set, Has, Size. -/
def letN (j : Nat) : Nat := [105, 101, 102, 97, 116, 111, 114, 49, 50, 115, 117, 113, 108, 67, 72].getD j 0
def strK (k : Int) : List UInt8 := (fldK k).map fun j => UInt8.ofNat (letN j)
def strB (k : Int) : ByteArray := ⟨(strK k).toArray⟩
theorem fld_len (k : Int) : (fldK k).length ≤ 8 := fld_cases (P := fun l => l.length ≤ 8) (by decide) (by decide) (by decide) (by decide) (by decide) (by decide) (by decide) (by decide) k
theorem strB_size (k : Int) : (strB k).size = (fldK k).length := by
  unfold strB strK
  simp [ByteArray.size]
theorem letN_lt {j : Nat} (hj : j < 15) : letN j < 256 := by
  have h : ∀ j : Fin 15, letN j.1 < 256 := by decide
  exact h ⟨j, hj⟩
theorem letN_inj {i j : Nat} (hi : i < 15) (hj : j < 15) (h : letN i = letN j) : i = j := by
  have h1 : ∀ i j : Fin 15, letN i.1 = letN j.1 → i = j := by decide
  exact congrArg Fin.val (h1 ⟨i, hi⟩ ⟨j, hj⟩ h)
theorem letN_beq {i j : Nat} (hi : i < 15) (hj : j < 15) : (((letN i : Nat) : Int) == ((letN j : Nat) : Int)) = decide (i = j) := by
  rw [Bool.eq_iff_iff, beq_iff_eq, decide_eq_true_eq]
  constructor
  · intro h
    exact letN_inj hi hj (by omega)
  · rintro rfl
    rfl
/-- A letter of a kind's fields. -/
theorem ix16 {k : Int} {i j : Nat} (h : (fldK k)[i]? = some j) (W : World) : (Instr.index 9 (.string (strB k)) (.int .i64 (i : Int))).run Try.prog W = .ok (.int .u8 ((letN j : Nat) : Int)) W := by
  have hi : i < (fldK k).length := (List.getElem?_eq_some_iff.1 h).1
  have hs : i < (strB k).size := by rw [strB_size]; exact hi
  have hj := fldK_lt k j (List.mem_of_getElem? h)
  have e : ((strB k)[i].toNat : Nat) = letN j := by
    have h1 := byte_q (strB k) i hs
    have h2 : (strB k).data.toList[i]? = some (UInt8.ofNat (letN j)) := by
      unfold strB strK
      simp only
      rw [List.getElem?_map, h]
      rfl
    rw [h1] at h2
    rw [Option.some.inj h2]
    simp [Nat.mod_eq_of_lt (letN_lt hj)]
  rw [← e]
  simp [go_sem, Try.underlying9, hs]
set_option maxHeartbeats 4000000 in
theorem rfields1 (w : World) : Calls Try.prog 20 #[.int .i64 1] w fun e w' => e = .returned (.string (strB 1)) ∧ w' = w := by
  go_enter Try.func20, Try.ntmps20
  go_wp2_with fail
  go_ret
  exact ⟨rfl, rfl⟩
set_option maxHeartbeats 4000000 in
theorem rfields2 (w : World) : Calls Try.prog 20 #[.int .i64 2] w fun e w' => e = .returned (.string (strB 2)) ∧ w' = w := by
  go_enter Try.func20, Try.ntmps20
  go_wp2_with fail
  go_ret
  exact ⟨rfl, rfl⟩
set_option maxHeartbeats 4000000 in
theorem rfields3 (w : World) : Calls Try.prog 20 #[.int .i64 3] w fun e w' => e = .returned (.string (strB 3)) ∧ w' = w := by
  go_enter Try.func20, Try.ntmps20
  go_wp2_with fail
  go_ret
  exact ⟨rfl, rfl⟩
set_option maxHeartbeats 4000000 in
theorem rfields4 (w : World) : Calls Try.prog 20 #[.int .i64 4] w fun e w' => e = .returned (.string (strB 4)) ∧ w' = w := by
  go_enter Try.func20, Try.ntmps20
  go_wp2_with fail
  go_ret
  exact ⟨rfl, rfl⟩
set_option maxHeartbeats 4000000 in
theorem rfields5 (w : World) : Calls Try.prog 20 #[.int .i64 5] w fun e w' => e = .returned (.string (strB 5)) ∧ w' = w := by
  go_enter Try.func20, Try.ntmps20
  go_wp2_with fail
  go_ret
  exact ⟨rfl, rfl⟩
set_option maxHeartbeats 4000000 in
theorem rfields6 (w : World) : Calls Try.prog 20 #[.int .i64 6] w fun e w' => e = .returned (.string (strB 6)) ∧ w' = w := by
  go_enter Try.func20, Try.ntmps20
  go_wp2_with fail
  go_ret
  exact ⟨rfl, rfl⟩
set_option maxHeartbeats 4000000 in
theorem rfields7 (w : World) : Calls Try.prog 20 #[.int .i64 7] w fun e w' => e = .returned (.string (strB 7)) ∧ w' = w := by
  go_enter Try.func20, Try.ntmps20
  go_wp2_with fail
  go_ret
  exact ⟨rfl, rfl⟩
set_option maxHeartbeats 4000000 in
theorem rfields0 (k : Int) (hk : fldK k = []) (w : World) : Calls Try.prog 20 #[.int .i64 k] w fun e w' => e = .returned (.string (strB k)) ∧ w' = w := by
  have n1 : ¬ k = 1 := fun e => by rw [e] at hk; cases hk
  have n2 : ¬ k = 2 := fun e => by rw [e] at hk; cases hk
  have n3 : ¬ k = 3 := fun e => by rw [e] at hk; cases hk
  have n4 : ¬ k = 4 := fun e => by rw [e] at hk; cases hk
  have n5 : ¬ k = 5 := fun e => by rw [e] at hk; cases hk
  have n6 : ¬ k = 6 := fun e => by rw [e] at hk; cases hk
  have n7 : ¬ k = 7 := fun e => by rw [e] at hk; cases hk
  have HS : Hid (strB k = ⟨#[]⟩) := by show _ = _; unfold strB strK; rw [hk]; rfl
  clear hk
  go_enter Try.func20, Try.ntmps20
  go_wp2_with fail
  go_ret
  rw [HS.out]
  exact ⟨rfl, rfl⟩
theorem r16fields_any (k : Int) (w : World) : Calls Try.prog 20 #[.int .i64 k] w fun e w' => e = .returned (.string (strB k)) ∧ w' = w := by
  by_cases hk : fldK k = []
  · exact rfields0 k hk w
  · have hr := fld_kind (k := k) (by cases h : fldK k with | nil => exact absurd h hk | cons a l => rfl)
    have hcases : k = 1 ∨ k = 2 ∨ k = 3 ∨ k = 4 ∨ k = 5 ∨ k = 6 ∨ k = 7 := by omega
    rcases hcases with rfl | rfl | rfl | rfl | rfl | rfl | rfl
    · exact rfields1 w
    · exact rfields2 w
    · exact rfields3 w
    · exact rfields4 w
    · exact rfields5 w
    · exact rfields6 w
    · exact rfields7 w
set_option maxHeartbeats 4000000 in
theorem rget0 (m : MsgM) (hm : okM m) (w : World) : Calls Try.prog 21 #[.agg (msA m), .int .u8 105] w fun e w' => e = .returned (.int .i64 (numM m 0)) ∧ Below w.heap.size w w' := by
  have hc : (w.alloc (.cells (msA m) 27)).cell? ⟨w.heap.size, 1, none⟩ = some (.int .i64 (numM m 0)) := by
    rw [cell_of_row _ _ _ _ _ _ (heap_new _ _ _ rfl)]
    exact ms_num hm 0 (by decide)
  have HB : Hid (Below w.heap.size w (w.alloc (.cells (msA m) 27))) := (Below.refl _ _).alloc (Nat.le_refl _) _
  go_enter Try.func21, Try.ntmps21
  go_wp2_with fail
  go_ret
  exact ⟨rfl, HB.out⟩
set_option maxHeartbeats 4000000 in
theorem rset0 (m : MsgM) (hm : okM m) (x : Int) (w : World) : Calls Try.prog 35 #[.agg (msA m), .int .u8 105, .int .i64 x] w fun e w' => e = .returned (.agg (msA (setN m 0 x))) ∧ Below w.heap.size w w' := by
  have g0 : ((w.alloc (.cells (msA m) 27)).alloc (.cells zeroMs 27)).heap[w.heap.size]? = some (.cells (msA m) 27 (0, 0)) := heap_past _ _ _ _ (heap_new _ _ _ rfl)
  have hc : ((w.alloc (.cells (msA m) 27)).alloc (.cells zeroMs 27)).cell? ⟨w.heap.size, 1, none⟩ = some (.int .i64 (numM m 0)) := by
    rw [cell_of_row _ _ _ _ _ _ g0]
    exact ms_num hm 0 (by decide)
  have hf : ((w.alloc (.cells (msA m) 27)).alloc (.cells zeroMs 27)).frozen? ⟨w.heap.size, 1, none⟩ = false := frozen_of_row _ _ _ _ _ g0
  have hm2 := setN_ok hm 0 x
  have hms := msA_size hm2
  have es := ms_setN hm 0 (by decide) x
  clear g0
  go_enter Try.func35, Try.ntmps35
  go_wp2_with (first
    | ((with_reducible refine wl_gl16 27 _ rfl ?_); refine of_stopW ?_))
  unfold StopW
  try rw [es]
  clear hc hf es
  have g1 : ((w.alloc (.cells (msA (setN m 0 x)) 27)).alloc (.cells zeroMs 27)).heap[w.heap.size]? = some (.cells (msA (setN m 0 x)) 27 (0, 0)) := heap_past _ _ _ _ (heap_new _ _ _ rfl)
  have z1 : ((w.alloc (.cells (msA (setN m 0 x)) 27)).alloc (.cells zeroMs 27)).heap[w.heap.size + 1]? = some (.cells zeroMs 27 (0, 0)) := heap_new _ _ _ (by simp)
  have B1 : Below w.heap.size w ((w.alloc (.cells (msA (setN m 0 x)) 27)).alloc (.cells zeroMs 27)) := ((Below.refl _ _).alloc (Nat.le_refl _) _).alloc (by simp) _
  go_wp2_with (first
    | ((with_reducible refine wl_gl16 27 _ rfl ?_); refine wl_loadA MsOk rfl _ rfl w.heap.size 0 rfl _ _ _ (msA (setN m 0 x)) hms g1 (own_cells _ _) ?_)
    | ((with_reducible refine wl_gs16 27 _ _ rfl ?_); refine wl_storeA MsOk rfl _ _ rfl (w.heap.size + 1) (msA (setN m 0 x)) (ms_fits hm2) rfl rfl _ z1 rfl _ rfl ?_))
  refine retA14 MsOk (p := 6) rfl rfl (w.heap.size + 1) rfl (msA (setN m 0 x)) hms (setRow_heap _ _ _ _ _ _ z1) ⟨rfl, below_setRow B1 (Nat.le_succ _) _⟩
set_option maxHeartbeats 4000000 in
theorem rget1 (m : MsgM) (hm : okM m) (w : World) : Calls Try.prog 21 #[.agg (msA m), .int .u8 101] w fun e w' => e = .returned (.int .i64 (numM m 1)) ∧ Below w.heap.size w w' := by
  have hc : (w.alloc (.cells (msA m) 27)).cell? ⟨w.heap.size, 2, none⟩ = some (.int .i64 (numM m 1)) := by
    rw [cell_of_row _ _ _ _ _ _ (heap_new _ _ _ rfl)]
    exact ms_num hm 1 (by decide)
  have HB : Hid (Below w.heap.size w (w.alloc (.cells (msA m) 27))) := (Below.refl _ _).alloc (Nat.le_refl _) _
  go_enter Try.func21, Try.ntmps21
  go_wp2_with fail
  go_ret
  exact ⟨rfl, HB.out⟩
set_option maxHeartbeats 4000000 in
theorem rset1 (m : MsgM) (hm : okM m) (x : Int) (w : World) : Calls Try.prog 35 #[.agg (msA m), .int .u8 101, .int .i64 x] w fun e w' => e = .returned (.agg (msA (setN m 1 x))) ∧ Below w.heap.size w w' := by
  have g0 : ((w.alloc (.cells (msA m) 27)).alloc (.cells zeroMs 27)).heap[w.heap.size]? = some (.cells (msA m) 27 (0, 0)) := heap_past _ _ _ _ (heap_new _ _ _ rfl)
  have hc : ((w.alloc (.cells (msA m) 27)).alloc (.cells zeroMs 27)).cell? ⟨w.heap.size, 2, none⟩ = some (.int .i64 (numM m 1)) := by
    rw [cell_of_row _ _ _ _ _ _ g0]
    exact ms_num hm 1 (by decide)
  have hf : ((w.alloc (.cells (msA m) 27)).alloc (.cells zeroMs 27)).frozen? ⟨w.heap.size, 2, none⟩ = false := frozen_of_row _ _ _ _ _ g0
  have hm2 := setN_ok hm 1 x
  have hms := msA_size hm2
  have es := ms_setN hm 1 (by decide) x
  clear g0
  go_enter Try.func35, Try.ntmps35
  go_wp2_with (first
    | ((with_reducible refine wl_gl16 27 _ rfl ?_); refine of_stopW ?_))
  unfold StopW
  try rw [es]
  clear hc hf es
  have g1 : ((w.alloc (.cells (msA (setN m 1 x)) 27)).alloc (.cells zeroMs 27)).heap[w.heap.size]? = some (.cells (msA (setN m 1 x)) 27 (0, 0)) := heap_past _ _ _ _ (heap_new _ _ _ rfl)
  have z1 : ((w.alloc (.cells (msA (setN m 1 x)) 27)).alloc (.cells zeroMs 27)).heap[w.heap.size + 1]? = some (.cells zeroMs 27 (0, 0)) := heap_new _ _ _ (by simp)
  have B1 : Below w.heap.size w ((w.alloc (.cells (msA (setN m 1 x)) 27)).alloc (.cells zeroMs 27)) := ((Below.refl _ _).alloc (Nat.le_refl _) _).alloc (by simp) _
  go_wp2_with (first
    | ((with_reducible refine wl_gl16 27 _ rfl ?_); refine wl_loadA MsOk rfl _ rfl w.heap.size 0 rfl _ _ _ (msA (setN m 1 x)) hms g1 (own_cells _ _) ?_)
    | ((with_reducible refine wl_gs16 27 _ _ rfl ?_); refine wl_storeA MsOk rfl _ _ rfl (w.heap.size + 1) (msA (setN m 1 x)) (ms_fits hm2) rfl rfl _ z1 rfl _ rfl ?_))
  refine retA14 MsOk (p := 6) rfl rfl (w.heap.size + 1) rfl (msA (setN m 1 x)) hms (setRow_heap _ _ _ _ _ _ z1) ⟨rfl, below_setRow B1 (Nat.le_succ _) _⟩
set_option maxHeartbeats 4000000 in
theorem rget2 (m : MsgM) (hm : okM m) (w : World) : Calls Try.prog 21 #[.agg (msA m), .int .u8 102] w fun e w' => e = .returned (.int .i64 (numM m 2)) ∧ Below w.heap.size w w' := by
  have hc : (w.alloc (.cells (msA m) 27)).cell? ⟨w.heap.size, 3, none⟩ = some (.int .i64 (numM m 2)) := by
    rw [cell_of_row _ _ _ _ _ _ (heap_new _ _ _ rfl)]
    exact ms_num hm 2 (by decide)
  have HB : Hid (Below w.heap.size w (w.alloc (.cells (msA m) 27))) := (Below.refl _ _).alloc (Nat.le_refl _) _
  go_enter Try.func21, Try.ntmps21
  go_wp2_with fail
  go_ret
  exact ⟨rfl, HB.out⟩
set_option maxHeartbeats 4000000 in
theorem rset2 (m : MsgM) (hm : okM m) (x : Int) (w : World) : Calls Try.prog 35 #[.agg (msA m), .int .u8 102, .int .i64 x] w fun e w' => e = .returned (.agg (msA (setN m 2 x))) ∧ Below w.heap.size w w' := by
  have g0 : ((w.alloc (.cells (msA m) 27)).alloc (.cells zeroMs 27)).heap[w.heap.size]? = some (.cells (msA m) 27 (0, 0)) := heap_past _ _ _ _ (heap_new _ _ _ rfl)
  have hc : ((w.alloc (.cells (msA m) 27)).alloc (.cells zeroMs 27)).cell? ⟨w.heap.size, 3, none⟩ = some (.int .i64 (numM m 2)) := by
    rw [cell_of_row _ _ _ _ _ _ g0]
    exact ms_num hm 2 (by decide)
  have hf : ((w.alloc (.cells (msA m) 27)).alloc (.cells zeroMs 27)).frozen? ⟨w.heap.size, 3, none⟩ = false := frozen_of_row _ _ _ _ _ g0
  have hm2 := setN_ok hm 2 x
  have hms := msA_size hm2
  have es := ms_setN hm 2 (by decide) x
  clear g0
  go_enter Try.func35, Try.ntmps35
  go_wp2_with (first
    | ((with_reducible refine wl_gl16 27 _ rfl ?_); refine of_stopW ?_))
  unfold StopW
  try rw [es]
  clear hc hf es
  have g1 : ((w.alloc (.cells (msA (setN m 2 x)) 27)).alloc (.cells zeroMs 27)).heap[w.heap.size]? = some (.cells (msA (setN m 2 x)) 27 (0, 0)) := heap_past _ _ _ _ (heap_new _ _ _ rfl)
  have z1 : ((w.alloc (.cells (msA (setN m 2 x)) 27)).alloc (.cells zeroMs 27)).heap[w.heap.size + 1]? = some (.cells zeroMs 27 (0, 0)) := heap_new _ _ _ (by simp)
  have B1 : Below w.heap.size w ((w.alloc (.cells (msA (setN m 2 x)) 27)).alloc (.cells zeroMs 27)) := ((Below.refl _ _).alloc (Nat.le_refl _) _).alloc (by simp) _
  go_wp2_with (first
    | ((with_reducible refine wl_gl16 27 _ rfl ?_); refine wl_loadA MsOk rfl _ rfl w.heap.size 0 rfl _ _ _ (msA (setN m 2 x)) hms g1 (own_cells _ _) ?_)
    | ((with_reducible refine wl_gs16 27 _ _ rfl ?_); refine wl_storeA MsOk rfl _ _ rfl (w.heap.size + 1) (msA (setN m 2 x)) (ms_fits hm2) rfl rfl _ z1 rfl _ rfl ?_))
  refine retA14 MsOk (p := 6) rfl rfl (w.heap.size + 1) rfl (msA (setN m 2 x)) hms (setRow_heap _ _ _ _ _ _ z1) ⟨rfl, below_setRow B1 (Nat.le_succ _) _⟩
set_option maxHeartbeats 4000000 in
theorem rget3 (m : MsgM) (hm : okM m) (w : World) : Calls Try.prog 21 #[.agg (msA m), .int .u8 97] w fun e w' => e = .returned (.int .i64 (numM m 3)) ∧ Below w.heap.size w w' := by
  have hc : (w.alloc (.cells (msA m) 27)).cell? ⟨w.heap.size, 4, none⟩ = some (.int .i64 (numM m 3)) := by
    rw [cell_of_row _ _ _ _ _ _ (heap_new _ _ _ rfl)]
    exact ms_num hm 3 (by decide)
  have HB : Hid (Below w.heap.size w (w.alloc (.cells (msA m) 27))) := (Below.refl _ _).alloc (Nat.le_refl _) _
  go_enter Try.func21, Try.ntmps21
  go_wp2_with fail
  go_ret
  exact ⟨rfl, HB.out⟩
set_option maxHeartbeats 4000000 in
theorem rset3 (m : MsgM) (hm : okM m) (x : Int) (w : World) : Calls Try.prog 35 #[.agg (msA m), .int .u8 97, .int .i64 x] w fun e w' => e = .returned (.agg (msA (setN m 3 x))) ∧ Below w.heap.size w w' := by
  have g0 : ((w.alloc (.cells (msA m) 27)).alloc (.cells zeroMs 27)).heap[w.heap.size]? = some (.cells (msA m) 27 (0, 0)) := heap_past _ _ _ _ (heap_new _ _ _ rfl)
  have hc : ((w.alloc (.cells (msA m) 27)).alloc (.cells zeroMs 27)).cell? ⟨w.heap.size, 4, none⟩ = some (.int .i64 (numM m 3)) := by
    rw [cell_of_row _ _ _ _ _ _ g0]
    exact ms_num hm 3 (by decide)
  have hf : ((w.alloc (.cells (msA m) 27)).alloc (.cells zeroMs 27)).frozen? ⟨w.heap.size, 4, none⟩ = false := frozen_of_row _ _ _ _ _ g0
  have hm2 := setN_ok hm 3 x
  have hms := msA_size hm2
  have es := ms_setN hm 3 (by decide) x
  clear g0
  go_enter Try.func35, Try.ntmps35
  go_wp2_with (first
    | ((with_reducible refine wl_gl16 27 _ rfl ?_); refine of_stopW ?_))
  unfold StopW
  try rw [es]
  clear hc hf es
  have g1 : ((w.alloc (.cells (msA (setN m 3 x)) 27)).alloc (.cells zeroMs 27)).heap[w.heap.size]? = some (.cells (msA (setN m 3 x)) 27 (0, 0)) := heap_past _ _ _ _ (heap_new _ _ _ rfl)
  have z1 : ((w.alloc (.cells (msA (setN m 3 x)) 27)).alloc (.cells zeroMs 27)).heap[w.heap.size + 1]? = some (.cells zeroMs 27 (0, 0)) := heap_new _ _ _ (by simp)
  have B1 : Below w.heap.size w ((w.alloc (.cells (msA (setN m 3 x)) 27)).alloc (.cells zeroMs 27)) := ((Below.refl _ _).alloc (Nat.le_refl _) _).alloc (by simp) _
  go_wp2_with (first
    | ((with_reducible refine wl_gl16 27 _ rfl ?_); refine wl_loadA MsOk rfl _ rfl w.heap.size 0 rfl _ _ _ (msA (setN m 3 x)) hms g1 (own_cells _ _) ?_)
    | ((with_reducible refine wl_gs16 27 _ _ rfl ?_); refine wl_storeA MsOk rfl _ _ rfl (w.heap.size + 1) (msA (setN m 3 x)) (ms_fits hm2) rfl rfl _ z1 rfl _ rfl ?_))
  refine retA14 MsOk (p := 6) rfl rfl (w.heap.size + 1) rfl (msA (setN m 3 x)) hms (setRow_heap _ _ _ _ _ _ z1) ⟨rfl, below_setRow B1 (Nat.le_succ _) _⟩
set_option maxHeartbeats 4000000 in
theorem rget4 (m : MsgM) (hm : okM m) (w : World) : Calls Try.prog 21 #[.agg (msA m), .int .u8 116] w fun e w' => e = .returned (.int .i64 (numM m 4)) ∧ Below w.heap.size w w' := by
  have hc : (w.alloc (.cells (msA m) 27)).cell? ⟨w.heap.size, 5, none⟩ = some (.int .i64 (numM m 4)) := by
    rw [cell_of_row _ _ _ _ _ _ (heap_new _ _ _ rfl)]
    exact ms_num hm 4 (by decide)
  have HB : Hid (Below w.heap.size w (w.alloc (.cells (msA m) 27))) := (Below.refl _ _).alloc (Nat.le_refl _) _
  go_enter Try.func21, Try.ntmps21
  go_wp2_with fail
  go_ret
  exact ⟨rfl, HB.out⟩
set_option maxHeartbeats 4000000 in
theorem rset4 (m : MsgM) (hm : okM m) (x : Int) (w : World) : Calls Try.prog 35 #[.agg (msA m), .int .u8 116, .int .i64 x] w fun e w' => e = .returned (.agg (msA (setN m 4 x))) ∧ Below w.heap.size w w' := by
  have g0 : ((w.alloc (.cells (msA m) 27)).alloc (.cells zeroMs 27)).heap[w.heap.size]? = some (.cells (msA m) 27 (0, 0)) := heap_past _ _ _ _ (heap_new _ _ _ rfl)
  have hc : ((w.alloc (.cells (msA m) 27)).alloc (.cells zeroMs 27)).cell? ⟨w.heap.size, 5, none⟩ = some (.int .i64 (numM m 4)) := by
    rw [cell_of_row _ _ _ _ _ _ g0]
    exact ms_num hm 4 (by decide)
  have hf : ((w.alloc (.cells (msA m) 27)).alloc (.cells zeroMs 27)).frozen? ⟨w.heap.size, 5, none⟩ = false := frozen_of_row _ _ _ _ _ g0
  have hm2 := setN_ok hm 4 x
  have hms := msA_size hm2
  have es := ms_setN hm 4 (by decide) x
  clear g0
  go_enter Try.func35, Try.ntmps35
  go_wp2_with (first
    | ((with_reducible refine wl_gl16 27 _ rfl ?_); refine of_stopW ?_))
  unfold StopW
  try rw [es]
  clear hc hf es
  have g1 : ((w.alloc (.cells (msA (setN m 4 x)) 27)).alloc (.cells zeroMs 27)).heap[w.heap.size]? = some (.cells (msA (setN m 4 x)) 27 (0, 0)) := heap_past _ _ _ _ (heap_new _ _ _ rfl)
  have z1 : ((w.alloc (.cells (msA (setN m 4 x)) 27)).alloc (.cells zeroMs 27)).heap[w.heap.size + 1]? = some (.cells zeroMs 27 (0, 0)) := heap_new _ _ _ (by simp)
  have B1 : Below w.heap.size w ((w.alloc (.cells (msA (setN m 4 x)) 27)).alloc (.cells zeroMs 27)) := ((Below.refl _ _).alloc (Nat.le_refl _) _).alloc (by simp) _
  go_wp2_with (first
    | ((with_reducible refine wl_gl16 27 _ rfl ?_); refine wl_loadA MsOk rfl _ rfl w.heap.size 0 rfl _ _ _ (msA (setN m 4 x)) hms g1 (own_cells _ _) ?_)
    | ((with_reducible refine wl_gs16 27 _ _ rfl ?_); refine wl_storeA MsOk rfl _ _ rfl (w.heap.size + 1) (msA (setN m 4 x)) (ms_fits hm2) rfl rfl _ z1 rfl _ rfl ?_))
  refine retA14 MsOk (p := 6) rfl rfl (w.heap.size + 1) rfl (msA (setN m 4 x)) hms (setRow_heap _ _ _ _ _ _ z1) ⟨rfl, below_setRow B1 (Nat.le_succ _) _⟩
set_option maxHeartbeats 4000000 in
theorem rget5 (m : MsgM) (hm : okM m) (w : World) : Calls Try.prog 21 #[.agg (msA m), .int .u8 111] w fun e w' => e = .returned (.int .i64 (numM m 5)) ∧ Below w.heap.size w w' := by
  have hc : (w.alloc (.cells (msA m) 27)).cell? ⟨w.heap.size, 6, none⟩ = some (.int .i64 (numM m 5)) := by
    rw [cell_of_row _ _ _ _ _ _ (heap_new _ _ _ rfl)]
    exact ms_num hm 5 (by decide)
  have HB : Hid (Below w.heap.size w (w.alloc (.cells (msA m) 27))) := (Below.refl _ _).alloc (Nat.le_refl _) _
  go_enter Try.func21, Try.ntmps21
  go_wp2_with fail
  go_ret
  exact ⟨rfl, HB.out⟩
set_option maxHeartbeats 4000000 in
theorem rset5 (m : MsgM) (hm : okM m) (x : Int) (w : World) : Calls Try.prog 35 #[.agg (msA m), .int .u8 111, .int .i64 x] w fun e w' => e = .returned (.agg (msA (setN m 5 x))) ∧ Below w.heap.size w w' := by
  have g0 : ((w.alloc (.cells (msA m) 27)).alloc (.cells zeroMs 27)).heap[w.heap.size]? = some (.cells (msA m) 27 (0, 0)) := heap_past _ _ _ _ (heap_new _ _ _ rfl)
  have hc : ((w.alloc (.cells (msA m) 27)).alloc (.cells zeroMs 27)).cell? ⟨w.heap.size, 6, none⟩ = some (.int .i64 (numM m 5)) := by
    rw [cell_of_row _ _ _ _ _ _ g0]
    exact ms_num hm 5 (by decide)
  have hf : ((w.alloc (.cells (msA m) 27)).alloc (.cells zeroMs 27)).frozen? ⟨w.heap.size, 6, none⟩ = false := frozen_of_row _ _ _ _ _ g0
  have hm2 := setN_ok hm 5 x
  have hms := msA_size hm2
  have es := ms_setN hm 5 (by decide) x
  clear g0
  go_enter Try.func35, Try.ntmps35
  go_wp2_with (first
    | ((with_reducible refine wl_gl16 27 _ rfl ?_); refine of_stopW ?_))
  unfold StopW
  try rw [es]
  clear hc hf es
  have g1 : ((w.alloc (.cells (msA (setN m 5 x)) 27)).alloc (.cells zeroMs 27)).heap[w.heap.size]? = some (.cells (msA (setN m 5 x)) 27 (0, 0)) := heap_past _ _ _ _ (heap_new _ _ _ rfl)
  have z1 : ((w.alloc (.cells (msA (setN m 5 x)) 27)).alloc (.cells zeroMs 27)).heap[w.heap.size + 1]? = some (.cells zeroMs 27 (0, 0)) := heap_new _ _ _ (by simp)
  have B1 : Below w.heap.size w ((w.alloc (.cells (msA (setN m 5 x)) 27)).alloc (.cells zeroMs 27)) := ((Below.refl _ _).alloc (Nat.le_refl _) _).alloc (by simp) _
  go_wp2_with (first
    | ((with_reducible refine wl_gl16 27 _ rfl ?_); refine wl_loadA MsOk rfl _ rfl w.heap.size 0 rfl _ _ _ (msA (setN m 5 x)) hms g1 (own_cells _ _) ?_)
    | ((with_reducible refine wl_gs16 27 _ _ rfl ?_); refine wl_storeA MsOk rfl _ _ rfl (w.heap.size + 1) (msA (setN m 5 x)) (ms_fits hm2) rfl rfl _ z1 rfl _ rfl ?_))
  refine retA14 MsOk (p := 6) rfl rfl (w.heap.size + 1) rfl (msA (setN m 5 x)) hms (setRow_heap _ _ _ _ _ _ z1) ⟨rfl, below_setRow B1 (Nat.le_succ _) _⟩
set_option maxHeartbeats 4000000 in
theorem rget6 (m : MsgM) (hm : okM m) (w : World) : Calls Try.prog 21 #[.agg (msA m), .int .u8 114] w fun e w' => e = .returned (.int .i64 (numM m 6)) ∧ Below w.heap.size w w' := by
  have hc : (w.alloc (.cells (msA m) 27)).cell? ⟨w.heap.size, 7, none⟩ = some (.int .i64 (numM m 6)) := by
    rw [cell_of_row _ _ _ _ _ _ (heap_new _ _ _ rfl)]
    exact ms_num hm 6 (by decide)
  have HB : Hid (Below w.heap.size w (w.alloc (.cells (msA m) 27))) := (Below.refl _ _).alloc (Nat.le_refl _) _
  go_enter Try.func21, Try.ntmps21
  go_wp2_with fail
  go_ret
  exact ⟨rfl, HB.out⟩
set_option maxHeartbeats 4000000 in
theorem rset6 (m : MsgM) (hm : okM m) (x : Int) (w : World) : Calls Try.prog 35 #[.agg (msA m), .int .u8 114, .int .i64 x] w fun e w' => e = .returned (.agg (msA (setN m 6 x))) ∧ Below w.heap.size w w' := by
  have g0 : ((w.alloc (.cells (msA m) 27)).alloc (.cells zeroMs 27)).heap[w.heap.size]? = some (.cells (msA m) 27 (0, 0)) := heap_past _ _ _ _ (heap_new _ _ _ rfl)
  have hc : ((w.alloc (.cells (msA m) 27)).alloc (.cells zeroMs 27)).cell? ⟨w.heap.size, 7, none⟩ = some (.int .i64 (numM m 6)) := by
    rw [cell_of_row _ _ _ _ _ _ g0]
    exact ms_num hm 6 (by decide)
  have hf : ((w.alloc (.cells (msA m) 27)).alloc (.cells zeroMs 27)).frozen? ⟨w.heap.size, 7, none⟩ = false := frozen_of_row _ _ _ _ _ g0
  have hm2 := setN_ok hm 6 x
  have hms := msA_size hm2
  have es := ms_setN hm 6 (by decide) x
  clear g0
  go_enter Try.func35, Try.ntmps35
  go_wp2_with (first
    | ((with_reducible refine wl_gl16 27 _ rfl ?_); refine of_stopW ?_))
  unfold StopW
  try rw [es]
  clear hc hf es
  have g1 : ((w.alloc (.cells (msA (setN m 6 x)) 27)).alloc (.cells zeroMs 27)).heap[w.heap.size]? = some (.cells (msA (setN m 6 x)) 27 (0, 0)) := heap_past _ _ _ _ (heap_new _ _ _ rfl)
  have z1 : ((w.alloc (.cells (msA (setN m 6 x)) 27)).alloc (.cells zeroMs 27)).heap[w.heap.size + 1]? = some (.cells zeroMs 27 (0, 0)) := heap_new _ _ _ (by simp)
  have B1 : Below w.heap.size w ((w.alloc (.cells (msA (setN m 6 x)) 27)).alloc (.cells zeroMs 27)) := ((Below.refl _ _).alloc (Nat.le_refl _) _).alloc (by simp) _
  go_wp2_with (first
    | ((with_reducible refine wl_gl16 27 _ rfl ?_); refine wl_loadA MsOk rfl _ rfl w.heap.size 0 rfl _ _ _ (msA (setN m 6 x)) hms g1 (own_cells _ _) ?_)
    | ((with_reducible refine wl_gs16 27 _ _ rfl ?_); refine wl_storeA MsOk rfl _ _ rfl (w.heap.size + 1) (msA (setN m 6 x)) (ms_fits hm2) rfl rfl _ z1 rfl _ rfl ?_))
  refine retA14 MsOk (p := 6) rfl rfl (w.heap.size + 1) rfl (msA (setN m 6 x)) hms (setRow_heap _ _ _ _ _ _ z1) ⟨rfl, below_setRow B1 (Nat.le_succ _) _⟩
set_option maxHeartbeats 4000000 in
theorem rget7 (m : MsgM) (hm : okM m) (w : World) : Calls Try.prog 21 #[.agg (msA m), .int .u8 49] w fun e w' => e = .returned (.int .i64 (numM m 7)) ∧ Below w.heap.size w w' := by
  have hc : (w.alloc (.cells (msA m) 27)).cell? ⟨w.heap.size, 8, none⟩ = some (.int .i64 (numM m 7)) := by
    rw [cell_of_row _ _ _ _ _ _ (heap_new _ _ _ rfl)]
    exact ms_num hm 7 (by decide)
  have HB : Hid (Below w.heap.size w (w.alloc (.cells (msA m) 27))) := (Below.refl _ _).alloc (Nat.le_refl _) _
  go_enter Try.func21, Try.ntmps21
  go_wp2_with fail
  go_ret
  exact ⟨rfl, HB.out⟩
set_option maxHeartbeats 4000000 in
theorem rset7 (m : MsgM) (hm : okM m) (x : Int) (w : World) : Calls Try.prog 35 #[.agg (msA m), .int .u8 49, .int .i64 x] w fun e w' => e = .returned (.agg (msA (setN m 7 x))) ∧ Below w.heap.size w w' := by
  have g0 : ((w.alloc (.cells (msA m) 27)).alloc (.cells zeroMs 27)).heap[w.heap.size]? = some (.cells (msA m) 27 (0, 0)) := heap_past _ _ _ _ (heap_new _ _ _ rfl)
  have hc : ((w.alloc (.cells (msA m) 27)).alloc (.cells zeroMs 27)).cell? ⟨w.heap.size, 8, none⟩ = some (.int .i64 (numM m 7)) := by
    rw [cell_of_row _ _ _ _ _ _ g0]
    exact ms_num hm 7 (by decide)
  have hf : ((w.alloc (.cells (msA m) 27)).alloc (.cells zeroMs 27)).frozen? ⟨w.heap.size, 8, none⟩ = false := frozen_of_row _ _ _ _ _ g0
  have hm2 := setN_ok hm 7 x
  have hms := msA_size hm2
  have es := ms_setN hm 7 (by decide) x
  clear g0
  go_enter Try.func35, Try.ntmps35
  go_wp2_with (first
    | ((with_reducible refine wl_gl16 27 _ rfl ?_); refine of_stopW ?_))
  unfold StopW
  try rw [es]
  clear hc hf es
  have g1 : ((w.alloc (.cells (msA (setN m 7 x)) 27)).alloc (.cells zeroMs 27)).heap[w.heap.size]? = some (.cells (msA (setN m 7 x)) 27 (0, 0)) := heap_past _ _ _ _ (heap_new _ _ _ rfl)
  have z1 : ((w.alloc (.cells (msA (setN m 7 x)) 27)).alloc (.cells zeroMs 27)).heap[w.heap.size + 1]? = some (.cells zeroMs 27 (0, 0)) := heap_new _ _ _ (by simp)
  have B1 : Below w.heap.size w ((w.alloc (.cells (msA (setN m 7 x)) 27)).alloc (.cells zeroMs 27)) := ((Below.refl _ _).alloc (Nat.le_refl _) _).alloc (by simp) _
  go_wp2_with (first
    | ((with_reducible refine wl_gl16 27 _ rfl ?_); refine wl_loadA MsOk rfl _ rfl w.heap.size 0 rfl _ _ _ (msA (setN m 7 x)) hms g1 (own_cells _ _) ?_)
    | ((with_reducible refine wl_gs16 27 _ _ rfl ?_); refine wl_storeA MsOk rfl _ _ rfl (w.heap.size + 1) (msA (setN m 7 x)) (ms_fits hm2) rfl rfl _ z1 rfl _ rfl ?_))
  refine retA14 MsOk (p := 6) rfl rfl (w.heap.size + 1) rfl (msA (setN m 7 x)) hms (setRow_heap _ _ _ _ _ _ z1) ⟨rfl, below_setRow B1 (Nat.le_succ _) _⟩
set_option maxHeartbeats 4000000 in
theorem rget8 (m : MsgM) (hm : okM m) (w : World) : Calls Try.prog 21 #[.agg (msA m), .int .u8 50] w fun e w' => e = .returned (.int .i64 (numM m 8)) ∧ Below w.heap.size w w' := by
  have hc : (w.alloc (.cells (msA m) 27)).cell? ⟨w.heap.size, 9, none⟩ = some (.int .i64 (numM m 8)) := by
    rw [cell_of_row _ _ _ _ _ _ (heap_new _ _ _ rfl)]
    exact ms_num hm 8 (by decide)
  have HB : Hid (Below w.heap.size w (w.alloc (.cells (msA m) 27))) := (Below.refl _ _).alloc (Nat.le_refl _) _
  go_enter Try.func21, Try.ntmps21
  go_wp2_with fail
  go_ret
  exact ⟨rfl, HB.out⟩
set_option maxHeartbeats 4000000 in
theorem rset8 (m : MsgM) (hm : okM m) (x : Int) (w : World) : Calls Try.prog 35 #[.agg (msA m), .int .u8 50, .int .i64 x] w fun e w' => e = .returned (.agg (msA (setN m 8 x))) ∧ Below w.heap.size w w' := by
  have g0 : ((w.alloc (.cells (msA m) 27)).alloc (.cells zeroMs 27)).heap[w.heap.size]? = some (.cells (msA m) 27 (0, 0)) := heap_past _ _ _ _ (heap_new _ _ _ rfl)
  have hc : ((w.alloc (.cells (msA m) 27)).alloc (.cells zeroMs 27)).cell? ⟨w.heap.size, 9, none⟩ = some (.int .i64 (numM m 8)) := by
    rw [cell_of_row _ _ _ _ _ _ g0]
    exact ms_num hm 8 (by decide)
  have hf : ((w.alloc (.cells (msA m) 27)).alloc (.cells zeroMs 27)).frozen? ⟨w.heap.size, 9, none⟩ = false := frozen_of_row _ _ _ _ _ g0
  have hm2 := setN_ok hm 8 x
  have hms := msA_size hm2
  have es := ms_setN hm 8 (by decide) x
  clear g0
  go_enter Try.func35, Try.ntmps35
  go_wp2_with (first
    | ((with_reducible refine wl_gl16 27 _ rfl ?_); refine of_stopW ?_))
  unfold StopW
  try rw [es]
  clear hc hf es
  have g1 : ((w.alloc (.cells (msA (setN m 8 x)) 27)).alloc (.cells zeroMs 27)).heap[w.heap.size]? = some (.cells (msA (setN m 8 x)) 27 (0, 0)) := heap_past _ _ _ _ (heap_new _ _ _ rfl)
  have z1 : ((w.alloc (.cells (msA (setN m 8 x)) 27)).alloc (.cells zeroMs 27)).heap[w.heap.size + 1]? = some (.cells zeroMs 27 (0, 0)) := heap_new _ _ _ (by simp)
  have B1 : Below w.heap.size w ((w.alloc (.cells (msA (setN m 8 x)) 27)).alloc (.cells zeroMs 27)) := ((Below.refl _ _).alloc (Nat.le_refl _) _).alloc (by simp) _
  go_wp2_with (first
    | ((with_reducible refine wl_gl16 27 _ rfl ?_); refine wl_loadA MsOk rfl _ rfl w.heap.size 0 rfl _ _ _ (msA (setN m 8 x)) hms g1 (own_cells _ _) ?_)
    | ((with_reducible refine wl_gs16 27 _ _ rfl ?_); refine wl_storeA MsOk rfl _ _ rfl (w.heap.size + 1) (msA (setN m 8 x)) (ms_fits hm2) rfl rfl _ z1 rfl _ rfl ?_))
  refine retA14 MsOk (p := 6) rfl rfl (w.heap.size + 1) rfl (msA (setN m 8 x)) hms (setRow_heap _ _ _ _ _ _ z1) ⟨rfl, below_setRow B1 (Nat.le_succ _) _⟩
set_option maxHeartbeats 4000000 in
theorem rget9 (m : MsgM) (hm : okM m) (w : World) : Calls Try.prog 21 #[.agg (msA m), .int .u8 115] w fun e w' => e = .returned (.int .i64 (numM m 9)) ∧ Below w.heap.size w w' := by
  have hc : (w.alloc (.cells (msA m) 27)).cell? ⟨w.heap.size, 10, none⟩ = some (.int .i64 (numM m 9)) := by
    rw [cell_of_row _ _ _ _ _ _ (heap_new _ _ _ rfl)]
    exact ms_num hm 9 (by decide)
  have HB : Hid (Below w.heap.size w (w.alloc (.cells (msA m) 27))) := (Below.refl _ _).alloc (Nat.le_refl _) _
  go_enter Try.func21, Try.ntmps21
  go_wp2_with fail
  go_ret
  exact ⟨rfl, HB.out⟩
set_option maxHeartbeats 4000000 in
theorem rset9 (m : MsgM) (hm : okM m) (x : Int) (w : World) : Calls Try.prog 35 #[.agg (msA m), .int .u8 115, .int .i64 x] w fun e w' => e = .returned (.agg (msA (setN m 9 x))) ∧ Below w.heap.size w w' := by
  have g0 : ((w.alloc (.cells (msA m) 27)).alloc (.cells zeroMs 27)).heap[w.heap.size]? = some (.cells (msA m) 27 (0, 0)) := heap_past _ _ _ _ (heap_new _ _ _ rfl)
  have hc : ((w.alloc (.cells (msA m) 27)).alloc (.cells zeroMs 27)).cell? ⟨w.heap.size, 10, none⟩ = some (.int .i64 (numM m 9)) := by
    rw [cell_of_row _ _ _ _ _ _ g0]
    exact ms_num hm 9 (by decide)
  have hf : ((w.alloc (.cells (msA m) 27)).alloc (.cells zeroMs 27)).frozen? ⟨w.heap.size, 10, none⟩ = false := frozen_of_row _ _ _ _ _ g0
  have hm2 := setN_ok hm 9 x
  have hms := msA_size hm2
  have es := ms_setN hm 9 (by decide) x
  clear g0
  go_enter Try.func35, Try.ntmps35
  go_wp2_with (first
    | ((with_reducible refine wl_gl16 27 _ rfl ?_); refine of_stopW ?_))
  unfold StopW
  try rw [es]
  clear hc hf es
  have g1 : ((w.alloc (.cells (msA (setN m 9 x)) 27)).alloc (.cells zeroMs 27)).heap[w.heap.size]? = some (.cells (msA (setN m 9 x)) 27 (0, 0)) := heap_past _ _ _ _ (heap_new _ _ _ rfl)
  have z1 : ((w.alloc (.cells (msA (setN m 9 x)) 27)).alloc (.cells zeroMs 27)).heap[w.heap.size + 1]? = some (.cells zeroMs 27 (0, 0)) := heap_new _ _ _ (by simp)
  have B1 : Below w.heap.size w ((w.alloc (.cells (msA (setN m 9 x)) 27)).alloc (.cells zeroMs 27)) := ((Below.refl _ _).alloc (Nat.le_refl _) _).alloc (by simp) _
  go_wp2_with (first
    | ((with_reducible refine wl_gl16 27 _ rfl ?_); refine wl_loadA MsOk rfl _ rfl w.heap.size 0 rfl _ _ _ (msA (setN m 9 x)) hms g1 (own_cells _ _) ?_)
    | ((with_reducible refine wl_gs16 27 _ _ rfl ?_); refine wl_storeA MsOk rfl _ _ rfl (w.heap.size + 1) (msA (setN m 9 x)) (ms_fits hm2) rfl rfl _ z1 rfl _ rfl ?_))
  refine retA14 MsOk (p := 6) rfl rfl (w.heap.size + 1) rfl (msA (setN m 9 x)) hms (setRow_heap _ _ _ _ _ _ z1) ⟨rfl, below_setRow B1 (Nat.le_succ _) _⟩
set_option maxHeartbeats 4000000 in
theorem rget10 (m : MsgM) (hm : okM m) (w : World) : Calls Try.prog 21 #[.agg (msA m), .int .u8 117] w fun e w' => e = .returned (.int .i64 (numM m 10)) ∧ Below w.heap.size w w' := by
  have hc : (w.alloc (.cells (msA m) 27)).cell? ⟨w.heap.size, 11, none⟩ = some (.int .i64 (numM m 10)) := by
    rw [cell_of_row _ _ _ _ _ _ (heap_new _ _ _ rfl)]
    exact ms_num hm 10 (by decide)
  have HB : Hid (Below w.heap.size w (w.alloc (.cells (msA m) 27))) := (Below.refl _ _).alloc (Nat.le_refl _) _
  go_enter Try.func21, Try.ntmps21
  go_wp2_with fail
  go_ret
  exact ⟨rfl, HB.out⟩
set_option maxHeartbeats 4000000 in
theorem rset10 (m : MsgM) (hm : okM m) (x : Int) (w : World) : Calls Try.prog 35 #[.agg (msA m), .int .u8 117, .int .i64 x] w fun e w' => e = .returned (.agg (msA (setN m 10 x))) ∧ Below w.heap.size w w' := by
  have g0 : ((w.alloc (.cells (msA m) 27)).alloc (.cells zeroMs 27)).heap[w.heap.size]? = some (.cells (msA m) 27 (0, 0)) := heap_past _ _ _ _ (heap_new _ _ _ rfl)
  have hc : ((w.alloc (.cells (msA m) 27)).alloc (.cells zeroMs 27)).cell? ⟨w.heap.size, 11, none⟩ = some (.int .i64 (numM m 10)) := by
    rw [cell_of_row _ _ _ _ _ _ g0]
    exact ms_num hm 10 (by decide)
  have hf : ((w.alloc (.cells (msA m) 27)).alloc (.cells zeroMs 27)).frozen? ⟨w.heap.size, 11, none⟩ = false := frozen_of_row _ _ _ _ _ g0
  have hm2 := setN_ok hm 10 x
  have hms := msA_size hm2
  have es := ms_setN hm 10 (by decide) x
  clear g0
  go_enter Try.func35, Try.ntmps35
  go_wp2_with (first
    | ((with_reducible refine wl_gl16 27 _ rfl ?_); refine of_stopW ?_))
  unfold StopW
  try rw [es]
  clear hc hf es
  have g1 : ((w.alloc (.cells (msA (setN m 10 x)) 27)).alloc (.cells zeroMs 27)).heap[w.heap.size]? = some (.cells (msA (setN m 10 x)) 27 (0, 0)) := heap_past _ _ _ _ (heap_new _ _ _ rfl)
  have z1 : ((w.alloc (.cells (msA (setN m 10 x)) 27)).alloc (.cells zeroMs 27)).heap[w.heap.size + 1]? = some (.cells zeroMs 27 (0, 0)) := heap_new _ _ _ (by simp)
  have B1 : Below w.heap.size w ((w.alloc (.cells (msA (setN m 10 x)) 27)).alloc (.cells zeroMs 27)) := ((Below.refl _ _).alloc (Nat.le_refl _) _).alloc (by simp) _
  go_wp2_with (first
    | ((with_reducible refine wl_gl16 27 _ rfl ?_); refine wl_loadA MsOk rfl _ rfl w.heap.size 0 rfl _ _ _ (msA (setN m 10 x)) hms g1 (own_cells _ _) ?_)
    | ((with_reducible refine wl_gs16 27 _ _ rfl ?_); refine wl_storeA MsOk rfl _ _ rfl (w.heap.size + 1) (msA (setN m 10 x)) (ms_fits hm2) rfl rfl _ z1 rfl _ rfl ?_))
  refine retA14 MsOk (p := 6) rfl rfl (w.heap.size + 1) rfl (msA (setN m 10 x)) hms (setRow_heap _ _ _ _ _ _ z1) ⟨rfl, below_setRow B1 (Nat.le_succ _) _⟩
set_option maxHeartbeats 4000000 in
theorem rget11 (m : MsgM) (hm : okM m) (w : World) : Calls Try.prog 21 #[.agg (msA m), .int .u8 113] w fun e w' => e = .returned (.int .i64 (numM m 11)) ∧ Below w.heap.size w w' := by
  have hc : (w.alloc (.cells (msA m) 27)).cell? ⟨w.heap.size, 12, none⟩ = some (.int .i64 (numM m 11)) := by
    rw [cell_of_row _ _ _ _ _ _ (heap_new _ _ _ rfl)]
    exact ms_num hm 11 (by decide)
  have HB : Hid (Below w.heap.size w (w.alloc (.cells (msA m) 27))) := (Below.refl _ _).alloc (Nat.le_refl _) _
  go_enter Try.func21, Try.ntmps21
  go_wp2_with fail
  go_ret
  exact ⟨rfl, HB.out⟩
set_option maxHeartbeats 4000000 in
theorem rset11 (m : MsgM) (hm : okM m) (x : Int) (w : World) : Calls Try.prog 35 #[.agg (msA m), .int .u8 113, .int .i64 x] w fun e w' => e = .returned (.agg (msA (setN m 11 x))) ∧ Below w.heap.size w w' := by
  have g0 : ((w.alloc (.cells (msA m) 27)).alloc (.cells zeroMs 27)).heap[w.heap.size]? = some (.cells (msA m) 27 (0, 0)) := heap_past _ _ _ _ (heap_new _ _ _ rfl)
  have hc : ((w.alloc (.cells (msA m) 27)).alloc (.cells zeroMs 27)).cell? ⟨w.heap.size, 12, none⟩ = some (.int .i64 (numM m 11)) := by
    rw [cell_of_row _ _ _ _ _ _ g0]
    exact ms_num hm 11 (by decide)
  have hf : ((w.alloc (.cells (msA m) 27)).alloc (.cells zeroMs 27)).frozen? ⟨w.heap.size, 12, none⟩ = false := frozen_of_row _ _ _ _ _ g0
  have hm2 := setN_ok hm 11 x
  have hms := msA_size hm2
  have es := ms_setN hm 11 (by decide) x
  clear g0
  go_enter Try.func35, Try.ntmps35
  go_wp2_with (first
    | ((with_reducible refine wl_gl16 27 _ rfl ?_); refine of_stopW ?_))
  unfold StopW
  try rw [es]
  clear hc hf es
  have g1 : ((w.alloc (.cells (msA (setN m 11 x)) 27)).alloc (.cells zeroMs 27)).heap[w.heap.size]? = some (.cells (msA (setN m 11 x)) 27 (0, 0)) := heap_past _ _ _ _ (heap_new _ _ _ rfl)
  have z1 : ((w.alloc (.cells (msA (setN m 11 x)) 27)).alloc (.cells zeroMs 27)).heap[w.heap.size + 1]? = some (.cells zeroMs 27 (0, 0)) := heap_new _ _ _ (by simp)
  have B1 : Below w.heap.size w ((w.alloc (.cells (msA (setN m 11 x)) 27)).alloc (.cells zeroMs 27)) := ((Below.refl _ _).alloc (Nat.le_refl _) _).alloc (by simp) _
  go_wp2_with (first
    | ((with_reducible refine wl_gl16 27 _ rfl ?_); refine wl_loadA MsOk rfl _ rfl w.heap.size 0 rfl _ _ _ (msA (setN m 11 x)) hms g1 (own_cells _ _) ?_)
    | ((with_reducible refine wl_gs16 27 _ _ rfl ?_); refine wl_storeA MsOk rfl _ _ rfl (w.heap.size + 1) (msA (setN m 11 x)) (ms_fits hm2) rfl rfl _ z1 rfl _ rfl ?_))
  refine retA14 MsOk (p := 6) rfl rfl (w.heap.size + 1) rfl (msA (setN m 11 x)) hms (setRow_heap _ _ _ _ _ _ z1) ⟨rfl, below_setRow B1 (Nat.le_succ _) _⟩
set_option maxHeartbeats 4000000 in
theorem rget12 (m : MsgM) (hm : okM m) (w : World) : Calls Try.prog 21 #[.agg (msA m), .int .u8 108] w fun e w' => e = .returned (.int .i64 (numM m 12)) ∧ Below w.heap.size w w' := by
  have hc : (w.alloc (.cells (msA m) 27)).cell? ⟨w.heap.size, 13, none⟩ = some (.int .i64 (numM m 12)) := by
    rw [cell_of_row _ _ _ _ _ _ (heap_new _ _ _ rfl)]
    exact ms_num hm 12 (by decide)
  have HB : Hid (Below w.heap.size w (w.alloc (.cells (msA m) 27))) := (Below.refl _ _).alloc (Nat.le_refl _) _
  go_enter Try.func21, Try.ntmps21
  go_wp2_with fail
  go_ret
  exact ⟨rfl, HB.out⟩
set_option maxHeartbeats 4000000 in
theorem rset12 (m : MsgM) (hm : okM m) (x : Int) (w : World) : Calls Try.prog 35 #[.agg (msA m), .int .u8 108, .int .i64 x] w fun e w' => e = .returned (.agg (msA (setN m 12 x))) ∧ Below w.heap.size w w' := by
  have g0 : ((w.alloc (.cells (msA m) 27)).alloc (.cells zeroMs 27)).heap[w.heap.size]? = some (.cells (msA m) 27 (0, 0)) := heap_past _ _ _ _ (heap_new _ _ _ rfl)
  have hc : ((w.alloc (.cells (msA m) 27)).alloc (.cells zeroMs 27)).cell? ⟨w.heap.size, 13, none⟩ = some (.int .i64 (numM m 12)) := by
    rw [cell_of_row _ _ _ _ _ _ g0]
    exact ms_num hm 12 (by decide)
  have hf : ((w.alloc (.cells (msA m) 27)).alloc (.cells zeroMs 27)).frozen? ⟨w.heap.size, 13, none⟩ = false := frozen_of_row _ _ _ _ _ g0
  have hm2 := setN_ok hm 12 x
  have hms := msA_size hm2
  have es := ms_setN hm 12 (by decide) x
  clear g0
  go_enter Try.func35, Try.ntmps35
  go_wp2_with (first
    | ((with_reducible refine wl_gl16 27 _ rfl ?_); refine of_stopW ?_))
  unfold StopW
  try rw [es]
  clear hc hf es
  have g1 : ((w.alloc (.cells (msA (setN m 12 x)) 27)).alloc (.cells zeroMs 27)).heap[w.heap.size]? = some (.cells (msA (setN m 12 x)) 27 (0, 0)) := heap_past _ _ _ _ (heap_new _ _ _ rfl)
  have z1 : ((w.alloc (.cells (msA (setN m 12 x)) 27)).alloc (.cells zeroMs 27)).heap[w.heap.size + 1]? = some (.cells zeroMs 27 (0, 0)) := heap_new _ _ _ (by simp)
  have B1 : Below w.heap.size w ((w.alloc (.cells (msA (setN m 12 x)) 27)).alloc (.cells zeroMs 27)) := ((Below.refl _ _).alloc (Nat.le_refl _) _).alloc (by simp) _
  go_wp2_with (first
    | ((with_reducible refine wl_gl16 27 _ rfl ?_); refine wl_loadA MsOk rfl _ rfl w.heap.size 0 rfl _ _ _ (msA (setN m 12 x)) hms g1 (own_cells _ _) ?_)
    | ((with_reducible refine wl_gs16 27 _ _ rfl ?_); refine wl_storeA MsOk rfl _ _ rfl (w.heap.size + 1) (msA (setN m 12 x)) (ms_fits hm2) rfl rfl _ z1 rfl _ rfl ?_))
  refine retA14 MsOk (p := 6) rfl rfl (w.heap.size + 1) rfl (msA (setN m 12 x)) hms (setRow_heap _ _ _ _ _ _ z1) ⟨rfl, below_setRow B1 (Nat.le_succ _) _⟩
theorem r16get_any (m : MsgM) (hm : okM m) (j : Nat) (hj : j < 13) (w : World) : Calls Try.prog 21 #[.agg (msA m), .int .u8 ((letN j : Nat) : Int)] w fun e w' => e = .returned (.int .i64 (numM m j)) ∧ Below w.heap.size w w' := by
  match j, hj with
  | 0, _ => exact rget0 m hm w
  | 1, _ => exact rget1 m hm w
  | 2, _ => exact rget2 m hm w
  | 3, _ => exact rget3 m hm w
  | 4, _ => exact rget4 m hm w
  | 5, _ => exact rget5 m hm w
  | 6, _ => exact rget6 m hm w
  | 7, _ => exact rget7 m hm w
  | 8, _ => exact rget8 m hm w
  | 9, _ => exact rget9 m hm w
  | 10, _ => exact rget10 m hm w
  | 11, _ => exact rget11 m hm w
  | 12, _ => exact rget12 m hm w
  | j + 13, hj => omega
theorem r16set_any (m : MsgM) (hm : okM m) (j : Nat) (hj : j < 13) (x : Int) (w : World) : Calls Try.prog 35 #[.agg (msA m), .int .u8 ((letN j : Nat) : Int), .int .i64 x] w fun e w' => e = .returned (.agg (msA (setN m j x))) ∧ Below w.heap.size w w' := by
  match j, hj with
  | 0, _ => exact rset0 m hm x w
  | 1, _ => exact rset1 m hm x w
  | 2, _ => exact rset2 m hm x w
  | 3, _ => exact rset3 m hm x w
  | 4, _ => exact rset4 m hm x w
  | 5, _ => exact rset5 m hm x w
  | 6, _ => exact rset6 m hm x w
  | 7, _ => exact rset7 m hm x w
  | 8, _ => exact rset8 m hm x w
  | 9, _ => exact rset9 m hm x w
  | 10, _ => exact rset10 m hm x w
  | 11, _ => exact rset11 m hm x w
  | 12, _ => exact rset12 m hm x w
  | j + 13, hj => omega
end Go.Proofs.Ytjmbdoiibchokaa
