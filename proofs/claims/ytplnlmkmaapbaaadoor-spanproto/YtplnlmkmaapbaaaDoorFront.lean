import Derived.Test.YtplnlmkmaapbaaaDoorHField
import Derived.Test.YtplnlmkmaapbaaaDoorOrders
import Derived.Test.YtplnlmkmaapbaaaDoorHeadAny
import Derived.Test.YtplnlmkmaapbaaaDoorOf
namespace Go.Proofs.YtplnlmkmaapbaaaDoor
open Go Go.RowKit

/-- The mask of so many bits from a place on. -/
def frM (F k : Nat) : List Int := mk fun i => decide (F ≤ i ∧ i < F + k)
/-- A header's so many bits from a place on. -/
def frV (L : List Int) (F k : Nat) : List Int := mk fun i => decide (F ≤ i ∧ i < F + k) && bt L i
theorem frM_byt (F k : Nat) : Byt (frM F k) := mk_byt _
theorem frV_byt (L : List Int) (F k : Nat) : Byt (frV L F k) := mk_byt _
theorem frM_bt (F k i : Nat) (hi : i < 104) : bt (frM F k) i = decide (F ≤ i ∧ i < F + k) := mk_bt _ i hi
theorem frV_bt (L : List Int) (F k i : Nat) (hi : i < 104) : bt (frV L F k) i = (decide (F ≤ i ∧ i < F + k) && bt L i) := mk_bt _ i hi
theorem dec_0 (F i : Nat) : decide (F ≤ i ∧ i < F + 0) = false := decide_eq_false (by omega)
theorem frM_0 (F : Nat) : frM F 0 = Z := bt_ext _ _ (frM_byt F 0) Z_byt fun i hi => by
  rw [frM_bt F 0 i hi, Z_bt i hi, dec_0]
theorem frV_0 (L : List Int) (F : Nat) : frV L F 0 = Z := bt_ext _ _ (frV_byt L F 0) Z_byt fun i hi => by
  rw [frV_bt L F 0 i hi, Z_bt i hi, dec_0]; rfl
theorem dec_step (F k i : Nat) : decide (F ≤ i ∧ i < F + (k + 1)) = if i = F + k then true else decide (F ≤ i ∧ i < F + k) := by
  by_cases e : i = F + k
  · rw [if_pos e]; simp; omega
  · rw [if_neg e, Bool.eq_iff_iff, decide_eq_true_eq, decide_eq_true_eq]; omega
theorem setM_step (F k : Nat) : setb (frM F k) (F + k) true = frM F (k + 1) := bt_ext _ _ (setb_byt _ _ _) (frM_byt _ _) fun i hi => by
  rw [setb_bt _ _ _ i hi, frM_bt _ _ i hi, frM_bt _ _ i hi, dec_step]
theorem setV_step (L : List Int) (F k : Nat) : setb (frV L F k) (F + k) (bt L (F + k)) = frV L F (k + 1) := bt_ext _ _ (setb_byt _ _ _) (frV_byt _ _ _) fun i hi => by
  rw [setb_bt _ _ _ i hi, frV_bt _ _ _ i hi, frV_bt _ _ _ i hi, dec_step]
  by_cases e : i = F + k
  · rw [if_pos e, if_pos e, e]; rfl
  · rw [if_neg e, if_neg e]
theorem can_fr (L : List Int) (F k : Nat) : can (frV L F k) (frM F k) = frV L F k := bt_ext _ _ (can_byt _ _) (frV_byt _ _ _) fun i hi => by
  rw [can_bt _ _ i hi, frV_bt _ _ _ i hi, frM_bt _ _ i hi]
  cases decide (F ≤ i ∧ i < F + k) <;> cases bt L i <;> rfl
theorem fixV_step (L : List Int) (F k : Nat) : fixV (frV L F k) (frM F k) (F + k) (bt L (F + k)) = frV L F (k + 1) := by
  unfold fixV; rw [can_fr, setV_step]
theorem fixM_step (F k : Nat) : fixM (frM F k) (F + k) = frM F (k + 1) := setM_step F k

theorem any_fix6 {P : Program} {Q : Exit → Act → World → Prop} {a : Act} {w w' : World} {p0 p1 p2 p3 p4 p5 o6 o7 o8 o9 : Oper} {v v0 v1 : Value}
    (r7 : Region.ready .any (p0 :: p1 :: p2 :: p3 :: p4 :: p5 :: o6 :: o7 :: o8 :: o9 :: []).toArray #[true, true, true, true, true, true, false, false, false, false] = [6])
    (r0 : Region.ready .any (p0 :: p1 :: p2 :: p3 :: p4 :: p5 :: o6 :: o7 :: o8 :: o9 :: []).toArray #[true, true, true, true, true, true, true, false, false, false] = [7, 8])
    (r1 : Region.ready .any (p0 :: p1 :: p2 :: p3 :: p4 :: p5 :: o6 :: o7 :: o8 :: o9 :: []).toArray #[true, true, true, true, true, true, true, true, false, false] = [8, 9])
    (r2 : Region.ready .any (p0 :: p1 :: p2 :: p3 :: p4 :: p5 :: o6 :: o7 :: o8 :: o9 :: []).toArray #[true, true, true, true, true, true, true, false, true, false] = [7])
    (r3 : Region.ready .any (p0 :: p1 :: p2 :: p3 :: p4 :: p5 :: o6 :: o7 :: o8 :: o9 :: []).toArray #[true, true, true, true, true, true, true, true, true, false] = [9])
    (r4 : Region.ready .any (p0 :: p1 :: p2 :: p3 :: p4 :: p5 :: o6 :: o7 :: o8 :: o9 :: []).toArray #[true, true, true, true, true, true, true, true, false, true] = [8])
    (r5 : Region.ready .any (p0 :: p1 :: p2 :: p3 :: p4 :: p5 :: o6 :: o7 :: o8 :: o9 :: []).toArray #[true, true, true, true, true, true, true, true, true, true] = [])
    (q7 : o6.guard = none) (q0 : o7.guard = none) (q1 : o8.guard = none) (q2 : o9.guard = none) (q3 : o9.dst = none)
    (e7 : (execOp a.eval o6).run P w = .ok (.value v) w)
    (e0 : (execOp (a.put o6.dst v).eval o7).run P w = .ok (.value v0) w) (e0' : (execOp ((a.put o6.dst v).put o8.dst v1).eval o7).run P w = .ok (.value v0) w)
    (e1 : (execOp (a.put o6.dst v).eval o8).run P w = .ok (.value v1) w) (e1a : (execOp ((a.put o6.dst v).put o7.dst v0).eval o8).run P w = .ok (.value v1) w) (e1b : (execOp ((a.put o6.dst v).put o7.dst v0).eval o8).run P w' = .ok (.value v1) w')
    (e2 : (execOp ((a.put o6.dst v).put o7.dst v0).eval o9).run P w = .ok .skip w') (e2a : (execOp (((a.put o6.dst v).put o7.dst v0).put o8.dst v1).eval o9).run P w = .ok .skip w')
    (comm : ((a.put o6.dst v).put o8.dst v1).put o7.dst v0 = ((a.put o6.dst v).put o7.dst v0).put o8.dst v1)
    (h : Q .normal (((a.put o6.dst v).put o7.dst v0).put o8.dst v1) w') :
    wpAny P .any (p0 :: p1 :: p2 :: p3 :: p4 :: p5 :: o6 :: o7 :: o8 :: o9 :: []).toArray Q 4 #[true, true, true, true, true, true, false, false, false, false] a w := by
  refine any_step [6] r7 (by simp) fun i hi => ?_
  simp only [List.mem_cons, List.not_mem_nil, or_false] at hi
  subst hi
  refine wpOp_value (o := o6) rfl q7 e7 ?_
  exact any_two (i0 := 7) (i1 := 8) (i2 := 9) (o0 := o7) (o1 := o8) (o2 := o9) _ rfl rfl rfl r0 r1 r2 r3 r4 r5 (by decide) (by decide) q0 q1 q2 q3 e0 e0' e1 e1a e1b e2 e2a comm h

/-- The header of a field alone. -/
def fh (f v : Int) : List Int := putN Z13 (atOf f) (sizeOfF f) v (sizeOfF f)
theorem Z13_byt : Byt Z13 := byt_of _ rfl (by decide)
theorem fh_byt (f v : Int) (h0 : 0 ≤ f) (h1 : f < 5) : Byt (fh f v) := putN_byt Z13 Z13_byt _ _ _ (place_facts f h0 h1).2.2.1

set_option maxHeartbeats 2000000 in
theorem begins_any (f v : Int) (k : Nat) (w : World) (h0 : 0 ≤ f) (h1 : f < 5) (hv0 : 0 ≤ v) (hv1 : v < 4294967296) (hvw : v < 2 ^ (8 * sizeOfF f)) (hk : k ≤ 8 * sizeOfF f) (hP : Places w) :
    Calls Tryd.prog 20 #[.int .i64 f, .int .u32 v, .int .i64 (k : Int)] w fun e w' => e = .returned (.agg (cv (frV (fh f v) (8 * atOf f) k) (frM (8 * atOf f) k))) ∧ Below w.heap.size w w' := by
  have P1 : Hid (∀ W, Places W → Calls Tryd.prog 31 #[.int .i64 f] W fun e w' => e = .returned (.tuple #[.int .i64 (8 * (atOf f : Int)), .int .i64 (8 * (sizeOfF f : Int)), .int .i64 0]) ∧ Below W.heap.size W w') := place_at f h0 h1
  have P2 : Hid (∀ W, Places W → Calls Tryd.prog 32 #[.agg zero26, .int .i64 f, .int .u32 v] W fun e w' => e = .returned (.tuple #[.agg (hv (fh f v)), .int .i64 0]) ∧ Below W.heap.size W w') := fun W hW => with_ok Z13 Z13_byt f v W h0 h1 hv0 hv1 hW hvw
  have hpf := place_facts f h0 h1
  have hLb := fh_byt f v h0 h1
  obtain ⟨F, hF⟩ : ∃ F, F = 8 * atOf f := ⟨_, rfl⟩
  obtain ⟨Wd, hWd⟩ : ∃ Wd, Wd = 8 * sizeOfF f := ⟨_, rfl⟩
  obtain ⟨L, hL⟩ : ∃ L, L = fh f v := ⟨_, rfl⟩
  have eF : (8 * (atOf f : Int)) = (F : Int) := by rw [hF]; omega
  have eW : (8 * (sizeOfF f : Int)) = (Wd : Int) := by rw [hWd]; omega
  have hFk : F + k ≤ 104 := by omega
  rw [eF, eW] at P1
  rw [← hL] at P2 hLb
  rw [← hF, ← hL]
  have HLB : Hid (Byt L) := hLb
  have hLl := hLb.1
  have hpos := hP.pos
  clear hpf hF hWd hL eF eW hk hv0 hv1 hvw h0 h1 hLb
  have B0 : Below w.heap.size w (w.alloc (.cells zeroC 37)) := (Below.refl _ _).alloc (Nat.le_refl _) _
  have o0 := heap_new w (.cells zeroC 37) _ rfl
  go_enter Tryd.func20, Tryd.ntmps20
  go_wp2_with fail
  refine (P1.out _ (hP.later hpos B0)).mono ?_
  rintro e w1 ⟨rfl, hb1⟩
  have B1 := B0.trans (hb1.mono B0.size)
  have o1 : w1.heap[w.heap.size]? = some (.cells zeroC 37 (0, 0)) := by rw [hb1.block _ (by simp)]; exact o0
  clear hb1 o0 B0
  go_wp2_with fail
  refine (P2.out _ (hP.later hpos B1)).mono ?_
  rintro e w2 ⟨rfl, hb2⟩
  have B2 := B1.trans (hb2.mono B1.size)
  have o2 : w2.heap[w.heap.size]? = some (.cells zeroC 37 (0, 0)) := by rw [hb2.block _ (Array.getElem?_eq_some_iff.1 o1).1]; exact o1
  have o3 := heap_past w2 (.cells (hv L) 23) _ _ o2
  have l3 := heap_new w2 (.cells (hv L) 23) _ rfl
  have B3 := B2.alloc B2.size (.cells (hv L) 23)
  have hz2 := B2.size
  clear hb2 o1 B1 o2
  go_wp2_with (first
    | (refine wl_store26 rfl _ _ rfl w2.heap.size L rfl rfl _ (heap_new _ _ _ rfl) rfl hLl _ (setRow_new _ _ _ _ _ rfl) ?_))
  refine (all_any _).mono ?_
  rintro e w3 ⟨rfl, hb3⟩
  have B4 := B3.trans (hb3.mono B3.size)
  have o4 : w3.heap[w.heap.size]? = some (.cells zeroC 37 (0, 0)) := by rw [hb3.block _ (Array.getElem?_eq_some_iff.1 o3).1]; exact o3
  have l4 : w3.heap[w2.heap.size]? = some (.cells (hv L) 23 (0, 0)) := by rw [hb3.block _ (Array.getElem?_eq_some_iff.1 l3).1]; exact l3
  have o5 := heap_past w3 (.cells (cv Z Z) 37) _ _ o4
  have l5 := heap_past w3 (.cells (cv Z Z) 37) _ _ l4
  have c5 := heap_new w3 (.cells (cv Z Z) 37) _ rfl
  have B5 := B4.alloc B4.size (.cells (cv Z Z) 37)
  have hz3 : w2.heap.size < w3.heap.size := (Array.getElem?_eq_some_iff.1 l4).1
  have hZl := Z_byt.1
  clear hb3 o3 l3 B3 o4 l4 B4 B2 hP P1 P2
  go_wp2_with (first
    | (refine wl_storeC rfl _ _ rfl w3.heap.size Z Z rfl rfl _ (heap_new _ _ _ rfl) rfl hZl hZl _ (setRow_new _ _ _ _ _ rfl) ?_))
  go_loopw [13] (fun i wr => ∃ j : Nat, j ≤ k ∧ i = .int .i64 ((F : Int) + (j : Int)) ∧ wr.heap[w.heap.size]? = some (.cells zeroC 37 (0, 0)) ∧ wr.heap[w2.heap.size]? = some (.cells (hv L) 23 (0, 0)) ∧ wr.heap[w3.heap.size]? = some (.cells (cv (frV L F j) (frM F j)) 37 (0, 0)) ∧ Below w.heap.size w wr) (fun i _ => F + k - (intOf i).toNat)
  case atStart => exact ⟨0, Nat.zero_le _, by simp, o5, l5, by rw [frV_0, frM_0]; exact c5, B5⟩
  case round =>
    clear o5 l5 c5 B5
    obtain ⟨j, hj, rfl, o5, l5, c5, B5⟩ := hrel
    have hVl := (frV_byt L F j).1
    have hMl := (frM_byt F j).1
    by_cases hlt : j < k
    · have CB : Hid (∀ W, Calls Tryd.prog 35 #[.agg (hv L), .int .i64 ((F : Int) + (j : Int))] W fun e w' => e = .returned (.bool (bt L (F + j))) ∧ Below W.heap.size W w') := fun W => hbit_nat L HLB.out (F + j) (by omega) W
      have CF : Hid (∀ W, Calls Tryd.prog 34 #[.agg (cv (frV L F j) (frM F j)), .int .i64 ((F : Int) + (j : Int)), .bool (bt L (F + j))] W fun e w' => e = .returned (.tuple #[.agg (cv (frV L F (j + 1)) (frM F (j + 1))), .int .i64 0]) ∧ Below W.heap.size W w') := fun W => by
        have := fix_in (frV L F j) (frM F j) (frV_byt _ _ _) (frM_byt _ _) (F + j) (bt L (F + j)) (by omega) W
        rw [fixV_step, fixM_step] at this
        exact this
      have hVl2 := (frV_byt L F (j + 1)).1
      have hMl2 := (frM_byt F (j + 1)).1
      obtain ⟨V, hV⟩ : ∃ V, V = frV L F j := ⟨_, rfl⟩
      obtain ⟨M, hM⟩ : ∃ M, M = frM F j := ⟨_, rfl⟩
      obtain ⟨V2, hV2⟩ : ∃ V2, V2 = frV L F (j + 1) := ⟨_, rfl⟩
      obtain ⟨M2, hM2⟩ : ∃ M2, M2 = frM F (j + 1) := ⟨_, rfl⟩
      obtain ⟨b, hb⟩ : ∃ b, b = bt L (F + j) := ⟨_, rfl⟩
      rw [← hb] at CB CF
      rw [← hV, ← hM, ← hV2, ← hM2] at CF
      rw [← hV] at hVl c5
      rw [← hM] at hMl c5
      rw [← hV2] at hVl2
      rw [← hM2] at hMl2
      have HV2 : Hid (V2 = frV L F (j + 1)) := hV2
      have HM2 : Hid (M2 = frM F (j + 1)) := hM2
      clear hV hM hV2 hM2 hb
      go_wp2_with fail
      have ne1 := Later.ne wr
      refine wp_region_head 6 4 #[true, true, true, true, true, true, false, false, false, false] (by kernel_rfl) (by kernel_rfl) (by kernel_rfl) (by kernel_rfl) (by kernel_rfl) (by kernel_rfl) rfl ?_
      simp only [List.take_succ_cons, List.take_zero]
      refine qlC rfl _ rfl w3.heap.size rfl V M c5 hVl hMl ?_
      simp only [Act.put, List.setIfInBounds_toArray, List.set_cons_succ, List.set_cons_zero]
      go_big_quiet_step (fail)
      refine qlH rfl _ rfl w2.heap.size rfl L l5 hLl ?_
      simp only [Act.put, List.setIfInBounds_toArray, List.set_cons_succ, List.set_cons_zero]
      go_big_quiet_step (fail)
      go_big_quiet_want; go_big_quiet_op
      refine ⟨_, fun u => Calls.later_of (CB.out u.world), ?_⟩
      go_big_quiet_on
      go_big_quiet_want; go_big_quiet_op
      refine ⟨_, fun u => Calls.later_of (CF.out u.world), ?_⟩
      go_big_quiet_on
      refine wpQuiet_nil ?_
      rintro w' ⟨u, rfl⟩
      have k0 := later_block o5 _ ⟨u, rfl⟩
      have k1 := later_block l5 _ ⟨u, rfl⟩
      have k2 := later_block c5 _ ⟨u, rfl⟩
      have hb2 := B5.trans (u.below.mono B5.size)
      clear o5 l5 c5 B5 ne1 CB CF
      refine any_fix6 (v := .tuple #[.agg (cv V2 M2), .int .i64 0]) (v0 := .agg (cv V2 M2)) (v1 := .int .i64 0) (w' := u.world.setRow w3.heap.size (cv V2 M2)) (by kernel_rfl) (by kernel_rfl) (by kernel_rfl) (by kernel_rfl) (by kernel_rfl) (by kernel_rfl) (by kernel_rfl) rfl rfl rfl rfl rfl (run_move _ _ _ _ _ _ rfl rfl)
        (run_extract _ _ _ _ _ _ _ _ rfl rfl rfl) (run_extract _ _ _ _ _ _ _ _ rfl rfl rfl) (run_extract _ _ _ _ _ _ _ _ rfl rfl rfl) (run_extract _ _ _ _ _ _ _ _ rfl rfl rfl) (run_extract _ _ _ _ _ _ _ _ rfl rfl rfl)
        (run_storeC _ _ _ _ _ rfl w3.heap.size _ _ rfl rfl _ k2 (cv_size _ _ hVl hMl) hVl2 hMl2) (run_storeC _ _ _ _ _ rfl w3.heap.size _ _ rfl rfl _ k2 (cv_size _ _ hVl hMl) hVl2 hMl2) rfl ?_
      simp only [Act.put, List.setIfInBounds_toArray, List.set_cons_succ, List.set_cons_zero]
      go_wp2_with fail
      go_roundw
      case rel => exact ⟨j + 1, by omega, by go_num, (setRow_other _ _ _ _ (by omega)).trans k0, (setRow_other _ _ _ _ (by omega)).trans k1, by rw [← HV2.out, ← HM2.out]; exact setRow_heap _ _ _ _ _ _ k2, below_setRow hb2 (by omega) _⟩
      case measure => simp [intOf]; omega
    · obtain rfl : j = k := by omega
      go_wp2_with (first
        | (refine wl_loadC rfl _ rfl w3.heap.size rfl (frV L F j) (frM F j) c5 hVl hMl ?_)
        | (refine wl_storeC rfl _ _ rfl w.heap.size (frV L F j) (frM F j) rfl rfl _ o5 rfl hVl hMl _ rfl ?_))
      refine retC (p := 6) rfl rfl w.heap.size rfl (frV L F j) (frM F j) hVl hMl (setRow_heap _ _ _ _ _ _ o5) ⟨rfl, ?_⟩
      exact below_setRow B5 (Nat.le_refl _) _
end Go.Proofs.YtplnlmkmaapbaaaDoor
