import Derived.Test.YthddlchkbnmcaaaGreatDoorJ28
import Derived.Test.YthddlchkbnmcaaaGreatDoorJ9
import Derived.Test.YthddlchkbnmcaaaGreatDoorJ22
import Derived.Test.YthddlchkbnmcaaaGreatDoorJ16
import Derived.Test.YthddlchkbnmcaaaGreatDoorJ13
namespace Go.Proofs.YthddlchkbnmcaaaGreatDoor
open Go Go.RowKit
set_option maxRecDepth 20000

/-- The mask of so many bits from a place on. -/
def frM (F k : Nat) : List Int := mk fun i => decide (F ≤ i ∧ i < F + k)
/-- A header's so many bits from a place on. -/
def frV (L : List Int) (F k : Nat) : List Int := mk fun i => decide (F ≤ i ∧ i < F + k) && bt L i
theorem frM_byt (F k : Nat) : Byt (frM F k) := mk_byt _
theorem frV_byt (L : List Int) (F k : Nat) : Byt (frV L F k) := mk_byt _
theorem frM_bt (F k i : Nat) (hi : i < 104) : bt (frM F k) i = decide (F ≤ i ∧ i < F + k) := mk_bt _ i hi
theorem frV_bt (L : List Int) (F k i : Nat) (hi : i < 104) : bt (frV L F k) i = (decide (F ≤ i ∧ i < F + k) && bt L i) := mk_bt _ i hi
theorem dec_0 (F i : Nat) : decide (F ≤ i ∧ i < F + 0) = false := decide_eq_false (by omega)
theorem frM_0 (F : Nat) : frM F 0 = Z := bt_ext _ _ (frM_byt F 0) Z_byt fun i hi => by
  rw [frM_bt F 0 i hi, Z_bt i hi, dec_0]
theorem frV_0 (L : List Int) (F : Nat) : frV L F 0 = Z := bt_ext _ _ (frV_byt L F 0) Z_byt fun i hi => by
  rw [frV_bt L F 0 i hi, Z_bt i hi, dec_0]; rfl
theorem dec_step (F k i : Nat) : decide (F ≤ i ∧ i < F + (k + 1)) = if i = F + k then true else decide (F ≤ i ∧ i < F + k) := by
  by_cases e : i = F + k
  · rw [if_pos e]; simp; omega
  · rw [if_neg e, Bool.eq_iff_iff, decide_eq_true_eq, decide_eq_true_eq]; omega
theorem setM_step (F k : Nat) : setb (frM F k) (F + k) true = frM F (k + 1) := bt_ext _ _ (setb_byt _ _ _) (frM_byt _ _) fun i hi => by
  rw [setb_bt _ _ _ i hi, frM_bt _ _ i hi, frM_bt _ _ i hi, dec_step]
theorem setV_step (L : List Int) (F k : Nat) : setb (frV L F k) (F + k) (bt L (F + k)) = frV L F (k + 1) := bt_ext _ _ (setb_byt _ _ _) (frV_byt _ _ _) fun i hi => by
  rw [setb_bt _ _ _ i hi, frV_bt _ _ _ i hi, frV_bt _ _ _ i hi, dec_step]
  by_cases e : i = F + k
  · rw [if_pos e, if_pos e, e]; rfl
  · rw [if_neg e, if_neg e]
theorem can_fr (L : List Int) (F k : Nat) : can (frV L F k) (frM F k) = frV L F k := bt_ext _ _ (can_byt _ _) (frV_byt _ _ _) fun i hi => by
  rw [can_bt _ _ i hi, frV_bt _ _ _ i hi, frM_bt _ _ i hi]
  cases decide (F ≤ i ∧ i < F + k) <;> cases bt L i <;> rfl
theorem fixV_step (L : List Int) (F k : Nat) : fixV (frV L F k) (frM F k) (F + k) (bt L (F + k)) = frV L F (k + 1) := by
  unfold fixV; rw [can_fr, setV_step]
theorem fixM_step (F k : Nat) : fixM (frM F k) (F + k) = frM F (k + 1) := setM_step F k

theorem any_fix6 {P : Program} {Q : Exit → Act → World → Prop} {a : Act} {w w' : World} {p0 p1 p2 p3 p4 p5 o6 o7 o8 o9 : Oper} {v v0 v1 : Value}
    (r7 : Region.ready .any (p0 :: p1 :: p2 :: p3 :: p4 :: p5 :: o6 :: o7 :: o8 :: o9 :: []).toArray #[true, true, true, true, true, true, false, false, false, false] = [6])
    (r0 : Region.ready .any (p0 :: p1 :: p2 :: p3 :: p4 :: p5 :: o6 :: o7 :: o8 :: o9 :: []).toArray #[true, true, true, true, true, true, true, false, false, false] = [7, 8])
    (r1 : Region.ready .any (p0 :: p1 :: p2 :: p3 :: p4 :: p5 :: o6 :: o7 :: o8 :: o9 :: []).toArray #[true, true, true, true, true, true, true, true, false, false] = [8, 9])
    (r2 : Region.ready .any (p0 :: p1 :: p2 :: p3 :: p4 :: p5 :: o6 :: o7 :: o8 :: o9 :: []).toArray #[true, true, true, true, true, true, true, false, true, false] = [7])
    (r3 : Region.ready .any (p0 :: p1 :: p2 :: p3 :: p4 :: p5 :: o6 :: o7 :: o8 :: o9 :: []).toArray #[true, true, true, true, true, true, true, true, true, false] = [9])
    (r4 : Region.ready .any (p0 :: p1 :: p2 :: p3 :: p4 :: p5 :: o6 :: o7 :: o8 :: o9 :: []).toArray #[true, true, true, true, true, true, true, true, false, true] = [8])
    (r5 : Region.ready .any (p0 :: p1 :: p2 :: p3 :: p4 :: p5 :: o6 :: o7 :: o8 :: o9 :: []).toArray #[true, true, true, true, true, true, true, true, true, true] = [])
    (q7 : o6.guard = none) (q0 : o7.guard = none) (q1 : o8.guard = none) (q2 : o9.guard = none) (q3 : o9.dst = none)
    (e7 : (execOp a.eval o6).run P w = .ok (.value v) w)
    (e0 : (execOp (a.put o6.dst v).eval o7).run P w = .ok (.value v0) w) (e0' : (execOp ((a.put o6.dst v).put o8.dst v1).eval o7).run P w = .ok (.value v0) w)
    (e1 : (execOp (a.put o6.dst v).eval o8).run P w = .ok (.value v1) w) (e1a : (execOp ((a.put o6.dst v).put o7.dst v0).eval o8).run P w = .ok (.value v1) w) (e1b : (execOp ((a.put o6.dst v).put o7.dst v0).eval o8).run P w' = .ok (.value v1) w')
    (e2 : (execOp ((a.put o6.dst v).put o7.dst v0).eval o9).run P w = .ok .skip w') (e2a : (execOp (((a.put o6.dst v).put o7.dst v0).put o8.dst v1).eval o9).run P w = .ok .skip w')
    (comm : ((a.put o6.dst v).put o8.dst v1).put o7.dst v0 = ((a.put o6.dst v).put o7.dst v0).put o8.dst v1)
    (h : Q .normal (((a.put o6.dst v).put o7.dst v0).put o8.dst v1) w') :
    wpAny P .any (p0 :: p1 :: p2 :: p3 :: p4 :: p5 :: o6 :: o7 :: o8 :: o9 :: []).toArray Q 4 #[true, true, true, true, true, true, false, false, false, false] a w := by
  refine any_step [6] r7 (by simp) fun i hi => ?_
  simp only [List.mem_cons, List.not_mem_nil, or_false] at hi
  subst hi
  refine wpOp_value (o := o6) rfl q7 e7 ?_
  exact any_two (i0 := 7) (i1 := 8) (i2 := 9) (o0 := o7) (o1 := o8) (o2 := o9) _ rfl rfl rfl r0 r1 r2 r3 r4 r5 (by decide) (by decide) q0 q1 q2 q3 e0 e0' e1 e1a e1b e2 e2a comm h

/-- The header of a field alone. -/
def fh (f v : Int) : List Int := putN Z13 (atOf f) (sizeOfF f) v (sizeOfF f)
theorem Z13_byt : Byt Z13 := byt_of _ rfl (by decide)
theorem fh_byt (f v : Int) (h0 : 0 ≤ f) (h1 : f < 5) : Byt (fh f v) := putN_byt Z13 Z13_byt _ _ _ (place_facts f h0 h1).2.2.1

set_option maxHeartbeats 2000000 in
theorem begins_any (f v : Int) (k : Nat) (w : World) (h0 : 0 ≤ f) (h1 : f < 5) (hv0 : 0 ≤ v) (hv1 : v < 4294967296) (hvw : v < 2 ^ (8 * sizeOfF f)) (hk : k ≤ 8 * sizeOfF f) (hP : Places w) :
    Calls Tryz.prog 53 #[.int .i64 f, .int .u32 v, .int .i64 (k : Int)] w fun e w' => e = .returned (.agg (cv (frV (fh f v) (8 * atOf f) k) (frM (8 * atOf f) k))) ∧ Below w.heap.size w w' := by
  have P1 : Hid (∀ W, Places W → Calls Tryz.prog 82 #[.int .i64 f] W fun e w' => e = .returned (.tuple #[.int .i64 (8 * (atOf f : Int)), .int .i64 (8 * (sizeOfF f : Int)), .int .i64 0]) ∧ Below W.heap.size W w') := place_at f h0 h1
  have P2 : Hid (∀ W, Places W → Calls Tryz.prog 83 #[.agg zero26, .int .i64 f, .int .u32 v] W fun e w' => e = .returned (.tuple #[.agg (hv (fh f v)), .int .i64 0]) ∧ Below W.heap.size W w') := fun W hW => with_ok Z13 Z13_byt f v W h0 h1 hv0 hv1 hW hvw
  have hpf := place_facts f h0 h1
  have hLb := fh_byt f v h0 h1
  obtain ⟨F, hF⟩ : ∃ F, F = 8 * atOf f := ⟨_, rfl⟩
  obtain ⟨Wd, hWd⟩ : ∃ Wd, Wd = 8 * sizeOfF f := ⟨_, rfl⟩
  obtain ⟨L, hL⟩ : ∃ L, L = fh f v := ⟨_, rfl⟩
  have eF : (8 * (atOf f : Int)) = (F : Int) := by rw [hF]; omega
  have eW : (8 * (sizeOfF f : Int)) = (Wd : Int) := by rw [hWd]; omega
  have hFk : F + k ≤ 104 := by omega
  rw [eF, eW] at P1
  rw [← hL] at P2 hLb
  rw [← hF, ← hL]
  have HLB : Hid (Byt L) := hLb
  have hLl := hLb.1
  have hpos := hP.pos
  clear hpf hF hWd hL eF eW hk hv0 hv1 hvw h0 h1 hLb
  have B0 : Below w.heap.size w (w.alloc (.cells zeroC 37)) := (Below.refl _ _).alloc (Nat.le_refl _) _
  have o0 := heap_new w (.cells zeroC 37) _ rfl
  go_enter Tryz.func53, Tryz.ntmps53
  go_wp2_with fail
  refine (P1.out _ (hP.later hpos B0)).mono ?_
  rintro e w1 ⟨rfl, hb1⟩
  have B1 := B0.trans (hb1.mono B0.size)
  have o1 : w1.heap[w.heap.size]? = some (.cells zeroC 37 (0, 0)) := by rw [hb1.block _ (by simp)]; exact o0
  clear hb1 o0 B0
  go_wp2_with fail
  refine (P2.out _ (hP.later hpos B1)).mono ?_
  rintro e w2 ⟨rfl, hb2⟩
  have B2 := B1.trans (hb2.mono B1.size)
  have o2 : w2.heap[w.heap.size]? = some (.cells zeroC 37 (0, 0)) := by rw [hb2.block _ (Array.getElem?_eq_some_iff.1 o1).1]; exact o1
  have o3 := heap_past w2 (.cells (hv L) 31) _ _ o2
  have l3 := heap_new w2 (.cells (hv L) 31) _ rfl
  have B3 := B2.alloc B2.size (.cells (hv L) 31)
  have hz2 := B2.size
  clear hb2 o1 B1 o2
  go_wp2_with (first
    | (refine wl_store26 rfl _ _ rfl w2.heap.size L rfl rfl _ (heap_new _ _ _ rfl) rfl hLl _ (setRow_new _ _ _ _ _ rfl) ?_))
  refine (all_any _).mono ?_
  rintro e w3 ⟨rfl, hb3⟩
  have B4 := B3.trans (hb3.mono B3.size)
  have o4 : w3.heap[w.heap.size]? = some (.cells zeroC 37 (0, 0)) := by rw [hb3.block _ (Array.getElem?_eq_some_iff.1 o3).1]; exact o3
  have l4 : w3.heap[w2.heap.size]? = some (.cells (hv L) 31 (0, 0)) := by rw [hb3.block _ (Array.getElem?_eq_some_iff.1 l3).1]; exact l3
  have o5 := heap_past w3 (.cells (cv Z Z) 37) _ _ o4
  have l5 := heap_past w3 (.cells (cv Z Z) 37) _ _ l4
  have c5 := heap_new w3 (.cells (cv Z Z) 37) _ rfl
  have B5 := B4.alloc B4.size (.cells (cv Z Z) 37)
  have hz3 : w2.heap.size < w3.heap.size := (Array.getElem?_eq_some_iff.1 l4).1
  have hZl := Z_byt.1
  clear hb3 o3 l3 B3 o4 l4 B4 B2 hP P1 P2
  go_wp2_with (first
    | (refine wl_storeC rfl _ _ rfl w3.heap.size Z Z rfl rfl _ (heap_new _ _ _ rfl) rfl hZl hZl _ (setRow_new _ _ _ _ _ rfl) ?_))
  go_loopw [13] (fun i wr => ∃ j : Nat, j ≤ k ∧ i = .int .i64 ((F : Int) + (j : Int)) ∧ wr.heap[w.heap.size]? = some (.cells zeroC 37 (0, 0)) ∧ wr.heap[w2.heap.size]? = some (.cells (hv L) 31 (0, 0)) ∧ wr.heap[w3.heap.size]? = some (.cells (cv (frV L F j) (frM F j)) 37 (0, 0)) ∧ Below w.heap.size w wr) (fun i _ => F + k - (intOf i).toNat)
  case atStart => exact ⟨0, Nat.zero_le _, by simp, o5, l5, by rw [frV_0, frM_0]; exact c5, B5⟩
  case round =>
    clear o5 l5 c5 B5
    obtain ⟨j, hj, rfl, o5, l5, c5, B5⟩ := hrel
    have hVl := (frV_byt L F j).1
    have hMl := (frM_byt F j).1
    by_cases hlt : j < k
    · have CB : Hid (∀ W, Calls Tryz.prog 85 #[.agg (hv L), .int .i64 ((F : Int) + (j : Int))] W fun e w' => e = .returned (.bool (bt L (F + j))) ∧ Below W.heap.size W w') := fun W => hbit_nat L HLB.out (F + j) (by omega) W
      have CF : Hid (∀ W, Calls Tryz.prog 84 #[.agg (cv (frV L F j) (frM F j)), .int .i64 ((F : Int) + (j : Int)), .bool (bt L (F + j))] W fun e w' => e = .returned (.tuple #[.agg (cv (frV L F (j + 1)) (frM F (j + 1))), .int .i64 0]) ∧ Below W.heap.size W w') := fun W => by
        have := fix_in (frV L F j) (frM F j) (frV_byt _ _ _) (frM_byt _ _) (F + j) (bt L (F + j)) (by omega) W
        rw [fixV_step, fixM_step] at this
        exact this
      have hVl2 := (frV_byt L F (j + 1)).1
      have hMl2 := (frM_byt F (j + 1)).1
      obtain ⟨V, hV⟩ : ∃ V, V = frV L F j := ⟨_, rfl⟩
      obtain ⟨M, hM⟩ : ∃ M, M = frM F j := ⟨_, rfl⟩
      obtain ⟨V2, hV2⟩ : ∃ V2, V2 = frV L F (j + 1) := ⟨_, rfl⟩
      obtain ⟨M2, hM2⟩ : ∃ M2, M2 = frM F (j + 1) := ⟨_, rfl⟩
      obtain ⟨b, hb⟩ : ∃ b, b = bt L (F + j) := ⟨_, rfl⟩
      rw [← hb] at CB CF
      rw [← hV, ← hM, ← hV2, ← hM2] at CF
      rw [← hV] at hVl c5
      rw [← hM] at hMl c5
      rw [← hV2] at hVl2
      rw [← hM2] at hMl2
      have HV2 : Hid (V2 = frV L F (j + 1)) := hV2
      have HM2 : Hid (M2 = frM F (j + 1)) := hM2
      clear hV hM hV2 hM2 hb
      go_wp2_with fail
      have ne1 := Later.ne wr
      refine wp_region_head 6 4 #[true, true, true, true, true, true, false, false, false, false] (by kernel_rfl) (by kernel_rfl) (by kernel_rfl) (by kernel_rfl) (by kernel_rfl) (by kernel_rfl) rfl ?_
      simp only [List.take_succ_cons, List.take_zero]
      refine qlC rfl _ rfl w3.heap.size rfl V M c5 hVl hMl ?_
      simp only [Act.put, List.setIfInBounds_toArray, List.set_cons_succ, List.set_cons_zero]
      go_big_quiet_step (fail)
      refine qlH rfl _ rfl w2.heap.size rfl L l5 hLl ?_
      simp only [Act.put, List.setIfInBounds_toArray, List.set_cons_succ, List.set_cons_zero]
      go_big_quiet_step (fail)
      go_big_quiet_want; go_big_quiet_op
      refine ⟨_, fun u => Calls.later_of (CB.out u.world), ?_⟩
      go_big_quiet_on
      go_big_quiet_want; go_big_quiet_op
      refine ⟨_, fun u => Calls.later_of (CF.out u.world), ?_⟩
      go_big_quiet_on
      refine wpQuiet_nil ?_
      rintro w' ⟨u, rfl⟩
      have k0 := later_block o5 _ ⟨u, rfl⟩
      have k1 := later_block l5 _ ⟨u, rfl⟩
      have k2 := later_block c5 _ ⟨u, rfl⟩
      have hb2 := B5.trans (u.below.mono B5.size)
      clear o5 l5 c5 B5 ne1 CB CF
      refine any_fix6 (v := .tuple #[.agg (cv V2 M2), .int .i64 0]) (v0 := .agg (cv V2 M2)) (v1 := .int .i64 0) (w' := u.world.setRow w3.heap.size (cv V2 M2)) (by kernel_rfl) (by kernel_rfl) (by kernel_rfl) (by kernel_rfl) (by kernel_rfl) (by kernel_rfl) (by kernel_rfl) rfl rfl rfl rfl rfl (run_move _ _ _ _ _ _ rfl rfl)
        (run_extract _ _ _ _ _ _ _ _ rfl rfl rfl) (run_extract _ _ _ _ _ _ _ _ rfl rfl rfl) (run_extract _ _ _ _ _ _ _ _ rfl rfl rfl) (run_extract _ _ _ _ _ _ _ _ rfl rfl rfl) (run_extract _ _ _ _ _ _ _ _ rfl rfl rfl)
        (run_storeC _ _ _ _ _ rfl w3.heap.size _ _ rfl rfl _ k2 (cv_size _ _ hVl hMl) hVl2 hMl2) (run_storeC _ _ _ _ _ rfl w3.heap.size _ _ rfl rfl _ k2 (cv_size _ _ hVl hMl) hVl2 hMl2) rfl ?_
      simp only [Act.put, List.setIfInBounds_toArray, List.set_cons_succ, List.set_cons_zero]
      go_wp2_with fail
      go_roundw
      case rel => exact ⟨j + 1, by omega, by go_num, (setRow_other _ _ _ _ (by omega)).trans k0, (setRow_other _ _ _ _ (by omega)).trans k1, by rw [← HV2.out, ← HM2.out]; exact setRow_heap _ _ _ _ _ _ k2, below_setRow hb2 (by omega) _⟩
      case measure => simp [intOf]; omega
    · obtain rfl : j = k := by omega
      go_wp2_with (first
        | (refine wl_loadC rfl _ rfl w3.heap.size rfl (frV L F j) (frM F j) c5 hVl hMl ?_)
        | (refine wl_storeC rfl _ _ rfl w.heap.size (frV L F j) (frM F j) rfl rfl _ o5 rfl hVl hMl _ rfl ?_))
      refine retC (p := 6) rfl rfl w.heap.size rfl (frV L F j) (frM F j) hVl hMl (setRow_heap _ _ _ _ _ _ o5) ⟨rfl, ?_⟩
      exact below_setRow B5 (Nat.le_refl _) _
end Go.Proofs.YthddlchkbnmcaaaGreatDoor
namespace Go.Proofs.YthddlchkbnmcaaaGreatDoor
open Go Go.RowKit
set_option maxRecDepth 20000

set_option maxHeartbeats 2000000 in
theorem front_any (L : List Int) (hL : Byt L) (f : Int) (k : Nat) (w : World) (h0 : 0 ≤ f) (h1 : f < 5) (hk : k ≤ 8 * sizeOfF f) :
    Calls Tryz.prog 59 #[.agg (hv L), .int .i64 f, .int .i64 (k : Int)] w fun e w' => e = .returned (.agg (cv (frV L (8 * atOf f) k) (frM (8 * atOf f) k))) ∧ Below w.heap.size w w' := by
  have C17 : Hid (∀ W, Calls Tryz.prog 86 #[.int .i64 f] W fun e w' => e = .returned (.int .i64 ((8 * atOf f : Nat) : Int)) ∧ w' = W) := first_at f h0 h1
  have hpf := place_facts f h0 h1
  obtain ⟨F, hF⟩ : ∃ F, F = 8 * atOf f := ⟨_, rfl⟩
  have hFk : F + k ≤ 104 := by omega
  rw [← hF] at C17 ⊢
  have HLB : Hid (Byt L) := hL
  have hLl := hL.1
  have hZl := Z_byt.1
  clear hpf hF hk h0 h1 hL
  have o0 := heap_past ((w.alloc (.cells (hv L) 31)).alloc (.cells zeroC 37)) (.cells (cv Z Z) 37) _ _ (heap_past (w.alloc (.cells (hv L) 31)) (.cells zeroC 37) _ _ (heap_new w (.cells (hv L) 31) _ rfl))
  have o1 := heap_past ((w.alloc (.cells (hv L) 31)).alloc (.cells zeroC 37)) (.cells (cv Z Z) 37) _ _ (heap_new (w.alloc (.cells (hv L) 31)) (.cells zeroC 37) (w.heap.size + 1) (by simp))
  have o2 := heap_new ((w.alloc (.cells (hv L) 31)).alloc (.cells zeroC 37)) (.cells (cv Z Z) 37) (w.heap.size + 2) (by simp)
  have B0 : Below w.heap.size w (((w.alloc (.cells (hv L) 31)).alloc (.cells zeroC 37)).alloc (.cells (cv Z Z) 37)) := (((Below.refl _ _).alloc (Nat.le_refl _) _).alloc (by simp) _).alloc (by simp; omega) _
  go_enter Tryz.func59, Tryz.ntmps59
  go_wp2_with (first
    | (refine wl_storeC rfl _ _ rfl (w.heap.size + 2) Z Z rfl (by rw [← zeroC_eq]; rfl) _ (heap_new _ _ _ (by simp)) rfl hZl hZl _ (setRow_new _ _ _ _ _ (by simp)) ?_))
  go_loopw [8] (fun i wr => ∃ j : Nat, j ≤ k ∧ i = .int .i64 (j : Int) ∧ wr.heap[w.heap.size]? = some (.cells (hv L) 31 (0, 0)) ∧ wr.heap[w.heap.size + 1]? = some (.cells zeroC 37 (0, 0)) ∧ wr.heap[w.heap.size + 2]? = some (.cells (cv (frV L F j) (frM F j)) 37 (0, 0)) ∧ Below w.heap.size w wr) (fun i _ => k - (intOf i).toNat)
  case atStart => exact ⟨0, Nat.zero_le _, rfl, o0, o1, by rw [frV_0, frM_0]; exact o2, B0⟩
  case round =>
    clear o0 o1 o2 B0
    obtain ⟨j, hj, rfl, l5, o5, c5, B5⟩ := hrel
    have hVl := (frV_byt L F j).1
    have hMl := (frM_byt F j).1
    by_cases hlt : j < k
    · have CB : Hid (∀ W, Calls Tryz.prog 89 #[.agg (hv L), .int .i64 ((F : Int) + (j : Int))] W fun e w' => e = .returned (.bool (bt L (F + j))) ∧ Below W.heap.size W w') := fun W => by
        have := refBit_any L HLB.out ((F + j : Nat) : Int) W
        rw [bitB_bt L (F + j) (by omega)] at this
        exact this
      have hVl2 := (frV_byt L F (j + 1)).1
      have hMl2 := (frM_byt F (j + 1)).1
      have CS : Hid (∀ W, Calls Tryz.prog 61 #[.agg (cv (frV L F j) (frM F j)), .int .i64 ((F : Int) + (j : Int)), .int .i64 (if bt L (F + j) then 1 else 0)] W fun e w' => e = .returned (.agg (cv (frV L F (j + 1)) (frM F (j + 1)))) ∧ Below W.heap.size W w') := fun W => by
        have := rset_any (frV L F j) (frM F j) (frV_byt _ _ _) (frM_byt _ _) (F + j) (by omega) (if bt L (F + j) then 1 else 0) W
        rw [show ((if bt L (F + j) then (1 : Int) else 0) == 1) = bt L (F + j) by cases bt L (F + j) <;> rfl, show ((if bt L (F + j) then (1 : Int) else 0) != 2) = true by cases bt L (F + j) <;> rfl, setV_step, setM_step] at this
        exact this
      obtain ⟨V, hV⟩ : ∃ V, V = frV L F j := ⟨_, rfl⟩
      obtain ⟨M, hM⟩ : ∃ M, M = frM F j := ⟨_, rfl⟩
      obtain ⟨V2, hV2⟩ : ∃ V2, V2 = frV L F (j + 1) := ⟨_, rfl⟩
      obtain ⟨M2, hM2⟩ : ∃ M2, M2 = frM F (j + 1) := ⟨_, rfl⟩
      obtain ⟨b, hb⟩ : ∃ b, b = bt L (F + j) := ⟨_, rfl⟩
      rw [← hb] at CB CS
      rw [← hV, ← hM, ← hV2, ← hM2] at CS
      rw [← hV] at hVl c5
      rw [← hM] at hMl c5
      rw [← hV2] at hVl2
      rw [← hM2] at hMl2
      have HV2 : Hid (V2 = frV L F (j + 1)) := hV2
      have HM2 : Hid (M2 = frM F (j + 1)) := hM2
      clear hV hM hV2 hM2 hb
      go_wp2_with fail
      have ne1 := Later.ne wr
      refine wp_region_later (by kernel_rfl) (by kernel_rfl) ?_
      refine qlH rfl _ rfl w.heap.size rfl L l5 hLl ?_
      simp only [Act.put, List.setIfInBounds_toArray, List.set_cons_succ, List.set_cons_zero]
      go_big_quiet_step (fail)
      go_big_quiet_want; go_big_quiet_op
      refine ⟨_, fun u => Calls.later_same (C17.out u.world), ?_⟩
      go_big_quiet_on
      go_big_quiet_step (fail)
      go_big_quiet_step (fail)
      go_big_quiet_want; go_big_quiet_op
      refine ⟨_, fun u => Calls.later_of (CB.out u.world), ?_⟩
      go_big_quiet_on
      refine wpQuiet_nil ?_
      rintro w' ⟨u, rfl⟩
      have k0 := later_block l5 _ ⟨u, rfl⟩
      have k1 := later_block o5 _ ⟨u, rfl⟩
      have k2 := later_block c5 _ ⟨u, rfl⟩
      have hb2 := B5.trans (u.below.mono B5.size)
      obtain ⟨w5, hw5⟩ : ∃ w5, w5 = u.world := ⟨_, rfl⟩
      rw [← hw5] at k0 k1 k2 hb2 ⊢
      clear l5 o5 c5 B5 ne1 CB hw5
      have ne2 := Later.ne w5
      cases b
      · go_wp2_with fail
        refine wp_region_latertail 7 (by kernel_rfl) (by kernel_rfl) ?_
        simp only [List.take_succ_cons, List.take_zero, List.drop_succ_cons, List.drop_zero]
        refine qlC rfl _ rfl (w.heap.size + 2) rfl V M k2 hVl hMl ?_
        simp only [Act.put, List.setIfInBounds_toArray, List.set_cons_succ, List.set_cons_zero]
        go_big_quiet_step (fail)
        go_big_quiet_want; go_big_quiet_op
        refine ⟨_, fun u => Calls.later_same (C17.out u.world), ?_⟩
        go_big_quiet_on
        go_big_quiet_step (fail)
        go_big_quiet_step (fail)
        go_big_quiet_step (fail)
        go_big_quiet_want; go_big_quiet_op
        refine ⟨_, fun u => Calls.later_of (CS.out u.world), ?_⟩
        go_big_quiet_on
        refine wpQuiet_nil ?_
        rintro w' ⟨u2, rfl⟩
        have p0 := later_block k0 _ ⟨u2, rfl⟩
        have p1 := later_block k1 _ ⟨u2, rfl⟩
        have p2 := later_block k2 _ ⟨u2, rfl⟩
        have hb3 := hb2.trans (u2.below.mono hb2.size)
        clear k0 k1 k2 hb2 ne2 CS
        go_wp2_with (first
          | (refine wl_storeC rfl _ _ rfl (w.heap.size + 2) V2 M2 rfl rfl _ p2 (cv_size _ _ hVl hMl) hVl2 hMl2 _ rfl ?_))
        go_roundw
        case rel => exact ⟨j + 1, by omega, by go_num, (setRow_other _ _ _ _ (by omega)).trans p0, (setRow_other _ _ _ _ (by omega)).trans p1, by rw [← HV2.out, ← HM2.out]; exact setRow_heap _ _ _ _ _ _ p2, below_setRow hb3 (by omega) _⟩
        case measure => simp [intOf]; omega
      · go_wp2_with fail
        refine wp_region_latertail 7 (by kernel_rfl) (by kernel_rfl) ?_
        simp only [List.take_succ_cons, List.take_zero, List.drop_succ_cons, List.drop_zero]
        refine qlC rfl _ rfl (w.heap.size + 2) rfl V M k2 hVl hMl ?_
        simp only [Act.put, List.setIfInBounds_toArray, List.set_cons_succ, List.set_cons_zero]
        go_big_quiet_step (fail)
        go_big_quiet_want; go_big_quiet_op
        refine ⟨_, fun u => Calls.later_same (C17.out u.world), ?_⟩
        go_big_quiet_on
        go_big_quiet_step (fail)
        go_big_quiet_step (fail)
        go_big_quiet_step (fail)
        go_big_quiet_want; go_big_quiet_op
        refine ⟨_, fun u => Calls.later_of (CS.out u.world), ?_⟩
        go_big_quiet_on
        refine wpQuiet_nil ?_
        rintro w' ⟨u2, rfl⟩
        have p0 := later_block k0 _ ⟨u2, rfl⟩
        have p1 := later_block k1 _ ⟨u2, rfl⟩
        have p2 := later_block k2 _ ⟨u2, rfl⟩
        have hb3 := hb2.trans (u2.below.mono hb2.size)
        clear k0 k1 k2 hb2 ne2 CS
        go_wp2_with (first
          | (refine wl_storeC rfl _ _ rfl (w.heap.size + 2) V2 M2 rfl rfl _ p2 (cv_size _ _ hVl hMl) hVl2 hMl2 _ rfl ?_))
        go_roundw
        case rel => exact ⟨j + 1, by omega, by go_num, (setRow_other _ _ _ _ (by omega)).trans p0, (setRow_other _ _ _ _ (by omega)).trans p1, by rw [← HV2.out, ← HM2.out]; exact setRow_heap _ _ _ _ _ _ p2, below_setRow hb3 (by omega) _⟩
        case measure => simp [intOf]; omega
    · obtain rfl : j = k := by omega
      go_wp2_with (first
        | (refine wl_loadC rfl _ rfl (w.heap.size + 2) rfl (frV L F j) (frM F j) c5 hVl hMl ?_)
        | (refine wl_storeC rfl _ _ rfl (w.heap.size + 1) (frV L F j) (frM F j) rfl rfl _ o5 rfl hVl hMl _ rfl ?_))
      refine retC (p := 6) rfl rfl (w.heap.size + 1) rfl (frV L F j) (frM F j) hVl hMl (setRow_heap _ _ _ _ _ _ o5) ⟨rfl, ?_⟩
      exact below_setRow B5 (by omega) _
end Go.Proofs.YthddlchkbnmcaaaGreatDoor
namespace Go.Proofs.YthddlchkbnmcaaaGreatDoor
open Go Go.RowKit
set_option maxRecDepth 20000

theorem has_fr (L H : List Int) (F k : Nat) (hFk : F + k ≤ 104) : has (frV L F k) (frM F k) H = true ↔ ∀ i, i < k → bt L (F + i) = bt H (F + i) := by
  rw [has_iff]
  constructor
  · intro h i hi
    have h1 := h (F + i) (by omega) (by rw [frM_bt _ _ _ (by omega)]; simp; omega)
    rw [frV_bt _ _ _ _ (by omega), decide_eq_true (by omega), Bool.true_and] at h1
    exact h1
  · intro h i hi hm
    rw [frM_bt _ _ _ hi, decide_eq_true_eq] at hm
    have h1 := h (i - F) (by omega)
    rw [show F + (i - F) = i by omega] at h1
    rw [frV_bt _ _ _ _ hi, decide_eq_true hm, Bool.true_and]
    exact h1

/-- Numbers with the same first k of W bits are the same without the others. -/
theorem top_eq (W a b : Nat) (ha : a < 2 ^ W) (hb : b < 2 ^ W) : ∀ k, k ≤ W → ((∀ i, i < k → (a / 2 ^ (W - 1 - i) % 2 == 1) = (b / 2 ^ (W - 1 - i) % 2 == 1)) ↔ a / 2 ^ (W - k) = b / 2 ^ (W - k))
  | 0, _ => by
    rw [Nat.sub_zero, Nat.div_eq_of_lt ha, Nat.div_eq_of_lt hb]
    simp
  | k + 1, hk => by
    have ih := top_eq W a b ha hb k (by omega)
    have e : W - k = (W - (k + 1)) + 1 := by omega
    have e2 : W - 1 - k = W - (k + 1) := by omega
    rw [e, Nat.pow_succ, ← Nat.div_div_eq_div_mul, ← Nat.div_div_eq_div_mul] at ih
    constructor
    · intro h
      have h1 := ih.1 fun i hi => h i (by omega)
      have h2 := h k (by omega)
      rw [e2, Bool.eq_iff_iff, beq_iff_eq, beq_iff_eq] at h2
      omega
    · intro h i hi
      rcases Nat.lt_or_ge i k with h3 | h3
      · exact ih.2 (by rw [h]) i h3
      · obtain rfl : i = k := by omega
        rw [e2, h]

theorem fh_bit (f : Int) (v : Nat) (h0 : 0 ≤ f) (h1 : f < 5) (i : Nat) (hi : i < 8 * sizeOfF f) : bt (fh f (v : Int)) (8 * atOf f + i) = (v / 2 ^ (8 * sizeOfF f - 1 - i) % 2 == 1) := by
  have hp := place_facts f h0 h1
  have h2 := (withB_bit Z13 Z13_byt (8 * atOf f) (8 * sizeOfF f) v (by omega) (8 * sizeOfF f) (Nat.le_refl _)).2 (8 * atOf f + i) (by omega)
  rw [withB_put Z13 Z13_byt _ _ _ hp.2.2.1, if_pos (by omega), bitB_bt _ _ (by omega), show 8 * atOf f + 8 * sizeOfF f - 1 - (8 * atOf f + i) = 8 * sizeOfF f - 1 - i by omega] at h2
  exact h2

/-- A field's number. -/
def fld (H : List Int) (f : Int) : Nat := (getN H (atOf f) (sizeOfF f)).toNat
theorem fld_eq (H : List Int) (hH : Byt H) (f : Int) : getN H (atOf f) (sizeOfF f) = (fld H f : Int) := by
  have := (getN_bd H hH (atOf f) (sizeOfF f)).1
  unfold fld; omega
theorem fld_lt (H : List Int) (hH : Byt H) (f : Int) : fld H f < 2 ^ (8 * sizeOfF f) := by
  have h := (getN_bd H hH (atOf f) (sizeOfF f)).2
  rw [fld_eq H hH f] at h
  have h2 : ((fld H f : Nat) : Int) < ((256 ^ sizeOfF f : Nat) : Int) := by rw [Int.natCast_pow]; exact h
  rw [Nat.pow_mul, show 2 ^ 8 = 256 from rfl]
  exact Int.ofNat_lt.1 h2
theorem fld_bit (H : List Int) (hH : Byt H) (f : Int) (h0 : 0 ≤ f) (h1 : f < 5) (i : Nat) (hi : i < 8 * sizeOfF f) : bt H (8 * atOf f + i) = (fld H f / 2 ^ (8 * sizeOfF f - 1 - i) % 2 == 1) := by
  have hp := place_facts f h0 h1
  have h := getN_bit H hH (atOf f) (sizeOfF f) i hp.2.2.1 hi
  rw [bitB_bt _ _ (by omega), fld_eq H hH f] at h
  rw [h, Bool.eq_iff_iff, beq_iff_eq, beq_iff_eq]
  have hc : (fld H f : Int) / 2 ^ (8 * sizeOfF f - 1 - i) = ((fld H f / 2 ^ (8 * sizeOfF f - 1 - i) : Nat) : Int) := by simp
  rw [hc]; omega

/-- A cube of a field's first bits has the headers whose field begins so. -/
theorem has_field (H : List Int) (hH : Byt H) (f : Int) (v k : Nat) (h0 : 0 ≤ f) (h1 : f < 5) (hv : v < 2 ^ (8 * sizeOfF f)) (hk : k ≤ 8 * sizeOfF f) :
    has (frV (fh f (v : Int)) (8 * atOf f) k) (frM (8 * atOf f) k) H = decide (v / 2 ^ (8 * sizeOfF f - k) = fld H f / 2 ^ (8 * sizeOfF f - k)) := by
  have hp := place_facts f h0 h1
  rw [Bool.eq_iff_iff, decide_eq_true_eq, has_fr _ _ _ _ (by omega), ← top_eq (8 * sizeOfF f) v (fld H f) hv (fld_lt H hH f) k hk]
  constructor
  · intro h i hi
    rw [← fh_bit f v h0 h1 i (by omega), ← fld_bit H hH f h0 h1 i (by omega)]
    exact h i hi
  · intro h i hi
    rw [fh_bit f v h0 h1 i (by omega), fld_bit H hH f h0 h1 i (by omega)]
    exact h i hi

end Go.Proofs.YthddlchkbnmcaaaGreatDoor
namespace Go.Proofs.YthddlchkbnmcaaaGreatDoor
open Go Go.RowKit
set_option maxRecDepth 20000

theorem size_01 (f : Int) (hf : f = 0 ∨ f = 1) : sizeOfF f = 4 := by rcases hf with rfl | rfl <;> rfl
theorem size_23 (f : Int) (hf : f = 2 ∨ f = 3) : sizeOfF f = 2 := by rcases hf with rfl | rfl <;> rfl
theorem size_4 : sizeOfF 4 = 1 := rfl

/-- The cube of a field's first bits. -/
def pxV (f : Int) (v k : Nat) : List Int := frV (fh f (v : Int)) (8 * atOf f) k
def pxM (f : Int) (k : Nat) : List Int := frM (8 * atOf f) k
theorem pxV_byt (f : Int) (v k : Nat) : Byt (pxV f v k) := frV_byt _ _ _
theorem pxM_byt (f : Int) (k : Nat) : Byt (pxM f k) := frM_byt _ _

theorem begins_at (f : Int) (v k : Nat) (w : World) (h0 : 0 ≤ f) (h1 : f < 5) (hv : v < 2 ^ (8 * sizeOfF f)) (hk : k ≤ 8 * sizeOfF f) (hP : Places w) :
    Calls Tryz.prog 53 #[.int .i64 f, .int .u32 (v : Int), .int .i64 (k : Int)] w fun e w' => e = .returned (.agg (cv (pxV f v k) (pxM f k))) ∧ Below w.heap.size w w' := by
  have hs := (place_facts f h0 h1).2.2.2.1
  have h32 : v < 4294967296 := Nat.lt_of_lt_of_le hv (Nat.le_trans (Nat.pow_le_pow_right (by decide) (show 8 * sizeOfF f ≤ 32 by omega)) (by decide))
  exact begins_any f v k w h0 h1 (by omega) (by omega) (by exact_mod_cast hv) hk hP
theorem rwith_at (f : Int) (v : Nat) (w : World) (h0 : 0 ≤ f) (h1 : f < 5) (hvb : v < 2 ^ (8 * sizeOfF f)) :
    Calls Tryz.prog 58 #[.agg zero26, .int .i64 f, .int .u32 (v : Int)] w fun e w' => e = .returned (.tuple #[.agg (hv (fh f (v : Int))), .int .i64 0]) ∧ Below w.heap.size w w' := by
  have hs := (place_facts f h0 h1).2.2.2.1
  have h32 : v < 4294967296 := Nat.lt_of_lt_of_le hvb (Nat.le_trans (Nat.pow_le_pow_right (by decide) (show 8 * sizeOfF f ≤ 32 by omega)) (by decide))
  exact refWith_ok Z13 Z13_byt f v w h0 h1 (by omega) (by omega) (by exact_mod_cast hvb)
theorem front_at (f : Int) (v k : Nat) (w : World) (h0 : 0 ≤ f) (h1 : f < 5) (hk : k ≤ 8 * sizeOfF f) :
    Calls Tryz.prog 59 #[.agg (hv (fh f (v : Int))), .int .i64 f, .int .i64 (k : Int)] w fun e w' => e = .returned (.agg (cv (pxV f v k) (pxM f k))) ∧ Below w.heap.size w w' :=
  front_any (fh f (v : Int)) (fh_byt f _ h0 h1) f k w h0 h1 hk

set_option maxHeartbeats 1000000 in
theorem prefix_ok (f : Int) (v k : Nat) (w : World) (hf : f = 0 ∨ f = 1) (hv : v < 2 ^ 32) (hk : k ≤ 32) (hP : Places w) :
    Calls Tryz.prog 55 #[.int .i64 f, .int .u32 (v : Int), .int .i64 (k : Int)] w fun e w' => e = .returned (.tuple #[.agg (cv (pxV f v k) (pxM f k)), .int .i64 0]) ∧ Below w.heap.size w w' := by
  have hs := size_01 f hf
  have BG : Hid (∀ W, Places W → Calls Tryz.prog 53 #[.int .i64 f, .int .u32 (v : Int), .int .i64 (k : Int)] W fun e w' => e = .returned (.agg (cv (pxV f v k) (pxM f k))) ∧ Below W.heap.size W w') := fun W hW => begins_at f v k W (by omega) (by omega) (by rw [hs]; exact hv) (by omega) hW
  have B0 : Below w.heap.size w (w.alloc (.cells zeroC 37)) := (Below.refl _ _).alloc (Nat.le_refl _) _
  have o0 := heap_new w (.cells zeroC 37) _ rfl
  have HP : Hid (Places (w.alloc (.cells zeroC 37))) := hP.later hP.pos B0
  have hVl := (pxV_byt f v k).1
  have hMl := (pxM_byt f k).1
  obtain ⟨V, hV⟩ : ∃ V, V = pxV f v k := ⟨_, rfl⟩
  obtain ⟨M, hM⟩ : ∃ M, M = pxM f k := ⟨_, rfl⟩
  rw [← hV] at BG hVl ⊢
  rw [← hM] at BG hMl ⊢
  clear hP hv hs hV hM
  rcases hf with rfl | rfl
  all_goals
    go_enter Tryz.func55, Tryz.ntmps55
    go_wp2_with fail
    refine (BG.out _ HP.out).mono ?_
    rintro e w1 ⟨rfl, hb1⟩
    have o1 : w1.heap[w.heap.size]? = some (.cells zeroC 37 (0, 0)) := by rw [hb1.block _ (by simp)]; exact o0
    have B1 := B0.trans (hb1.mono B0.size)
    go_wp2_with (first
      | (refine wl_storeC rfl _ _ rfl w.heap.size V M rfl rfl _ o1 rfl hVl hMl _ rfl ?_))
    refine retCe (p := 6) (u := 7) rfl rfl w.heap.size rfl V M hVl hMl (setRow_heap _ _ _ _ _ _ o1) _ rfl ⟨rfl, ?_⟩
    exact below_setRow B1 (Nat.le_refl _) _

set_option maxHeartbeats 1000000 in
theorem rprefix_ok (f : Int) (v k : Nat) (w : World) (hf : f = 0 ∨ f = 1) (hv : v < 2 ^ 32) (hk : k ≤ 32) :
    Calls Tryz.prog 34 #[.int .i64 f, .int .u32 (v : Int), .int .i64 (k : Int)] w fun e w' => e = .returned (.tuple #[.agg (cv (pxV f v k) (pxM f k)), .int .i64 0]) ∧ Below w.heap.size w w' := by
  have hs := size_01 f hf
  have RW : Hid (∀ W, Calls Tryz.prog 58 #[.agg zero26, .int .i64 f, .int .u32 (v : Int)] W fun e w' => e = .returned (.tuple #[.agg (Go.Proofs.YthddlchkbnmcaaaGreatDoor.hv (fh f (v : Int))), .int .i64 0]) ∧ Below W.heap.size W w') := fun W => rwith_at f v W (by omega) (by omega) (by rw [hs]; exact hv)
  have FR : Hid (∀ W, Calls Tryz.prog 59 #[.agg (Go.Proofs.YthddlchkbnmcaaaGreatDoor.hv (fh f (v : Int))), .int .i64 f, .int .i64 (k : Int)] W fun e w' => e = .returned (.agg (cv (pxV f v k) (pxM f k))) ∧ Below W.heap.size W w') := fun W => front_at f v k W (by omega) (by omega) (by omega)
  have B0 : Below w.heap.size w (w.alloc (.cells zeroC 37)) := (Below.refl _ _).alloc (Nat.le_refl _) _
  have o0 := heap_new w (.cells zeroC 37) _ rfl
  have hLl := (fh_byt f (v : Int) (by omega) (by omega)).1
  have hVl := (pxV_byt f v k).1
  have hMl := (pxM_byt f k).1
  obtain ⟨L, hL⟩ : ∃ L, L = fh f (v : Int) := ⟨_, rfl⟩
  obtain ⟨V, hV⟩ : ∃ V, V = pxV f v k := ⟨_, rfl⟩
  obtain ⟨M, hM⟩ : ∃ M, M = pxM f k := ⟨_, rfl⟩
  rw [← hL] at RW FR hLl
  rw [← hV] at FR hVl ⊢
  rw [← hM] at FR hMl ⊢
  clear hv hs hV hM hL
  rcases hf with rfl | rfl
  all_goals
    go_enter Tryz.func34, Tryz.ntmps34
    go_wp2_with fail
    refine (RW.out _).mono ?_
    rintro e w1 ⟨rfl, hb1⟩
    have o1 : w1.heap[w.heap.size]? = some (.cells zeroC 37 (0, 0)) := by rw [hb1.block _ (by simp)]; exact o0
    have B1 := B0.trans (hb1.mono B0.size)
    have l2 := heap_new w1 (.cells (Go.Proofs.YthddlchkbnmcaaaGreatDoor.hv L) 31) _ rfl
    have o2 := heap_past w1 (.cells (Go.Proofs.YthddlchkbnmcaaaGreatDoor.hv L) 31) _ _ o1
    have B2 := B1.alloc B1.size (.cells (Go.Proofs.YthddlchkbnmcaaaGreatDoor.hv L) 31)
    have hz := (Array.getElem?_eq_some_iff.1 o1).1
    go_wp2_with (first
      | (refine wl_store26 rfl _ _ rfl w1.heap.size L rfl rfl _ (heap_new _ _ _ rfl) rfl hLl _ (setRow_new _ _ _ _ _ rfl) ?_)
      | (refine wl_load26 rfl _ rfl w1.heap.size rfl L l2 hLl ?_))
    refine (FR.out _).mono ?_
    rintro e w3 ⟨rfl, hb3⟩
    have o3 : w3.heap[w.heap.size]? = some (.cells zeroC 37 (0, 0)) := by rw [hb3.block _ (Array.getElem?_eq_some_iff.1 o2).1]; exact o2
    have B3 := B2.trans (hb3.mono B2.size)
    go_wp2_with (first
      | (refine wl_storeC rfl _ _ rfl w.heap.size V M rfl rfl _ o3 rfl hVl hMl _ rfl ?_))
    refine retCe (p := 6) (u := 7) rfl rfl w.heap.size rfl V M hVl hMl (setRow_heap _ _ _ _ _ _ o3) _ rfl ⟨rfl, ?_⟩
    exact below_setRow B3 (Nat.le_refl _) _

end Go.Proofs.YthddlchkbnmcaaaGreatDoor
namespace Go.Proofs.YthddlchkbnmcaaaGreatDoor
open Go Go.RowKit
set_option maxRecDepth 20000

end Go.Proofs.YthddlchkbnmcaaaGreatDoor
