import Derived.Test.YtdibjhlckjjlfaaJ2
import Derived.Laws.CopyRow
namespace Go.Proofs.Ytdibjhlckjjlfaa
open Go Go.RowKit
set_option maxRecDepth 20000

/-- The end of a function whose results are a cube in memory, and a plain one. -/
theorem retCe {fn : Func} {R : Ending → World → Prop} {a : Act} {w : World} {p u : Tmp} (hr : fn.results = #[.cell p 30, .tmp u]) (hd : a.defers = []) (g : Nat) (hp : a.tmps.getD p undef = .pointer (some ⟨g, 0, none⟩)) (V M : List Int) (hV : V.length = 13) (hM : M.length = 13)
    (hg : w.heap[g]? = some (.cells (cv V M) 30 (0, 0))) (v : Value) (hu : a.tmps.getD u undef = v) (h : R (.returned (.tuple #[.agg (cv V M), v])) w) : bodyPost Try.prog fn R .ret a w := by
  refine bodyPost_ret (v := .tuple #[.agg (cv V M), v]) ?_ hd h
  rw [results_cell_tmp hr, hp, hu]
  simp [asAddr, run_loadVar_row w g 30 30 (cv V M) (0, 0) _ hg Try.underlying30 rfl (sizeC V M hV hM)]

/-- Have two cubes a header together? -/
def meets (V M V' M' : List Int) : Bool := (List.range 104).all fun i => !(bt M i && bt M' i) || (bt V i == bt V' i)
def meetV (V M V' M' : List Int) : List Int := mk fun i => (bt V i && bt M i) || (bt V' i && bt M' i)
def meetM (M M' : List Int) : List Int := mk fun i => bt M i || bt M' i
theorem meets_iff (V M V' M' : List Int) : meets V M V' M' = true ↔ ∀ i, i < 104 → bt M i = true → bt M' i = true → bt V i = bt V' i := by
  unfold meets
  simp only [List.all_eq_true, List.mem_range, Bool.or_eq_true, Bool.not_eq_true', beq_iff_eq]
  constructor
  · intro h i hi hm hm'
    rcases h i hi with h' | h'
    · rw [hm, hm'] at h'; cases h'
    · exact h'
  · intro h i hi
    cases hm : bt M i
    · exact .inl rfl
    · cases hm' : bt M' i
      · exact .inl rfl
      · exact .inr (h i hi hm hm')

theorem clash_byte (v m v' m' : Int) (hv : 0 ≤ v ∧ v < 256) (hm : 0 ≤ m ∧ m < 256) (hv' : 0 ≤ v' ∧ v' < 256) (hm' : 0 ≤ m' ∧ m' < 256) : bits .and .u8 (bits .and .u8 (bits .xor .u8 v v') m) m' = 0 ↔ ∀ j, j < 8 → yb m j = true → yb m' j = true → yb v j = yb v' j := by
  rw [zero_byte _ (bits_u8 _ _ _)]
  constructor
  · intro g j hj hmj hmj'
    have := g j hj
    rw [and_yb _ _ (bits_u8 _ _ _) hm', and_yb _ _ (bits_u8 _ _ _) hm, xor_yb _ _ hv hv', hmj, hmj'] at this
    simpa using this
  · intro g j hj
    rw [and_yb _ _ (bits_u8 _ _ _) hm', and_yb _ _ (bits_u8 _ _ _) hm, xor_yb _ _ hv hv']
    cases hmj : yb m j
    · simp
    · cases hmj' : yb m' j
      · simp
      · rw [g j hj hmj hmj']; simp

theorem can_byt (V M : List Int) : Byt (can V M) := mk_byt _
theorem can_bt (V M : List Int) (i : Nat) (hi : i < 104) : bt (can V M) i = (bt V i && bt M i) := mk_bt _ i hi
theorem meetV_byt (V M V' M' : List Int) : Byt (meetV V M V' M') := mk_byt _
theorem meetM_byt (M M' : List Int) : Byt (meetM M M') := mk_byt _

theorem meets_all (V M V' M' : List Int) (hM : Byt M) (hM' : Byt M') (h : ∀ k, k < 13 → bits .and .u8 (bits .and .u8 (bits .xor .u8 ((can V M).getD k 0) ((can V' M').getD k 0)) (M.getD k 0)) (M'.getD k 0) = 0) : meets V M V' M' = true :=
  (meets_iff V M V' M').2 fun i hi hm hm' => by
    have := (clash_byte _ _ _ _ ((can_byt V M).2 _) (hM.2 _) ((can_byt V' M').2 _) (hM'.2 _)).1 (h (i / 8) (by omega)) (i % 8) (by omega) hm hm'
    rw [← bt_at, ← bt_at, can_bt _ _ i hi, can_bt _ _ i hi, hm, hm'] at this
    simpa using this
theorem meets_not (V M V' M' : List Int) (hM : Byt M) (hM' : Byt M') (k : Nat) (hk : k < 13) (h : bits .and .u8 (bits .and .u8 (bits .xor .u8 ((can V M).getD k 0) ((can V' M').getD k 0)) (M.getD k 0)) (M'.getD k 0) ≠ 0) : meets V M V' M' = false := by
  cases e : meets V M V' M'
  · rfl
  · refine absurd ((clash_byte _ _ _ _ ((can_byt V M).2 _) (hM.2 _) ((can_byt V' M').2 _) (hM'.2 _)).2 fun j hj hm hm' => ?_) h
    have ed : (8 * k + j) / 8 = k := by omega
    have em : (8 * k + j) % 8 = j := by omega
    have hb : ∀ L : List Int, yb (L.getD k 0) j = bt L (8 * k + j) := fun L => by unfold bt; rw [ed, em]
    rw [hb] at hm hm' ⊢
    rw [hb, can_bt _ _ _ (by omega), can_bt _ _ _ (by omega), hm, hm', (meets_iff V M V' M').1 e _ (by omega) hm hm']

/-- What Meet answers. -/
def meetR (V M V' M' : List Int) : Value := .tuple #[.agg (if meets V M V' M' then cv (meetV V M V' M') (meetM M M') else cv Z Z), .bool (meets V M V' M')]
theorem meetR_yes (V M V' M' : List Int) (h : meets V M V' M' = true) : meetR V M V' M' = .tuple #[.agg (cv (meetV V M V' M') (meetM M M')), .bool true] := by unfold meetR; rw [h]; rfl
theorem meetR_no (V M V' M' : List Int) (h : meets V M V' M' = false) : meetR V M V' M' = .tuple #[.agg (cv Z Z), .bool false] := by unfold meetR; rw [h]; rfl

set_option maxHeartbeats 4000000 in
theorem meet_any (V M V' M' : List Int) (hV : Byt V) (hM : Byt M) (hV' : Byt V') (hM' : Byt M') (w : World) :
    Calls Try.prog 32 #[.agg (cv V M), .agg (cv V' M')] w fun e w' => e = .returned (meetR V M V' M') ∧ Below w.heap.size w w' := by
  have hVl := hV.1
  have hMl := hM.1
  have hVl' := hV'.1
  have hMl' := hM'.1
  have C1 : Hid (∀ W, Calls Try.prog 25 #[.agg (cv V M)] W fun e w' => e = .returned (.agg (cv (can V M) M)) ∧ Below W.heap.size W w') := canon_any V M hV hM
  have C2 : Hid (∀ W, Calls Try.prog 25 #[.agg (cv V' M')] W fun e w' => e = .returned (.agg (cv (can V' M') M')) ∧ Below W.heap.size W w') := canon_any V' M' hV' hM'
  have HM : Hid (Byt M) := hM
  have HM' : Hid (Byt M') := hM'
  have hAl : (can V M).length = 13 := (can_byt V M).1
  have hBl : (can V' M').length = 13 := (can_byt V' M').1
  clear hV hM hV' hM'
  go_enter Try.func32, Try.ntmps32
  go_wp2_with fail
  obtain ⟨W, hW⟩ : ∃ W, W = ((w.alloc (.cells (cv V M) 30)).alloc (.cells (cv V' M') 30)).alloc (.cells zeroC 30) := ⟨_, rfl⟩
  have g0 : W.heap[w.heap.size]? = some (.cells (cv V M) 30 (0, 0)) := by rw [hW]; exact heap_past _ _ _ _ (heap_past _ _ _ _ (heap_new _ _ _ rfl))
  have g1 : W.heap[w.heap.size + 1]? = some (.cells (cv V' M') 30 (0, 0)) := by rw [hW]; exact heap_past _ _ _ _ (heap_new _ _ _ (by simp))
  have g2 : W.heap[w.heap.size + 2]? = some (.cells zeroC 30 (0, 0)) := by rw [hW]; exact heap_new _ _ _ (by simp)
  have hb : Below w.heap.size w W := by rw [hW]; exact (((Below.refl _ _).alloc (Nat.le_refl _) _).alloc (by simp) _).alloc (by simp; omega) _
  have hsz := hb.size
  rw [← hW]
  clear hW
  have ne1 := Later.ne W
  refine wp_region_latertail 4 (by kernel_rfl) (by kernel_rfl) ?_
  simp only [List.take_succ_cons, List.take_zero, List.drop_succ_cons, List.drop_zero]
  refine qlC rfl _ rfl w.heap.size rfl V M g0 hVl hMl ?_
  simp only [Act.put, List.setIfInBounds_toArray, List.set_cons_succ, List.set_cons_zero]
  go_big_quiet_want; go_big_quiet_op
  refine ⟨_, fun u => Calls.later_of (C1.out u.world), ?_⟩
  go_big_quiet_on
  refine qlC rfl _ rfl (w.heap.size + 1) rfl V' M' g1 hVl' hMl' ?_
  simp only [Act.put, List.setIfInBounds_toArray, List.set_cons_succ, List.set_cons_zero]
  go_big_quiet_want; go_big_quiet_op
  refine ⟨_, fun u => Calls.later_of (C2.out u.world), ?_⟩
  go_big_quiet_on
  refine wpQuiet_nil ?_
  rintro w1 ⟨u, rfl⟩
  obtain ⟨W1, hW1⟩ : ∃ W1, W1 = u.world := ⟨_, rfl⟩
  have k0 : W1.heap[w.heap.size]? = some (.cells (cv V M) 30 (0, 0)) := by rw [hW1]; exact later_block g0 _ ⟨u, rfl⟩
  have k1 : W1.heap[w.heap.size + 1]? = some (.cells (cv V' M') 30 (0, 0)) := by rw [hW1]; exact later_block g1 _ ⟨u, rfl⟩
  have k2 : W1.heap[w.heap.size + 2]? = some (.cells zeroC 30 (0, 0)) := by rw [hW1]; exact later_block g2 _ ⟨u, rfl⟩
  have hb1 : Below w.heap.size w W1 := by rw [hW1]; exact hb.trans (u.below.mono hsz)
  rw [← hW1]
  clear hW1 g0 g1 g2 hb C1 C2
  have m0 : (W1.setRow w.heap.size (cv (can V M) M)).heap[w.heap.size]? = some (.cells (cv (can V M) M) 30 (0, 0)) := setRow_heap _ _ _ _ _ _ k0
  have m1 : (W1.setRow w.heap.size (cv (can V M) M)).heap[w.heap.size + 1]? = some (.cells (cv V' M') 30 (0, 0)) := (setRow_other W1 _ _ _ (by omega)).trans k1
  have m2 : (W1.setRow w.heap.size (cv (can V M) M)).heap[w.heap.size + 2]? = some (.cells zeroC 30 (0, 0)) := (setRow_other W1 _ _ _ (by omega)).trans k2
  have hb2 := below_setRow hb1 (Nat.le_refl _) (cv (can V M) M)
  obtain ⟨W2, hW2⟩ : ∃ W2, W2 = W1.setRow w.heap.size (cv (can V M) M) := ⟨_, rfl⟩
  have n0 : (W2.setRow (w.heap.size + 1) (cv (can V' M') M')).heap[w.heap.size]? = some (.cells (cv (can V M) M) 30 (0, 0)) := by rw [hW2]; exact (setRow_other _ _ _ _ (by omega)).trans m0
  have n1 : (W2.setRow (w.heap.size + 1) (cv (can V' M') M')).heap[w.heap.size + 1]? = some (.cells (cv (can V' M') M') 30 (0, 0)) := by rw [hW2]; exact setRow_heap _ _ _ _ _ _ m1
  have n2 : (W2.setRow (w.heap.size + 1) (cv (can V' M') M')).heap[w.heap.size + 2]? = some (.cells zeroC 30 (0, 0)) := by rw [hW2]; exact (setRow_other _ _ _ _ (by omega)).trans m2
  have hb3 : Below w.heap.size w (W2.setRow (w.heap.size + 1) (cv (can V' M') M')) := by rw [hW2]; exact below_setRow hb2 (by omega) _
  rw [← hW2] at m1
  refine wl_storeC rfl _ _ rfl w.heap.size (can V M) M rfl rfl _ k0 (cv_size _ _ hVl hMl) hAl hMl _ hW2.symm ?_
  simp only [Act.put]
  refine wl_storeC rfl _ _ rfl (w.heap.size + 1) (can V' M') M' rfl rfl _ m1 (cv_size _ _ hVl' hMl') hBl hMl' _ rfl ?_
  simp only [Act.put]
  obtain ⟨W3, hW3⟩ : ∃ W3, W3 = W2.setRow (w.heap.size + 1) (cv (can V' M') M') := ⟨_, rfl⟩
  rw [← hW3] at n0 n1 n2 hb3 ⊢
  clear m0 m1 m2 hb2 k0 k1 k2 hb1 hW2 hW3
  go_wp2_with fail
  go_loopw [11] (fun i wr => ∃ k : Nat, k ≤ 13 ∧ i = .int .i64 k ∧ ∃ U N : List Int, Byt U ∧ Byt N ∧ (∀ j, j < 13 → U.getD j 0 = if j < k then bits .or .u8 ((can V M).getD j 0) ((can V' M').getD j 0) else (can V M).getD j 0) ∧ (∀ j, j < 13 → N.getD j 0 = if j < k then bits .or .u8 (M.getD j 0) (M'.getD j 0) else M.getD j 0)
    ∧ (∀ j, j < k → bits .and .u8 (bits .and .u8 (bits .xor .u8 ((can V M).getD j 0) ((can V' M').getD j 0)) (M.getD j 0)) (M'.getD j 0) = 0)
    ∧ wr.heap[w.heap.size]? = some (.cells (cv U N) 30 (0, 0)) ∧ wr.heap[w.heap.size + 1]? = some (.cells (cv (can V' M') M') 30 (0, 0)) ∧ wr.heap[w.heap.size + 2]? = some (.cells zeroC 30 (0, 0)) ∧ Below w.heap.size w wr) (fun i _ => 13 - (intOf i).toNat)
  case atStart => exact ⟨0, Nat.zero_le _, rfl, can V M, M, can_byt V M, HM.out, fun j _ => by simp, fun j _ => by simp, fun j hj => by omega, n0, n1, n2, hb3⟩
  case round =>
    clear n0 n1 n2 hb3
    obtain ⟨k, hk, rfl, U, N, hU, hN, hUj, hNj, hno, g0, g1, g2, hb⟩ := hrel
    have hUl := hU.1
    have hNl := hN.1
    have HU : Hid (Byt U) := hU
    have HN : Hid (Byt N) := hN
    have HUJ : Hid (∀ j, j < 13 → U.getD j 0 = if j < k then bits .or .u8 ((can V M).getD j 0) ((can V' M').getD j 0) else (can V M).getD j 0) := hUj
    have HNJ : Hid (∀ j, j < 13 → N.getD j 0 = if j < k then bits .or .u8 (M.getD j 0) (M'.getD j 0) else M.getD j 0) := hNj
    have HNO : Hid (∀ j, j < k → bits .and .u8 (bits .and .u8 (bits .xor .u8 ((can V M).getD j 0) ((can V' M').getD j 0)) (M.getD j 0)) (M'.getD j 0) = 0) := hno
    clear hU hN hUj hNj hno
    by_cases hlt : k < 13
    · obtain ⟨x, hx, hxe⟩ : ∃ x, (cv U N)[k]? = some (.int .u8 x) ∧ x = (can V M).getD k 0 := ⟨_, cv_val U N hUl k hlt, by rw [HUJ.out k hlt, if_neg (by omega)]⟩
      obtain ⟨y, hy, hye⟩ : ∃ y, (cv U N)[13 + k]? = some (.int .u8 y) ∧ y = M.getD k 0 := ⟨_, cv_mask U N hUl hNl k hlt, by rw [HNJ.out k hlt, if_neg (by omega)]⟩
      obtain ⟨x', hx', hxe'⟩ : ∃ x, (cv (can V' M') M')[k]? = some (.int .u8 x) ∧ x = (can V' M').getD k 0 := ⟨_, cv_val _ M' hBl k hlt, rfl⟩
      obtain ⟨y', hy', hye'⟩ : ∃ y, (cv (can V' M') M')[13 + k]? = some (.int .u8 y) ∧ y = M'.getD k 0 := ⟨_, cv_mask _ M' hBl hMl' k hlt, rfl⟩
      have hx0 := later_cell g0 hx
      have hy0 := later_cell g0 hy
      have hx1 := later_cell g1 hx'
      have hy1 := later_cell g1 hy'
      have HX : Hid (x = (can V M).getD k 0) := hxe
      have HY : Hid (y = M.getD k 0) := hye
      have HX' : Hid (x' = (can V' M').getD k 0) := hxe'
      have HY' : Hid (y' = M'.getD k 0) := hye'
      have ne2 := Later.ne wr
      clear hxe hye hxe' hye'
      by_cases hc : bits .and .u8 (bits .and .u8 (bits .xor .u8 x x') y) y' = 0
      · have HC : Hid (bits .and .u8 (bits .and .u8 (bits .xor .u8 x x') y) y' = 0) := hc
        have hne : (bits .and .u8 (bits .and .u8 (bits .xor .u8 x x') y) y' != 0) = false := by simp [hc]
        clear hc
        go_wp2_with fail
        refine wp_region_later (by kernel_rfl) (by kernel_rfl) ?_
        repeat go_big_quiet_step (fail)
        refine wpQuiet_nil ?_
        rintro w' ⟨u, rfl⟩
        obtain ⟨W4, hW4⟩ : ∃ W4, W4 = u.world := ⟨_, rfl⟩
        have k0 : W4.heap[w.heap.size]? = some (.cells (cv U N) 30 (0, 0)) := by rw [hW4]; exact later_block g0 _ ⟨u, rfl⟩
        have k1 : W4.heap[w.heap.size + 1]? = some (.cells (cv (can V' M') M') 30 (0, 0)) := by rw [hW4]; exact later_block g1 _ ⟨u, rfl⟩
        have k2 : W4.heap[w.heap.size + 2]? = some (.cells zeroC 30 (0, 0)) := by rw [hW4]; exact later_block g2 _ ⟨u, rfl⟩
        have hb4 : Below w.heap.size w W4 := by rw [hW4]; exact hb.trans (u.below.mono hb.size)
        rw [← hW4]
        clear hW4 g0 g1 g2 hb hx0 hy0 hx1 hy1 ne2
        have cx : W4.cell? ⟨w.heap.size, k, none⟩ = some (.int .u8 x) := by rw [cell_of_row W4 _ _ _ _ _ k0]; exact hx
        have cx' : W4.cell? ⟨w.heap.size + 1, k, none⟩ = some (.int .u8 x') := by rw [cell_of_row W4 _ _ _ _ _ k1]; exact hx'
        have cf : W4.frozen? ⟨w.heap.size, k, none⟩ = false := frozen_of_row W4 _ _ _ _ k0
        go_wp2_with fail
        refine wp_region_tail 11 (by kernel_rfl) (by kernel_rfl) ?_
        simp only [List.take_succ_cons, List.take_zero, List.drop_succ_cons, List.drop_zero]
        repeat go_big_quiet_step (fail)
        refine wpQuiet_nil ?_
        have l0 : ((W4.setCell ⟨w.heap.size, k, none⟩ (.int .u8 (bits .or .u8 x x'))).drew).heap[w.heap.size]? = some (.cells (cv (U.set k (bits .or .u8 x x')) N) 30 (0, 0)) := by rw [← cv_set_val U N hUl k hlt]; exact heap_setCell_same W4 _ _ _ _ _ k0
        have l1 : ((W4.setCell ⟨w.heap.size, k, none⟩ (.int .u8 (bits .or .u8 x x'))).drew).heap[w.heap.size + 1]? = some (.cells (cv (can V' M') M') 30 (0, 0)) := (heap_setCell_other W4 ⟨w.heap.size, k, none⟩ (w.heap.size + 1) _ (by simp)).trans k1
        have l2 : ((W4.setCell ⟨w.heap.size, k, none⟩ (.int .u8 (bits .or .u8 x x'))).drew).heap[w.heap.size + 2]? = some (.cells zeroC 30 (0, 0)) := (heap_setCell_other W4 ⟨w.heap.size, k, none⟩ (w.heap.size + 2) _ (by simp)).trans k2
        have hb5 : Below w.heap.size w ((W4.setCell ⟨w.heap.size, k, none⟩ (.int .u8 (bits .or .u8 x x'))).drew) := (hb4.setCell (Nat.le_refl _) _).drew
        obtain ⟨W5, hW5⟩ : ∃ W5, W5 = (W4.setCell ⟨w.heap.size, k, none⟩ (.int .u8 (bits .or .u8 x x'))).drew := ⟨_, rfl⟩
        have hUl2 : (U.set k (bits .or .u8 x x')).length = 13 := by rw [List.length_set]; exact hUl
        go_wp2_with fail
        rw [← hW5] at l0 l1 l2 hb5 ⊢
        clear hW5 k0 k1 k2 hb4 cx cx' cf hx hx' hy hy'
        have cy : W5.cell? ⟨w.heap.size, 13 + k, none⟩ = some (.int .u8 y) := by rw [cell_of_row W5 _ _ _ _ _ l0, cv_mask _ N hUl2 hNl k hlt, HNJ.out k hlt, if_neg (by omega), HY.out]
        have cy' : W5.cell? ⟨w.heap.size + 1, 13 + k, none⟩ = some (.int .u8 y') := by rw [cell_of_row W5 _ _ _ _ _ l1, cv_mask _ M' hBl hMl' k hlt, HY'.out]
        have cf : W5.frozen? ⟨w.heap.size, 13 + k, none⟩ = false := frozen_of_row W5 _ _ _ _ l0
        refine wp_region_tail 11 (by kernel_rfl) (by kernel_rfl) ?_
        simp only [List.take_succ_cons, List.take_zero, List.drop_succ_cons, List.drop_zero]
        repeat go_big_quiet_step (fail)
        refine wpQuiet_nil ?_
        go_wp2_with fail
        go_roundw
        case rel =>
          refine ⟨k + 1, by omega, by go_num, U.set k (bits .or .u8 x x'), N.set k (bits .or .u8 y y'), byt_set U HU.out k _ hlt (bits_u8 _ _ _), byt_set N HN.out k _ hlt (bits_u8 _ _ _), fun j hj => ?_, fun j hj => ?_, fun j hj => ?_, ?_, ?_, ?_, ?_⟩
          · rw [getD_set _ _ _ _ (by omega)]
            by_cases e : k = j
            · subst e
              rw [if_pos rfl, if_pos (by omega), HX.out, HX'.out]
            · rw [if_neg e, HUJ.out j hj]
              by_cases h : j < k
              · rw [if_pos h, if_pos (by omega)]
              · rw [if_neg h, if_neg (by omega)]
          · rw [getD_set _ _ _ _ (by omega)]
            by_cases e : k = j
            · subst e
              rw [if_pos rfl, if_pos (by omega), HY.out, HY'.out]
            · rw [if_neg e, HNJ.out j hj]
              by_cases h : j < k
              · rw [if_pos h, if_pos (by omega)]
              · rw [if_neg h, if_neg (by omega)]
          · by_cases e : j = k
            · subst e; rw [← HX.out, ← HY.out, ← HX'.out, ← HY'.out]; exact HC.out
            · exact HNO.out j (by omega)
          · rw [← cv_set_mask _ N hUl2 k]; exact heap_setCell_same W5 _ _ _ _ _ l0
          · exact (heap_setCell_other W5 ⟨w.heap.size, 13 + k, none⟩ (w.heap.size + 1) _ (by simp)).trans l1
          · exact (heap_setCell_other W5 ⟨w.heap.size, 13 + k, none⟩ (w.heap.size + 2) _ (by simp)).trans l2
          · exact (hb5.setCell (Nat.le_refl _) _).drew
        case measure => simp [intOf]; omega
      · have HC : Hid (¬ bits .and .u8 (bits .and .u8 (bits .xor .u8 x x') y) y' = 0) := hc
        have hne : (bits .and .u8 (bits .and .u8 (bits .xor .u8 x x') y) y' != 0) = true := by simp [hc]
        clear hc
        go_wp2_with fail
        refine wp_region_later (by kernel_rfl) (by kernel_rfl) ?_
        repeat go_big_quiet_step (fail)
        refine wpQuiet_nil ?_
        rintro w' ⟨u, rfl⟩
        have k2 := later_block g2 _ ⟨u, rfl⟩
        go_wp2_with (first
          | (refine wl_storeC rfl _ _ rfl (w.heap.size + 2) Z Z rfl (by rw [← zeroC_eq]; rfl) _ k2 rfl Z_byt.1 Z_byt.1 _ rfl ?_))
        refine retCe (p := 4) (u := 5) rfl rfl (w.heap.size + 2) rfl Z Z Z_byt.1 Z_byt.1 (setRow_heap _ _ _ _ _ _ k2) _ rfl ⟨?_, ?_⟩
        · have hn := HC.out
          rw [HX.out, HY.out, HX'.out, HY'.out] at hn
          rw [meetR_no _ _ _ _ (meets_not V M V' M' HM.out HM'.out k hlt hn)]; rfl
        · exact below_setRow (hb.trans (u.below.mono hb.size)) (by omega) _
    · obtain rfl : k = 13 := by omega
      go_wp2_with (first
        | (refine wl_loadC rfl _ rfl w.heap.size rfl U N g0 hUl hNl ?_)
        | (refine wl_storeC rfl _ _ rfl (w.heap.size + 2) U N rfl rfl _ g2 rfl hUl hNl _ rfl ?_))
      have e1 : U = meetV V M V' M' := mk_eq U HU.out _ fun i hi => by
        rw [bt_at, HUJ.out _ (by omega), if_pos (by omega), or_yb _ _ ((can_byt V M).2 _) ((can_byt V' M').2 _), ← bt_at, ← bt_at, can_bt _ _ _ hi, can_bt _ _ _ hi]
      have e2 : N = meetM M M' := mk_eq N HN.out _ fun i hi => by
        rw [bt_at, HNJ.out _ (by omega), if_pos (by omega), or_yb _ _ (HM.out.2 _) (HM'.out.2 _), ← bt_at, ← bt_at]
      have e3 := meets_all V M V' M' HM.out HM'.out HNO.out
      subst e1 e2
      refine retCe (p := 4) (u := 5) rfl rfl (w.heap.size + 2) rfl (meetV V M V' M') (meetM M M') hUl hNl (setRow_heap _ _ _ _ _ _ g2) _ rfl ⟨?_, ?_⟩
      · rw [meetR_yes _ _ _ _ e3]; rfl
      · exact below_setRow hb (by omega) _
end Go.Proofs.Ytdibjhlckjjlfaa
namespace Go.Proofs.Ytdibjhlckjjlfaa
open Go Go.RowKit
set_option maxRecDepth 20000

theorem info13 : (Try.prog.info? 28).map (·.size) = some 13 := by kernel_rfl

/-- A header that lies within a block, from a place on. -/
theorem load_part (w : World) (g off : Nat) (cs : Array Value) (t : TypeId) (fr : Nat × Nat) (L : List Int) (hL : L.length = 13) (hg : w.heap[g]? = some (.cells cs t fr)) (hc : ∀ j, j < 13 → cs[off + j]? = some (.int .u8 (L.getD j 0))) :
    (loadVar 28 ⟨g, off, none⟩).run Try.prog w = .ok (.agg (hv L)) w := by
  have hl : (loadCells ⟨g, off, none⟩ ((L.map (Value.int .u8))).length).run Try.prog w = .ok (L.map (Value.int .u8)).toArray w :=
    run_loadCells_list (P := Try.prog) w ⟨g, off, none⟩ (L.map (Value.int .u8)) (fun j v hv => by
      have hadd : (⟨g, off, none⟩ : Addr).add j = ⟨g, off + j, none⟩ := by unfold Addr.add; split <;> simp_all
      have hj : j < 13 := by
        have := (List.getElem?_eq_some_iff.1 hv).1
        simpa [hL] using this
      rw [hadd, cell_of_row w g (off + j) cs t fr hg, hc j hj]
      rw [List.getElem?_map, List.getElem?_eq_getElem (by omega)] at hv
      simpa [List.getD, hL, hj] using hv)
  have hi := info13
  cases hq : Try.prog.info? 28 with
  | none => simp [hq] at hi
  | some i =>
    have hs : i.size = 13 := by simpa [hq] using hi
    have hagg : (isAgg 28).run Try.prog w = .ok true w := by
      unfold isAgg
      rw [Sem.run_bind, run_underlying Try.underlying28 w]
      rfl
    rw [List.length_map, hL] at hl
    simp [loadVar, Sem.run_bind, hagg, sizeOf, typeInfo, hq, hs, hl, hv]

theorem wl_loadPart {ops : Array Oper} {rest : List Oper} {o : Oper} {a : Act} {w : World} {Q : Exit → Act → World → Prop} (hw : Region.wanted o (yielded ops a.tmps) = true) (x : Operand) (ho : o.op = .load 28 x)
    (g off : Nat) (hx : a.eval x = .pointer (some ⟨g, off, none⟩)) (cs : Array Value) (t : TypeId) (fr : Nat × Nat) (L : List Int) (hL : L.length = 13) (hg : w.heap[g]? = some (.cells cs t fr)) (hc : ∀ j, j < 13 → cs[off + j]? = some (.int .u8 (L.getD j 0)))
    (h : wpList Try.prog ops Q rest (a.put o.dst (.agg (hv L))) w) : wpList Try.prog ops Q (o :: rest) a w := by
  refine wpList_step fun K hK => ?_
  rw [if_pos hw]
  unfold Oper.wp execOp
  simp only [ho, hx, Instr.loadAt, Instr.sureAddr, Sem.run_bind, Sem.run_pure, Result.andThen_ok, load_part w g off cs t fr L hL hg hc]
  exact hK _ _ h
/-- The mask of a cube in memory. -/
theorem wl_loadM {ops : Array Oper} {rest : List Oper} {o : Oper} {a : Act} {w : World} {Q : Exit → Act → World → Prop} (hw : Region.wanted o (yielded ops a.tmps) = true) (x : Operand) (ho : o.op = .load 28 x)
    (g : Nat) (hx : a.eval x = .pointer (some ⟨g, 13, none⟩)) (V M : List Int) (hg : w.heap[g]? = some (.cells (cv V M) 30 (0, 0))) (hV : V.length = 13) (hM : M.length = 13)
    (h : wpList Try.prog ops Q rest (a.put o.dst (.agg (hv M))) w) : wpList Try.prog ops Q (o :: rest) a w :=
  wl_loadPart hw x ho g 13 hx _ _ _ M hM hg (fun j hj => cv_mask V M hV hM j hj) h
theorem wl_loadV {ops : Array Oper} {rest : List Oper} {o : Oper} {a : Act} {w : World} {Q : Exit → Act → World → Prop} (hw : Region.wanted o (yielded ops a.tmps) = true) (x : Operand) (ho : o.op = .load 28 x)
    (g : Nat) (hx : a.eval x = .pointer (some ⟨g, 0, none⟩)) (V M : List Int) (hg : w.heap[g]? = some (.cells (cv V M) 30 (0, 0))) (hV : V.length = 13)
    (h : wpList Try.prog ops Q rest (a.put o.dst (.agg (hv V))) w) : wpList Try.prog ops Q (o :: rest) a w :=
  wl_loadPart hw x ho g 0 hx _ _ _ V hV hg (fun j hj => by rw [Nat.zero_add]; exact cv_val V M hV j hj) h

theorem qlPart {W : World} {ops : Array Oper} {Q : Act → Prop} {rest : List Oper} {o : Oper} {a : Act} (hw : Region.wanted o (yielded ops a.tmps) = true) (x : Operand) (ho : o.op = .load 28 x)
    (g off : Nat) (hx : a.eval x = .pointer (some ⟨g, off, none⟩)) (cs : Array Value) (t : TypeId) (L : List Int) (hL : L.length = 13) (hg : W.heap[g]? = some (.cells cs t (0, 0))) (hc : ∀ j, j < 13 → cs[off + j]? = some (.int .u8 (L.getD j 0)))
    (h : wpQuiet Try.prog ops (fun w' => ∃ u : Later W, w' = u.world) Q rest (a.put o.dst (.agg (hv L)))) : wpQuiet Try.prog ops (fun w' => ∃ u : Later W, w' = u.world) Q (o :: rest) a := by
  refine BigFrame.wpQuiet_want hw fun K hK => ⟨.agg (hv L), fun w hC => ?_, hK _ h⟩
  unfold Oper.quietAt execOp
  simp only [ho, hx, Instr.loadAt, Instr.sureAddr, Sem.run_bind, Sem.run_pure, Result.andThen_ok, load_part w g off cs t (0, 0) L hL (later_block hg w hC) hc]
  exact ⟨rfl, rfl⟩
theorem qlM {W : World} {ops : Array Oper} {Q : Act → Prop} {rest : List Oper} {o : Oper} {a : Act} (hw : Region.wanted o (yielded ops a.tmps) = true) (x : Operand) (ho : o.op = .load 28 x)
    (g : Nat) (hx : a.eval x = .pointer (some ⟨g, 13, none⟩)) (V M : List Int) (hg : W.heap[g]? = some (.cells (cv V M) 30 (0, 0))) (hV : V.length = 13) (hM : M.length = 13)
    (h : wpQuiet Try.prog ops (fun w' => ∃ u : Later W, w' = u.world) Q rest (a.put o.dst (.agg (hv M)))) : wpQuiet Try.prog ops (fun w' => ∃ u : Later W, w' = u.world) Q (o :: rest) a :=
  qlPart hw x ho g 13 hx _ _ M hM hg (fun j hj => cv_mask V M hV hM j hj) h
theorem qlV {W : World} {ops : Array Oper} {Q : Act → Prop} {rest : List Oper} {o : Oper} {a : Act} (hw : Region.wanted o (yielded ops a.tmps) = true) (x : Operand) (ho : o.op = .load 28 x)
    (g : Nat) (hx : a.eval x = .pointer (some ⟨g, 0, none⟩)) (V M : List Int) (hg : W.heap[g]? = some (.cells (cv V M) 30 (0, 0))) (hV : V.length = 13)
    (h : wpQuiet Try.prog ops (fun w' => ∃ u : Later W, w' = u.world) Q rest (a.put o.dst (.agg (hv V)))) : wpQuiet Try.prog ops (fun w' => ∃ u : Later W, w' = u.world) Q (o :: rest) a :=
  qlPart hw x ho g 0 hx _ _ V hV hg (fun j hj => by rw [Nat.zero_add]; exact cv_val V M hV j hj) h

theorem store_part (w : World) (g off : Nat) (cs : Array Value) (t : TypeId) (L : List Int) (hL : L.length = 13) (hg : w.heap[g]? = some (.cells cs t (0, 0))) (hs : off + 13 ≤ cs.size) :
    (storeVar 28 ⟨g, off, none⟩ (.agg (hv L))).run Try.prog w = .ok () (w.setRow g (cs.toList.take off ++ L.map (Value.int .u8) ++ cs.toList.drop (off + 13)).toArray) := by
  have hst := run_storeCells_at Try.prog g off t (L.map (Value.int .u8)) 0 cs w hg (by simp [hL]; omega) (fun v hv => by
    obtain ⟨z, _, rfl⟩ := List.mem_map.1 hv; rfl)
  have hi := info13
  cases hq : Try.prog.info? 28 with
  | none => simp [hq] at hi
  | some i =>
    have hs' : i.size = 13 := by simpa [hq] using hi
    rw [Nat.add_zero, List.length_map, hL] at hst
    simp [storeVar, sizeOf, typeInfo, hq, Value.cells, hs', hv, hL, hst]

theorem wl_storePart {ops : Array Oper} {rest : List Oper} {o : Oper} {a : Act} {w : World} {Q : Exit → Act → World → Prop} (hgd : o.guard = none) (x y : Operand) (ho : o.op = .store 28 x y)
    (g off : Nat) (hx : a.eval x = .pointer (some ⟨g, off, none⟩)) (cs : Array Value) (t : TypeId) (L : List Int) (hy : a.eval y = .agg (hv L)) (hL : L.length = 13) (hg : w.heap[g]? = some (.cells cs t (0, 0))) (hs : off + 13 ≤ cs.size)
    (cs' : Array Value) (hcs' : (cs.toList.take off ++ L.map (Value.int .u8) ++ cs.toList.drop (off + 13)).toArray = cs')
    (h : wpList Try.prog ops Q rest (a.put o.dst undef) (w.setRow g cs')) : wpList Try.prog ops Q (o :: rest) a w :=
  wpList_plain hgd fun _ hK => by
    unfold Oper.wp execOp
    simp only [ho, hx, hy, Instr.storeAt, Instr.sureAddr, Sem.run_bind, Sem.run_pure, Result.andThen_ok, store_part w g off cs t L hL hg hs, hcs']
    exact hK _ _ h
theorem wl_storeM {ops : Array Oper} {rest : List Oper} {o : Oper} {a : Act} {w : World} {Q : Exit → Act → World → Prop} (hgd : o.guard = none) (x y : Operand) (ho : o.op = .store 28 x y)
    (g : Nat) (hx : a.eval x = .pointer (some ⟨g, 13, none⟩)) (V M L : List Int) (hy : a.eval y = .agg (hv L)) (hV : V.length = 13) (hM : M.length = 13) (hL : L.length = 13) (hg : w.heap[g]? = some (.cells (cv V M) 30 (0, 0)))
    (w' : World) (hw' : w.setRow g (cv V L) = w')
    (h : wpList Try.prog ops Q rest (a.put o.dst undef) w') : wpList Try.prog ops Q (o :: rest) a w :=
  wl_storePart hgd x y ho g 13 hx _ _ L hy hL hg (by rw [cv_size V M hV hM]; omega) (cv V L) (by unfold cv hv; simp [hV, hM]) (by rw [hw']; exact h)
theorem wl_storeV {ops : Array Oper} {rest : List Oper} {o : Oper} {a : Act} {w : World} {Q : Exit → Act → World → Prop} (hgd : o.guard = none) (x y : Operand) (ho : o.op = .store 28 x y)
    (g : Nat) (hx : a.eval x = .pointer (some ⟨g, 0, none⟩)) (V M L : List Int) (hy : a.eval y = .agg (hv L)) (hV : V.length = 13) (hM : M.length = 13) (hL : L.length = 13) (hg : w.heap[g]? = some (.cells (cv V M) 30 (0, 0)))
    (w' : World) (hw' : w.setRow g (cv L M) = w')
    (h : wpList Try.prog ops Q rest (a.put o.dst undef) w') : wpList Try.prog ops Q (o :: rest) a w :=
  wl_storePart hgd x y ho g 0 hx _ _ L hy hL hg (by rw [cv_size V M hV hM]; omega) (cv L M) (by unfold cv hv; simp [hV]) (by rw [hw']; exact h)

end Go.Proofs.Ytdibjhlckjjlfaa
namespace Go.Proofs.Ytdibjhlckjjlfaa
open Go Go.RowKit
set_option maxRecDepth 20000

theorem cisBit_yes (i : Int) (w : World) (h0 : 0 ≤ i) (h1 : i < 104) :
    Calls Try.prog 42 #[.int .i64 i] w fun e w' => e = .returned (.bool true) ∧ w' = w := by
  go_enter Try.func42, Try.ntmps42
  go_wp2
  go_ret
  exact ⟨ret_bool (by simp), rfl⟩
/-- A header with a bit as it is told. -/
def setb (L : List Int) (i : Nat) (b : Bool) : List Int := mk fun k => if k = i then b else bt L k
theorem setb_byt (L : List Int) (i : Nat) (b : Bool) : Byt (setb L i b) := mk_byt _
theorem setb_bt (L : List Int) (i : Nat) (b : Bool) (k : Nat) (hk : k < 104) : bt (setb L i b) k = if k = i then b else bt L k := mk_bt _ k hk
theorem setb_same (L : List Int) (hL : Byt L) (i : Nat) (b : Bool) (h : bt L i = b) : setb L i b = L :=
  (mk_eq L hL _ fun k _ => by
    by_cases e : k = i
    · rw [if_pos e, e, h]
    · rw [if_neg e]).symm

theorem hbit_nat (L : List Int) (hL : Byt L) (i : Nat) (hi : i < 104) (w : World) :
    Calls Try.prog 36 #[.agg (hv L), .int .i64 (i : Int)] w fun e w' => e = .returned (.bool (bt L i)) ∧ Below w.heap.size w w' := by
  have := bit_any L hL i w
  rwa [bitB_bt L i hi] at this
theorem rbit_nat (L : List Int) (hL : Byt L) (i : Nat) (hi : i < 104) (w : World) :
    Calls Try.prog 33 #[.agg (hv L), .int .i64 (i : Int)] w fun e w' => e = .returned (.bool (bt L i)) ∧ Below w.heap.size w w' := by
  have := refBit_any L hL i w
  rwa [bitB_bt L i hi] at this
theorem rput_nat (L : List Int) (hL : Byt L) (i : Nat) (hi : i < 104) (b : Bool) (w : World) :
    Calls Try.prog 34 #[.agg (hv L), .int .i64 (i : Int), .bool b] w fun e w' => e = .returned (.agg (hv (setb L i b))) ∧ Below w.heap.size w w' := by
  have := refPut_any L hL i b w (by omega) (by omega)
  rwa [setB_mk L hL i b hi] at this
theorem flip_nat (L : List Int) (hL : Byt L) (i : Nat) (hi : i < 104) (b : Bool) (h : bt L i ≠ b) (w : World) :
    Calls Try.prog 44 #[.agg (hv L), .int .i64 (i : Int)] w fun e w' => e = .returned (.agg (hv (setb L i b))) ∧ Below w.heap.size w w' := by
  have := flip_any L hL i w
  rw [flipL_mk L hL i hi] at this
  rwa [show setb L i b = mk fun k => if k = i then !(bt L k) else bt L k from mk_ext _ _ fun k _ => by
    by_cases e : k = i
    · rw [if_pos e, if_pos e, e]; revert h; cases bt L i <;> cases b <;> simp
    · rw [if_neg e, if_neg e]]

set_option maxHeartbeats 1000000 in
theorem set_any (L : List Int) (hL : Byt L) (i : Nat) (hi : i < 104) (b : Bool) (w : World) :
    Calls Try.prog 43 #[.agg (hv L), .int .i64 (i : Int), .bool b] w fun e w' => e = .returned (.agg (hv (setb L i b))) ∧ Below w.heap.size w w' := by
  have hl := hL.1
  by_cases h : bt L i = b
  · rw [setb_same L hL i b h]
    have CB : Hid (∀ W, Calls Try.prog 36 #[.agg (hv L), .int .i64 (i : Int)] W fun e w' => e = .returned (.bool b) ∧ Below W.heap.size W w') := by
      have := hbit_nat L hL i hi; rwa [h] at this
    clear h
    go_enter Try.func43, Try.ntmps43
    go_wp2_with (refine wl_load26 rfl _ rfl w.heap.size rfl L (heap_past _ _ _ _ (heap_new _ _ _ rfl)) hl ?_)
    refine (CB.out _).mono ?_
    rintro e w1 ⟨rfl, hb1⟩
    have g1 : w1.heap[w.heap.size]? = some (.cells (hv L) 28 (0, 0)) := by
      rw [hb1.block _ (by simp; omega)]; exact heap_past _ _ _ _ (heap_new _ _ _ rfl)
    have g2 : w1.heap[w.heap.size + 1]? = some (.cells zero26 28 (0, 0)) := by
      rw [hb1.block _ (by simp)]; exact heap_new _ _ _ (by simp)
    have hB1 : Below w.heap.size w w1 := (((Below.refl _ _).alloc (Nat.le_refl _) _).alloc (by simp) _).trans (hb1.mono (by simp; omega))
    clear hb1
    have hn : (b != b) = false := by simp
    go_wp2_with (first
      | (refine wl_load26 rfl _ rfl w.heap.size rfl L g1 hl ?_)
      | (refine wl_store26 rfl _ _ rfl (w.heap.size + 1) L rfl rfl _ g2 rfl hl _ rfl ?_))
    refine ret26 (p := 6) rfl rfl (w.heap.size + 1) rfl L hl (setRow_heap _ _ _ _ _ _ g2) ⟨rfl, ?_⟩
    exact below_setRow hB1 (by omega) _
  · have CB : Hid (∀ W, Calls Try.prog 36 #[.agg (hv L), .int .i64 (i : Int)] W fun e w' => e = .returned (.bool (!b)) ∧ Below W.heap.size W w') := by
      have := hbit_nat L hL i hi
      rwa [show bt L i = !b by revert h; cases bt L i <;> cases b <;> simp] at this
    have CF : Hid (∀ W, Calls Try.prog 44 #[.agg (hv L), .int .i64 (i : Int)] W fun e w' => e = .returned (.agg (hv (setb L i b))) ∧ Below W.heap.size W w') := flip_nat L hL i hi b h
    have hsl := (setb_byt L i b).1
    have hn : ((!b) != b) = true := by cases b <;> rfl
    clear h
    go_enter Try.func43, Try.ntmps43
    go_wp2_with (refine wl_load26 rfl _ rfl w.heap.size rfl L (heap_past _ _ _ _ (heap_new _ _ _ rfl)) hl ?_)
    refine (CB.out _).mono ?_
    rintro e w1 ⟨rfl, hb1⟩
    have g1 : w1.heap[w.heap.size]? = some (.cells (hv L) 28 (0, 0)) := by
      rw [hb1.block _ (by simp; omega)]; exact heap_past _ _ _ _ (heap_new _ _ _ rfl)
    have g2 : w1.heap[w.heap.size + 1]? = some (.cells zero26 28 (0, 0)) := by
      rw [hb1.block _ (by simp)]; exact heap_new _ _ _ (by simp)
    have hB1 : Below w.heap.size w w1 := (((Below.refl _ _).alloc (Nat.le_refl _) _).alloc (by simp) _).trans (hb1.mono (by simp; omega))
    have hz1 := hb1.size
    simp only [World.size_alloc] at hz1
    clear hb1
    go_wp2_with (first
      | (refine wl_load26 rfl _ rfl w.heap.size rfl L g1 hl ?_))
    refine (CF.out _).mono ?_
    rintro e w2 ⟨rfl, hb2⟩
    have g3 : w2.heap[w.heap.size + 1]? = some (.cells zero26 28 (0, 0)) := by
      rw [hb2.block _ (by omega)]; exact g2
    have hB2 : Below w.heap.size w w2 := hB1.trans (hb2.mono hB1.size)
    clear hb2
    go_wp2_with (first
      | (refine wl_store26 rfl _ _ rfl (w.heap.size + 1) (setb L i b) rfl rfl _ g3 rfl hsl _ rfl ?_))
    refine ret26 (p := 6) rfl rfl (w.heap.size + 1) rfl _ hsl (setRow_heap _ _ _ _ _ _ g3) ⟨rfl, ?_⟩
    exact below_setRow hB2 (by omega) _
end Go.Proofs.Ytdibjhlckjjlfaa
namespace Go.Proofs.Ytdibjhlckjjlfaa
open Go Go.RowKit
set_option maxRecDepth 20000

def fixV (V M : List Int) (i : Nat) (b : Bool) : List Int := setb (can V M) i b
def fixM (M : List Int) (i : Nat) : List Int := setb M i true

set_option maxHeartbeats 2000000 in
theorem fix_in (V M : List Int) (hV : Byt V) (hM : Byt M) (i : Nat) (b : Bool) (hi : i < 104) (w : World) :
    Calls Try.prog 39 #[.agg (cv V M), .int .i64 (i : Int), .bool b] w fun e w' => e = .returned (.tuple #[.agg (cv (fixV V M i b) (fixM M i)), .int .i64 0]) ∧ Below w.heap.size w w' := by
  have hVl := hV.1
  have hMl := hM.1
  have hCl := (can_byt V M).1
  have hFl : (fixM M i).length = 13 := (setb_byt M i true).1
  have hGl : (fixV V M i b).length = 13 := (setb_byt _ i b).1
  have CC : Hid (∀ W, Calls Try.prog 25 #[.agg (cv V M)] W fun e w' => e = .returned (.agg (cv (can V M) M)) ∧ Below W.heap.size W w') := canon_any V M hV hM
  have C1 : Hid (∀ W, Calls Try.prog 43 #[.agg (hv M), .int .i64 (i : Int), .bool true] W fun e w' => e = .returned (.agg (hv (fixM M i))) ∧ Below W.heap.size W w') := set_any M hM i hi true
  have C2 : Hid (∀ W, Calls Try.prog 43 #[.agg (hv (can V M)), .int .i64 (i : Int), .bool b] W fun e w' => e = .returned (.agg (hv (fixV V M i b))) ∧ Below W.heap.size W w') := set_any _ (can_byt V M) i hi b
  clear hV hM
  go_enter Try.func39, Try.ntmps39
  have g0 : ((w.alloc (.cells (cv V M) 30)).alloc (.cells zeroC 30)).heap[w.heap.size]? = some (.cells (cv V M) 30 (0, 0)) := heap_past _ _ _ _ (heap_new _ _ _ rfl)
  have g1 : ((w.alloc (.cells (cv V M) 30)).alloc (.cells zeroC 30)).heap[w.heap.size + 1]? = some (.cells zeroC 30 (0, 0)) := heap_new _ _ _ (by simp)
  have hb : Below w.heap.size w ((w.alloc (.cells (cv V M) 30)).alloc (.cells zeroC 30)) := ((Below.refl _ _).alloc (Nat.le_refl _) _).alloc (by simp) _
  have hsz : w.heap.size + 2 ≤ ((w.alloc (.cells (cv V M) 30)).alloc (.cells zeroC 30)).heap.size := by simp
  go_wp2_with (first
    | (go_at_call 42; refine (cisBit_yes _ _ (by omega) (by omega)).mono ?_; rintro e w' ⟨rfl, rfl⟩)
    | (refine wl_loadC rfl _ rfl w.heap.size rfl V M g0 hVl hMl ?_))
  refine (CC.out _).mono ?_
  rintro e w1 ⟨rfl, hb1⟩
  have k0 : w1.heap[w.heap.size]? = some (.cells (cv V M) 30 (0, 0)) := by rw [hb1.block _ (by simp; omega)]; exact g0
  have k1 : w1.heap[w.heap.size + 1]? = some (.cells zeroC 30 (0, 0)) := by rw [hb1.block _ (by simp)]; exact g1
  have hz1 : w.heap.size + 2 ≤ w1.heap.size := Nat.le_trans hsz hb1.size
  have hB1 := hb.trans (hb1.mono hb.size)
  clear g0 g1 hb hsz hb1 CC
  have l0 : (w1.setRow w.heap.size (cv (can V M) M)).heap[w.heap.size]? = some (.cells (cv (can V M) M) 30 (0, 0)) := setRow_heap _ _ _ _ _ _ k0
  have l1 : (w1.setRow w.heap.size (cv (can V M) M)).heap[w.heap.size + 1]? = some (.cells zeroC 30 (0, 0)) := (setRow_other _ _ _ _ (by omega)).trans k1
  go_wp2_with (first
    | (refine wl_storeC rfl _ _ rfl w.heap.size (can V M) M rfl rfl _ k0 (cv_size _ _ hVl hMl) hCl hMl _ rfl ?_)
    | (refine wl_loadM rfl _ rfl w.heap.size rfl (can V M) M l0 hCl hMl ?_))
  refine (C1.out _).mono ?_
  rintro e w2 ⟨rfl, hb2⟩
  have m0 : w2.heap[w.heap.size]? = some (.cells (cv (can V M) M) 30 (0, 0)) := by rw [hb2.block _ (by simp; omega)]; exact l0
  have m1 : w2.heap[w.heap.size + 1]? = some (.cells zeroC 30 (0, 0)) := by rw [hb2.block _ (by simp; omega)]; exact l1
  have hz2 : w.heap.size + 2 ≤ w2.heap.size := Nat.le_trans (by simpa using hz1) hb2.size
  have hB2 := (below_setRow hB1 (Nat.le_refl _) (cv (can V M) M)).trans (hb2.mono (by simpa using hB1.size))
  clear l0 l1 k0 k1 hB1 hb2 hz1 C1
  have n0 : (w2.setRow w.heap.size (cv (can V M) (fixM M i))).heap[w.heap.size]? = some (.cells (cv (can V M) (fixM M i)) 30 (0, 0)) := setRow_heap _ _ _ _ _ _ m0
  have n1 : (w2.setRow w.heap.size (cv (can V M) (fixM M i))).heap[w.heap.size + 1]? = some (.cells zeroC 30 (0, 0)) := (setRow_other _ _ _ _ (by omega)).trans m1
  go_wp2_with (first
    | (refine wl_storeM rfl _ _ rfl w.heap.size rfl (can V M) M (fixM M i) rfl hCl hMl hFl m0 _ rfl ?_)
    | (refine wl_loadV rfl _ rfl w.heap.size rfl (can V M) (fixM M i) n0 hCl ?_))
  refine (C2.out _).mono ?_
  rintro e w3 ⟨rfl, hb3⟩
  have p0 : w3.heap[w.heap.size]? = some (.cells (cv (can V M) (fixM M i)) 30 (0, 0)) := by rw [hb3.block _ (by simp; omega)]; exact n0
  have p1 : w3.heap[w.heap.size + 1]? = some (.cells zeroC 30 (0, 0)) := by rw [hb3.block _ (by simp; omega)]; exact n1
  have hB3 := (below_setRow hB2 (Nat.le_refl _) (cv (can V M) (fixM M i))).trans (hb3.mono (by simpa using hB2.size))
  clear m0 m1 n0 n1 hB2 hb3 hz2 C2
  have q0 : (w3.setRow w.heap.size (cv (fixV V M i b) (fixM M i))).heap[w.heap.size]? = some (.cells (cv (fixV V M i b) (fixM M i)) 30 (0, 0)) := setRow_heap _ _ _ _ _ _ p0
  have q1 : (w3.setRow w.heap.size (cv (fixV V M i b) (fixM M i))).heap[w.heap.size + 1]? = some (.cells zeroC 30 (0, 0)) := (setRow_other _ _ _ _ (by omega)).trans p1
  go_wp2_with (first
    | (refine wl_storeV rfl _ _ rfl w.heap.size rfl (can V M) (fixM M i) (fixV V M i b) rfl hCl hFl hGl p0 _ rfl ?_)
    | (refine wl_loadC rfl _ rfl w.heap.size rfl (fixV V M i b) (fixM M i) q0 hGl hFl ?_)
    | (refine wl_storeC rfl _ _ rfl (w.heap.size + 1) (fixV V M i b) (fixM M i) rfl rfl _ q1 rfl hGl hFl _ rfl ?_))
  refine retCe (p := 6) (u := 7) rfl rfl (w.heap.size + 1) rfl _ _ hGl hFl (setRow_heap _ _ _ _ _ _ q1) _ rfl ⟨rfl, ?_⟩
  exact below_setRow (below_setRow hB3 (Nat.le_refl _) _) (by omega) _
end Go.Proofs.Ytdibjhlckjjlfaa
namespace Go.Proofs.Ytdibjhlckjjlfaa
open Go Go.RowKit
set_option maxRecDepth 20000

theorem any_step {P : Program} {md : Region.Mode} {ops : Array Oper} {Q : Exit → Act → World → Prop} {fuel : Nat} {listed : Array Bool} {a : Act} {w : World} (rs : List Nat) (hr : Region.ready md ops listed = rs) (hne : rs ≠ [])
    (h : ∀ i ∈ rs, wpOp P ops Q i (wpAny P md ops Q fuel (listed.setIfInBounds i true)) a w) : wpAny P md ops Q (fuel + 1) listed a w :=
  ⟨fun h0 => absurd (hr.symm.trans h0) hne, fun i hi => h i (hr ▸ hi)⟩
theorem wpOp_value {P : Program} {ops : Array Oper} {Q : Exit → Act → World → Prop} {i : Nat} {o : Oper} {K : Act → World → Prop} {a : Act} {w w' : World} {v : Value} (hi : ops[i]? = some o) (hg : o.guard = none) (hr : (execOp a.eval o).run P w = .ok (.value v) w') (h : K (a.put o.dst v) w') : wpOp P ops Q i K a w := by
  have hw : Region.wanted o (yielded ops a.tmps) = true := by unfold Region.wanted; rw [hg]
  unfold Go.wpOp
  simp only [hi, hw, if_true]
  left
  unfold Oper.wp
  rw [hr]
  exact h
theorem wpOp_skip {P : Program} {ops : Array Oper} {Q : Exit → Act → World → Prop} {i : Nat} {o : Oper} {K : Act → World → Prop} {a : Act} {w w' : World} (hi : ops[i]? = some o) (hg : o.guard = none) (hr : (execOp a.eval o).run P w = .ok .skip w') (h : K (a.put o.dst undef) w') : wpOp P ops Q i K a w := by
  have hw : Region.wanted o (yielded ops a.tmps) = true := by unfold Region.wanted; rw [hg]
  unfold Go.wpOp
  simp only [hi, hw, if_true]
  left
  unfold Oper.wp
  rw [hr]
  exact h

theorem run_store_row (a : Act) (o : Oper) (w : World) (ty : TypeId) (x y : Operand) (ho : o.op = .store ty x y) (g : Nat) (cells : Array Value) (hx : a.eval x = .pointer (some ⟨g, 0, none⟩)) (hy : a.eval y = .agg cells) (t : TypeId) (old : Array Value) (hg : w.heap[g]? = some (.cells old t (0, 0)))
    (hi : (Try.prog.info? ty).map (·.size) = some cells.size) (hold : old.size = cells.size) (h1 : cells.all (·.oneCell') = true) : (execOp a.eval o).run Try.prog w = .ok .skip (w.setRow g cells) := by
  unfold execOp
  simp only [ho, hx, hy, Instr.storeAt, Instr.sureAddr, Sem.run_bind, Sem.run_pure, Result.andThen_ok, run_storeVar_row w g t ty old cells hg hi hold h1]
theorem run_storeC (a : Act) (o : Oper) (w : World) (x y : Operand) (ho : o.op = .store 30 x y) (g : Nat) (V M : List Int) (hx : a.eval x = .pointer (some ⟨g, 0, none⟩)) (hy : a.eval y = .agg (cv V M)) (old : Array Value) (hg : w.heap[g]? = some (.cells old 30 (0, 0))) (hold : old.size = 26) (hV : V.length = 13) (hM : M.length = 13) : (execOp a.eval o).run Try.prog w = .ok .skip (w.setRow g (cv V M)) :=
  run_store_row a o w _ x y ho g _ hx hy _ old hg (sizeC V M hV hM) (by rw [cv_size V M hV hM, hold]) (cv_one V M)
end Go.Proofs.Ytdibjhlckjjlfaa
