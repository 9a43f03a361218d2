import Derived.Test.YtfbphblodankmaaCBase
namespace Go.Proofs.Ytfbphblodankmaa
open Go Go.RowKit
set_option maxRecDepth 20000

/-- The value of the right one. -/
def can (V M : List Int) : List Int := mk fun i => bt V i && bt M i

theorem bt_at (L : List Int) (i : Nat) : bt L i = yb (L.getD (i / 8) 0) (i % 8) := rfl

set_option maxHeartbeats 1000000 in
theorem canon_any (V M : List Int) (hV : Byt V) (hM : Byt M) (w : World) :
    Calls Try.prog 30 #[.agg (cv V M)] w fun e w' => e = .returned (.agg (cv (can V M) M)) ∧ Below w.heap.size w w' := by
  have hVl := hV.1
  have hMl := hM.1
  have HV : Hid (Byt V) := hV
  have HM : Hid (Byt M) := hM
  clear hV hM
  go_enter Try.func30, Try.ntmps30
  go_wp2
  go_loopw [4] (fun i wr => ∃ k : Nat, k ≤ 13 ∧ i = .int .i64 k ∧ ∃ U : List Int, Byt U ∧ (∀ j, j < 13 → U.getD j 0 = if j < k then bits .and .u8 (V.getD j 0) (M.getD j 0) else V.getD j 0) ∧ wr.heap[w.heap.size]? = some (.cells (cv U M) 36 (0, 0)) ∧ wr.heap[w.heap.size + 1]? = some (.cells zeroC 36 (0, 0)) ∧ Below w.heap.size w wr) (fun i _ => 13 - (intOf i).toNat)
  case atStart => exact ⟨0, Nat.zero_le _, rfl, V, HV.out, fun j _ => by simp, heap_past _ _ _ _ (heap_new _ _ _ rfl), heap_new _ _ _ (by simp), ((Below.refl _ _).alloc (Nat.le_refl _) _).alloc (by simp) _⟩
  case round =>
    obtain ⟨k, hk, rfl, U, hU, hUj, g0, g1, hb⟩ := hrel
    have hUl := hU.1
    by_cases hlt : k < 13
    · obtain ⟨x, hx, hxe⟩ : ∃ x, (cv U M)[k]? = some (.int .u8 x) ∧ x = U.getD k 0 := ⟨_, cv_val U M hUl k hlt, rfl⟩
      obtain ⟨y, hy, hye⟩ : ∃ y, (cv U M)[13 + k]? = some (.int .u8 y) ∧ y = M.getD k 0 := ⟨_, cv_mask U M hUl hMl k hlt, rfl⟩
      have hx0 : wr.cell? ⟨w.heap.size, k, none⟩ = some (.int .u8 x) := by rw [cell_of_row wr _ _ _ _ _ g0]; exact hx
      have hy0 : wr.cell? ⟨w.heap.size, 13 + k, none⟩ = some (.int .u8 y) := by rw [cell_of_row wr _ _ _ _ _ g0]; exact hy
      have hf0 : wr.frozen? ⟨w.heap.size, k, none⟩ = false := frozen_of_row wr _ _ _ _ g0
      have HU : Hid (Byt U) := hU
      have HUJ : Hid (∀ j, j < 13 → U.getD j 0 = if j < k then bits .and .u8 (V.getD j 0) (M.getD j 0) else V.getD j 0) := hUj
      have HX : Hid (x = U.getD k 0) := hxe
      have HY : Hid (y = M.getD k 0) := hye
      clear hU hUj hxe hye hx hy
      go_wp2_with fail
      refine wp_region_tail 11 (by kernel_rfl) (by kernel_rfl) ?_
      simp only [List.take_succ_cons, List.take_zero, List.drop_succ_cons, List.drop_zero]
      repeat go_big_quiet_step (fail)
      refine wpQuiet_nil ?_
      go_wp2_with fail
      go_roundw
      case rel =>
        refine ⟨k + 1, by omega, by go_num, U.set k (bits .and .u8 x y), byt_set U HU.out k _ hlt (bits_u8 _ _ _), fun j hj => ?_, ?_, ?_, ?_⟩
        · rw [getD_set _ _ _ _ (by omega)]
          by_cases e : k = j
          · subst e
            rw [if_pos rfl, if_pos (by omega), HX.out, HY.out, HUJ.out k hlt, if_neg (by omega)]
          · rw [if_neg e, HUJ.out j hj]
            by_cases h : j < k
            · rw [if_pos h, if_pos (by omega)]
            · rw [if_neg h, if_neg (by omega)]
        · rw [← cv_set_val U M hUl k hlt]; exact heap_setCell_same wr _ _ _ _ _ g0
        · exact (heap_setCell_other wr ⟨w.heap.size, k, none⟩ (w.heap.size + 1) _ (by simp)).trans g1
        · exact (hb.setCell (Nat.le_refl _) _).drew
      case measure => simp [intOf]; omega
    · obtain rfl : k = 13 := by omega
      have HU : Hid (Byt U) := hU
      have HUJ : Hid (∀ j, j < 13 → U.getD j 0 = if j < 13 then bits .and .u8 (V.getD j 0) (M.getD j 0) else V.getD j 0) := hUj
      clear hU hUj
      go_wp2_with (first
        | (refine wl_loadC rfl _ rfl w.heap.size rfl U M g0 hUl hMl ?_)
        | (refine wl_storeC rfl _ _ rfl (w.heap.size + 1) U M rfl rfl _ g1 rfl hUl hMl _ rfl ?_))
      have e : U = can V M := mk_eq U HU.out _ fun i hi => by
        rw [bt_at, HUJ.out _ (by omega), if_pos (by omega), and_yb _ _ (HV.out.2 _) (HM.out.2 _)]; rfl
      subst e
      refine retC (p := 2) rfl rfl (w.heap.size + 1) rfl (can V M) M hUl hMl (setRow_heap _ _ _ _ _ _ g1) ⟨rfl, ?_⟩
      exact below_setRow hb (by omega) _
end Go.Proofs.Ytfbphblodankmaa
