import Derived.Test.YtjlghkiplapodaaOf
namespace Go.Proofs.Ytjlghkiplapodaa
open Go Go.RowKit

/-- The end of a function whose results are two headers in memory. -/
theorem retHH {fn : Func} {R : Ending → World → Prop} {a : Act} {w : World} {p q : Tmp} (hr : fn.results = #[.cell p 24, .cell q 24]) (hd : a.defers = []) (g g' : Nat) (hp : a.tmps.getD p undef = .pointer (some ⟨g, 0, none⟩)) (hq : a.tmps.getD q undef = .pointer (some ⟨g', 0, none⟩)) (A B : List Int) (hA : A.length = 13) (hB : B.length = 13)
    (hg : w.heap[g]? = some (.cells (hv A) 24 (0, 0))) (hg' : w.heap[g']? = some (.cells (hv B) 24 (0, 0))) (h : R (.returned (.tuple #[.agg (hv A), .agg (hv B)])) w) : bodyPost Try.prog fn R .ret a w := by
  refine bodyPost_ret (v := .tuple #[.agg (hv A), .agg (hv B)]) ?_ hd h
  simp only [results, hr]
  have hp' : a.tmps[p]?.getD undef = .pointer (some ⟨g, 0, none⟩) := by simpa using hp
  have hq' : a.tmps[q]?.getD undef = .pointer (some ⟨g', 0, none⟩) := by simpa using hq
  simp [Sem.run_bind, hp', hq', asAddr, run_loadVar_row w g 24 24 (hv A) (0, 0) _ hg Try.underlying24 rfl (size26 A hA), run_loadVar_row w g' 24 24 (hv B) (0, 0) _ hg' Try.underlying24 rfl (size26 B hB)]

/-- The greatest header of a cube. -/
def top (V M : List Int) : List Int := mk fun i => (bt V i && bt M i) || !(bt M i)
theorem top_byt (V M : List Int) : Byt (top V M) := mk_byt _
theorem top_bt (V M : List Int) (i : Nat) (hi : i < 104) : bt (top V M) i = ((bt V i && bt M i) || !(bt M i)) := mk_bt _ i hi

theorem field_val (V M : List Int) (hV : V.length = 13) (w : World) : (Instr.field 30 (.agg (cv V M)) 0).run Try.prog w = .ok (.agg (hv V)) w := by
  have hp := part_val V M hV
  simp [Instr.field, run_underlying Try.underlying30, asAgg, hp]

set_option maxHeartbeats 4000000 in
theorem ends_any (V M : List Int) (hV : Byt V) (hM : Byt M) (w : World) :
    Calls Try.prog 35 #[.agg (cv V M)] w fun e w' => e = .returned (.tuple #[.agg (hv (can V M)), .agg (hv (top V M))]) ∧ Below w.heap.size w w' := by
  have hVl := hV.1
  have hMl := hM.1
  have hCl := (can_byt V M).1
  have C1 : Hid (∀ W, Calls Try.prog 30 #[.agg (cv V M)] W fun e w' => e = .returned (.agg (cv (can V M) M)) ∧ Below W.heap.size W w') := canon_any V M hV hM
  have HM : Hid (Byt M) := hM
  have hfv : ∀ w, (Instr.field 30 (.agg (cv (can V M) M)) 0).run Try.prog w = .ok (.agg (hv (can V M))) w := field_val _ _ hCl
  clear hV hM
  go_enter Try.func35, Try.ntmps35
  have g0 : (((w.alloc (.cells (cv V M) 30)).alloc (.cells zero26 24)).alloc (.cells zero26 24)).heap[w.heap.size]? = some (.cells (cv V M) 30 (0, 0)) := heap_past _ _ _ _ (heap_past _ _ _ _ (heap_new _ _ _ rfl))
  have g1 : (((w.alloc (.cells (cv V M) 30)).alloc (.cells zero26 24)).alloc (.cells zero26 24)).heap[w.heap.size + 1]? = some (.cells zero26 24 (0, 0)) := heap_past _ _ _ _ (heap_new _ _ _ (by simp))
  have g2 : (((w.alloc (.cells (cv V M) 30)).alloc (.cells zero26 24)).alloc (.cells zero26 24)).heap[w.heap.size + 2]? = some (.cells zero26 24 (0, 0)) := heap_new _ _ _ (by simp)
  have hb : Below w.heap.size w (((w.alloc (.cells (cv V M) 30)).alloc (.cells zero26 24)).alloc (.cells zero26 24)) := (((Below.refl _ _).alloc (Nat.le_refl _) _).alloc (by simp) _).alloc (by simp; omega) _
  go_wp2_with (first
    | (refine wl_loadC rfl _ rfl w.heap.size rfl V M g0 hVl hMl ?_))
  refine (C1.out _).mono ?_
  rintro e w1 ⟨rfl, hb1⟩
  have k0 : w1.heap[w.heap.size]? = some (.cells (cv V M) 30 (0, 0)) := by rw [hb1.block _ (by simp; omega)]; exact g0
  have k1 : w1.heap[w.heap.size + 1]? = some (.cells zero26 24 (0, 0)) := by rw [hb1.block _ (by simp)]; exact g1
  have k2 : w1.heap[w.heap.size + 2]? = some (.cells zero26 24 (0, 0)) := by rw [hb1.block _ (by simp)]; exact g2
  have hB1 := hb.trans (hb1.mono hb.size)
  have hz1 : w.heap.size + 3 ≤ w1.heap.size := Nat.le_trans (by simp) hb1.size
  clear g0 g1 g2 hb hb1 C1
  have l0 := heap_past (w1.alloc (.cells (hv (can V M)) 24)) (.cells (hv (can V M)) 24) _ _ (heap_past w1 (.cells (hv (can V M)) 24) _ _ k0)
  have l1 := heap_past (w1.alloc (.cells (hv (can V M)) 24)) (.cells (hv (can V M)) 24) _ _ (heap_past w1 (.cells (hv (can V M)) 24) _ _ k1)
  have l2 := heap_past (w1.alloc (.cells (hv (can V M)) 24)) (.cells (hv (can V M)) 24) _ _ (heap_past w1 (.cells (hv (can V M)) 24) _ _ k2)
  have l3 := heap_past (w1.alloc (.cells (hv (can V M)) 24)) (.cells (hv (can V M)) 24) _ _ (heap_new w1 (.cells (hv (can V M)) 24) _ rfl)
  have l4 := heap_new (w1.alloc (.cells (hv (can V M)) 24)) (.cells (hv (can V M)) 24) (w1.heap.size + 1) (by simp)
  have hB2 := (hB1.alloc (by omega) (.cells (hv (can V M)) 24)).alloc (by simp; omega) (.cells (hv (can V M)) 24)
  have n0 := heap_past w1 (.cells (hv (can V M)) 24) _ _ k0
  go_wp2_with (first
    | (refine wl_store26 rfl _ _ rfl w1.heap.size (can V M) rfl rfl _ (heap_new _ _ _ rfl) rfl hCl _ (setRow_new _ _ _ _ _ rfl) ?_)
    | (refine wl_load26 rfl _ rfl w1.heap.size rfl (can V M) (heap_new _ _ _ rfl) hCl ?_)
    | (refine wl_store26 rfl _ _ rfl (w1.heap.size + 1) (can V M) rfl rfl _ (heap_new _ _ _ (by simp)) rfl hCl _ (setRow_new _ _ _ _ _ (by simp)) ?_)
    | (refine wl_loadM rfl _ rfl w.heap.size rfl V M l0 hVl hMl ?_))
  go_loopw [14] (fun i wr => ∃ k : Nat, k ≤ 13 ∧ i = .int .i64 k ∧ ∃ U : List Int, Byt U ∧ (∀ j, j < 13 → U.getD j 0 = if j < k then bits .or .u8 ((can V M).getD j 0) (bits .xor .u8 255 (M.getD j 0)) else (can V M).getD j 0) ∧ wr.heap[w.heap.size + 1]? = some (.cells zero26 24 (0, 0)) ∧ wr.heap[w.heap.size + 2]? = some (.cells zero26 24 (0, 0)) ∧ wr.heap[w1.heap.size]? = some (.cells (hv (can V M)) 24 (0, 0)) ∧ wr.heap[w1.heap.size + 1]? = some (.cells (hv U) 24 (0, 0)) ∧ Below w.heap.size w wr) (fun i _ => 13 - (intOf i).toNat)
  case atStart => exact ⟨0, Nat.zero_le _, rfl, can V M, can_byt V M, fun j _ => by simp, l1, l2, l3, l4, hB2⟩
  case round =>
    clear k0 k1 k2 hB1 l0 l1 l2 l3 l4 hB2 n0 hfv
    obtain ⟨k, hk, rfl, U, hU, hUj, g1, g2, g3, g4, hb⟩ := hrel
    have hUl := hU.1
    have HU : Hid (Byt U) := hU
    have HUJ : Hid (∀ j, j < 13 → U.getD j 0 = if j < k then bits .or .u8 ((can V M).getD j 0) (bits .xor .u8 255 (M.getD j 0)) else (can V M).getD j 0) := hUj
    clear hU hUj
    by_cases hlt : k < 13
    · obtain ⟨x, hx, hxe⟩ : ∃ x, (hv U)[k]? = some (.int .u8 x) ∧ x = U.getD k 0 := ⟨_, hv_at U hUl k hlt, rfl⟩
      obtain ⟨y, hye⟩ : ∃ y, y = M.getD k 0 := ⟨_, rfl⟩
      have hidx : ∀ w, (Instr.index 24 (.agg (hv M)) (.int .i64 (k : Int))).run Try.prog w = .ok (.int .u8 y) w := fun w => by rw [hye]; exact run_idx M hMl k hlt w
      have hx0 : wr.cell? ⟨w1.heap.size + 1, k, none⟩ = some (.int .u8 x) := by rw [cell_of_row wr _ _ _ _ _ g4]; exact hx
      have hf0 : wr.frozen? ⟨w1.heap.size + 1, k, none⟩ = false := frozen_of_row wr _ _ _ _ g4
      have HX : Hid (x = U.getD k 0) := hxe
      have HY : Hid (y = M.getD k 0) := hye
      clear hxe hye hx
      go_wp2_with fail
      go_roundw
      case rel =>
        rw [show (if IntKind.u8.signed = true then (-1 : Int) else IntKind.u8.max) = 255 from rfl]
        refine ⟨k + 1, by omega, by go_num, U.set k (bits .or .u8 x (bits .xor .u8 255 y)), byt_set U HU.out k _ hlt (bits_u8 _ _ _), fun j hj => ?_, ?_, ?_, ?_, ?_, ?_⟩
        · rw [getD_set _ _ _ _ (by omega)]
          by_cases e : k = j
          · subst e
            rw [if_pos rfl, if_pos (by omega), HX.out, HY.out, HUJ.out k hlt, if_neg (by omega)]
          · rw [if_neg e, HUJ.out j hj]
            by_cases h : j < k
            · rw [if_pos h, if_pos (by omega)]
            · rw [if_neg h, if_neg (by omega)]
        · exact (heap_setCell_other wr ⟨w1.heap.size + 1, k, none⟩ (w.heap.size + 1) _ (by simp; omega)).trans g1
        · exact (heap_setCell_other wr ⟨w1.heap.size + 1, k, none⟩ (w.heap.size + 2) _ (by simp; omega)).trans g2
        · exact (heap_setCell_other wr ⟨w1.heap.size + 1, k, none⟩ w1.heap.size _ (by simp)).trans g3
        · rw [← hv_set]; exact heap_setCell_same wr _ _ _ _ _ g4
        · exact hb.setCell (by simp; omega) _
      case measure => simp [intOf]; omega
    · obtain rfl : k = 13 := by omega
      have e : U = top V M := mk_eq U HU.out _ fun i hi => by
        rw [bt_at, HUJ.out _ (by omega), if_pos (by omega), or_yb _ _ ((can_byt V M).2 _) (bits_u8 _ _ _), xor_yb _ _ (by decide) (HM.out.2 _), yb_255 _ (by omega), ← bt_at, ← bt_at, can_bt _ _ _ hi]
        cases bt M i <;> cases bt V i <;> rfl
      subst e
      have s1 := heap_drew g1
      have s2 := heap_drew g2
      have s3 := heap_drew g3
      have s4 := heap_drew g4
      have hB6 := hb.drew
      clear g1 g2 g3 g4 hb HU HUJ
      have h1 := (setRow_heap _ _ _ (hv (can V M)) _ _ s1)
      have h2 := (setRow_other _ (w.heap.size + 1) (w.heap.size + 2) (hv (can V M)) (by omega)).trans s2
      have h4 := (setRow_other _ (w.heap.size + 1) (w1.heap.size + 1) (hv (can V M)) (by omega)).trans s4
      have k1 := (setRow_other _ (w.heap.size + 2) (w.heap.size + 1) (hv (top V M)) (by omega)).trans h1
      have k2 := (setRow_heap _ _ _ (hv (top V M)) _ _ h2)
      go_wp2_with fail
      refine wp_region_two (v0 := .agg (hv (can V M))) (v1 := .agg (hv (top V M))) (w' := wr.drew.setRow (w.heap.size + 1) (hv (can V M))) (by kernel_rfl) (by kernel_rfl) rfl rfl rfl rfl
        (run_loadH _ _ _ _ rfl w1.heap.size rfl _ s3 hCl) (run_loadH _ _ _ _ rfl w1.heap.size rfl _ s3 hCl) (run_loadH _ _ _ _ rfl (w1.heap.size + 1) rfl _ s4 hUl) (run_loadH _ _ _ _ rfl (w1.heap.size + 1) rfl _ s4 hUl) (run_loadH _ _ _ _ rfl (w1.heap.size + 1) rfl _ h4 hUl)
        (run_storeH _ _ _ _ _ rfl (w.heap.size + 1) _ rfl rfl _ s1 rfl hCl) (run_storeH _ _ _ _ _ rfl (w.heap.size + 1) _ rfl rfl _ s1 rfl hCl) rfl ?_
      simp only [Act.put, List.setIfInBounds_toArray, List.set_cons_succ, List.set_cons_zero]
      go_wp2_with (first
        | (refine wl_store26 rfl _ _ rfl (w.heap.size + 2) (top V M) rfl rfl _ h2 rfl hUl _ rfl ?_))
      refine retHH (p := 2) (q := 3) rfl rfl (w.heap.size + 1) (w.heap.size + 2) rfl rfl _ _ hCl hUl k1 k2 ⟨rfl, ?_⟩
      exact below_setRow (below_setRow hB6 (by omega) _) (by omega) _
end Go.Proofs.Ytjlghkiplapodaa
