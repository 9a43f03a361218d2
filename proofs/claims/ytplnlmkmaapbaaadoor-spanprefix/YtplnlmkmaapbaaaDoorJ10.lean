import Derived.Test.YtplnlmkmaapbaaaDoorJ9
namespace Go.Proofs.YtplnlmkmaapbaaaDoor
open Go Go.RowKit

theorem has_prefix (H : List Int) (hH : Byt H) (f : Int) (hf : f = 0 ∨ f = 1) (v k : Nat) (hvb : v < 2 ^ 32) (hk : k ≤ 32) :
    has (pxV f v k) (pxM f k) H = decide ((fld H f ^^^ v) / 2 ^ (32 - k) = 0) := by
  have hs := size_01 f hf
  have := has_field H hH f v k (by omega) (by omega) (by rw [hs]; exact hvb) (by omega)
  rw [hs] at this
  rw [show has (pxV f v k) (pxM f k) H = _ from this, Bool.eq_iff_iff, decide_eq_true_eq, decide_eq_true_eq, xor_top]
  exact eq_comm

set_option maxHeartbeats 4000000 in
theorem lawPrefix_any (f : Int) (v : Nat) (b : Int) (H : List Int) (hH : Byt H) (w : World) (hvb : v < 2 ^ 32) (hP : Places w) :
    Calls Tryd.prog 4 #[.int .i64 f, .int .u32 (v : Int), .int .i64 b, .agg (hv H)] w fun e w' => e = .returned (.bool true) ∧ Below w.heap.size w w' := by
  have hHl := hH.1
  have HH : Hid (Byt H) := hH
  have hpos := hP.pos
  have eg := egC
  have HP : Hid (Places w) := hP
  have g00 := heap_new w (.cells (hv H) 23) _ rfl
  have B00 : Below w.heap.size w (w.alloc (.cells (hv H) 23)) := (Below.refl _ _).alloc (Nat.le_refl _) _
  by_cases hn : (f = 0 ∨ f = 1) ∧ 0 ≤ b ∧ b ≤ 32
  · obtain ⟨k, rfl⟩ := Int.eq_ofNat_of_zero_le hn.2.1
    have hk : k ≤ 32 := by omega
    have hf := hn.1
    have hs := size_01 f hf
    have D1 : Hid (∀ W, Places W → Calls Tryd.prog 13 #[.int .i64 f, .int .u32 (v : Int), .int .i64 (k : Int)] W fun e w' => e = .returned (.tuple #[.agg (cv (pxV f v k) (pxM f k)), .int .i64 0]) ∧ Below W.heap.size W w') := fun W hW => prefix_ok f v k W hf hvb hk hW
    have D2 : Hid (∀ W, Calls Tryd.prog 14 #[.int .i64 f, .int .u32 (v : Int), .int .i64 (k : Int)] W fun e w' => e = .returned (.tuple #[.agg (cv (pxV f v k) (pxM f k)), .int .i64 0]) ∧ Below W.heap.size W w') := fun W => rprefix_ok f v k W hf hvb hk
    have D3 : Hid (∀ W, Calls Tryd.prog 11 #[.agg (hv H), .int .i64 f] W fun e w' => e = .returned (.tuple #[.int .u32 (fld H f : Int), .int .i64 0]) ∧ Below W.heap.size W w') := fun W => by
      have := refField_ok H hH f W (by omega) (by omega)
      rwa [fld_eq H hH f] at this
    have hfl : fld H f < 4294967296 := by have := fld_lt H hH f; rw [hs] at this; exact this
    have hX := xor32 (fld H f) v hfl hvb
    have hXl : fld H f ^^^ v < 4294967296 := Nat.xor_lt_two_pow (n := 32) hfl hvb
    have D4 : Hid (∀ W, Calls Tryd.prog 15 #[.agg (cv (pxV f v k) (pxM f k)), .agg (hv H)] W fun e w' => e = .returned (.bool (decide ((fld H f ^^^ v) / 2 ^ (32 - k) = 0))) ∧ Below W.heap.size W w') := fun W => by
      have := has_any (pxV f v k) (pxM f k) H (pxV_byt _ _ _) (pxM_byt _ _) hH W
      rwa [has_prefix H hH f hf v k hvb hk] at this
    have D5 : Hid (∀ W, Calls Tryd.prog 16 #[.agg (cv (pxV f v k) (pxM f k))] W fun e w' => e = .returned (.bool true) ∧ Below W.heap.size W w') := fun W => by
      have := right_any (pxV f v k) (pxM f k) (pxV_byt _ _ _) (pxM_byt _ _) W
      rwa [show can (pxV f v k) (pxM f k) = pxV f v k from can_fr _ _ _, beq_self_eq_true] at this
    have hVl := (pxV_byt f v k).1
    have hMl := (pxM_byt f k).1
    obtain ⟨V, hV⟩ : ∃ V, V = pxV f v k := ⟨_, rfl⟩
    obtain ⟨M, hM⟩ : ∃ M, M = pxM f k := ⟨_, rfl⟩
    obtain ⟨g, hg⟩ : ∃ g, g = fld H f := ⟨_, rfl⟩
    rw [← hV, ← hM] at D1 D2 D4 D5
    rw [← hV] at hVl
    rw [← hM] at hMl
    rw [← hg] at D3 D4 hfl hX hXl
    obtain ⟨x, hx⟩ : ∃ x, x = g ^^^ v := ⟨_, rfl⟩
    rw [← hx] at D4 hX hXl
    have HX : Hid (bits .xor .u32 (g : Int) (v : Int) = (x : Int)) := hX
    have e1 : ∀ w, (Op.equalIn 10000 37 (.agg (cv V M)) (.agg (cv V M))).run Tryd.prog w = .ok true w := fun w => by rw [eqC _ _ _ _ hVl hMl hVl hMl]; simp
    clear hV hM hg hn hH hP hf hs hx hX
    go_enter Tryd.func4, Tryd.ntmps4
    go_wp2_with fail
    refine (awake_any _).mono ?_
    rintro e w1 ⟨rfl, hb1⟩
    have g1 : w1.heap[w.heap.size]? = some (.cells (hv H) 23 (0, 0)) := by rw [hb1.block _ (by simp)]; exact g00
    have B1 := B00.trans (hb1.mono B00.size)
    clear hb1
    go_wp2_with fail
    refine (D1.out _ (HP.out.later hpos B1)).mono ?_
    rintro e w2 ⟨rfl, hb2⟩
    have g2 : w2.heap[w.heap.size]? = some (.cells (hv H) 23 (0, 0)) := by rw [hb2.block _ (Array.getElem?_eq_some_iff.1 g1).1]; exact g1
    have B2 := B1.trans (hb2.mono B1.size)
    have g3 := heap_past w2 (.cells (cv V M) 37) _ _ g2
    have c3 := heap_new w2 (.cells (cv V M) 37) _ rfl
    have B3 := B2.alloc B2.size (.cells (cv V M) 37)
    clear hb2 g1 B1 g2
    go_wp2_with (first
      | (refine wl_storeC rfl _ _ rfl w2.heap.size V M rfl rfl _ (heap_new _ _ _ rfl) rfl hVl hMl _ (setRow_new _ _ _ _ _ rfl) ?_))
    refine (D2.out _).mono ?_
    rintro e w4 ⟨rfl, hb4⟩
    have g4 : w4.heap[w.heap.size]? = some (.cells (hv H) 23 (0, 0)) := by rw [hb4.block _ (Array.getElem?_eq_some_iff.1 g3).1]; exact g3
    have c4 : w4.heap[w2.heap.size]? = some (.cells (cv V M) 37 (0, 0)) := by rw [hb4.block _ (Array.getElem?_eq_some_iff.1 c3).1]; exact c3
    have B4 := B3.trans (hb4.mono B3.size)
    have g5 := heap_past w4 (.cells (cv V M) 37) _ _ g4
    have c5 := heap_past w4 (.cells (cv V M) 37) _ _ c4
    have d5 := heap_new w4 (.cells (cv V M) 37) _ rfl
    have B5 := B4.alloc B4.size (.cells (cv V M) 37)
    clear hb4 g3 c3 B3 g4 c4 B2
    go_wp2_with (first
      | (refine wl_storeC rfl _ _ rfl w4.heap.size V M rfl rfl _ (heap_new _ _ _ rfl) rfl hVl hMl _ (setRow_new _ _ _ _ _ rfl) ?_)
      | (refine wl_loadC rfl _ rfl w2.heap.size rfl V M c5 hVl hMl ?_)
      | (refine wl_loadC rfl _ rfl w4.heap.size rfl V M d5 hVl hMl ?_)
      | (refine wl_load26 rfl _ rfl w.heap.size rfl H g5 hHl ?_))
    refine (D3.out _).mono ?_
    rintro e w6 ⟨rfl, hb6⟩
    have g6 : w6.heap[w.heap.size]? = some (.cells (hv H) 23 (0, 0)) := by rw [hb6.block _ (Array.getElem?_eq_some_iff.1 g5).1]; exact g5
    have c6 : w6.heap[w2.heap.size]? = some (.cells (cv V M) 37 (0, 0)) := by rw [hb6.block _ (Array.getElem?_eq_some_iff.1 c5).1]; exact c5
    have B6 := B5.trans (hb6.mono B5.size)
    clear hb6 g5 c5 d5 B4 B5
    go_wp2_with fail
    have ne1 := Later.ne w6
    refine wp_region_later (by kernel_rfl) (by kernel_rfl) ?_
    refine qlC rfl _ rfl w2.heap.size rfl V M c6 hVl hMl ?_
    simp only [Act.put, List.setIfInBounds_toArray, List.set_cons_succ, List.set_cons_zero]
    refine qlH rfl _ rfl w.heap.size rfl H g6 hHl ?_
    simp only [Act.put, List.setIfInBounds_toArray, List.set_cons_succ, List.set_cons_zero]
    go_big_quiet_want; go_big_quiet_op
    refine ⟨_, fun u => Calls.later_of (D4.out u.world), ?_⟩
    go_big_quiet_on
    go_big_quiet_step (fail)
    go_big_quiet_step (fail)
    go_big_quiet_step (fail)
    rw [HX.out]
    have hxi : (x : Int) < 4294967296 := by omega
    have hxi2 : (x : Int) ≤ 4294967295 := by omega
    have hk2 : (k : Int) ≤ 32 := by omega
    go_big_quiet_step (fail)
    go_big_quiet_step (fail)
    go_big_quiet_step (fail)
    go_big_quiet_step (fail)
    have hy : (x : Int) / 2 ^ (32 - k) = ((x / 2 ^ (32 - k) : Nat) : Int) := by simp
    rw [hy]
    clear hy HX
    obtain ⟨y, hy⟩ : ∃ y, y = x / 2 ^ (32 - k) := ⟨_, rfl⟩
    rw [← hy]
    clear hy
    by_cases hy0 : y = 0
    · subst hy0
      go_big_quiet_step (fail)
      go_big_quiet_step (fail)
      go_big_quiet_step (fail)
      refine qlC rfl _ rfl w2.heap.size rfl V M c6 hVl hMl ?_
      simp only [Act.put, List.setIfInBounds_toArray, List.set_cons_succ, List.set_cons_zero]
      go_big_quiet_want; go_big_quiet_op
      refine ⟨_, fun u => Calls.later_of (D5.out u.world), ?_⟩
      go_big_quiet_on
      go_big_quiet_step (fail)
      go_big_quiet_step (fail)
      refine wpQuiet_nil ?_
      rintro w' ⟨z, rfl⟩
      have hb8 := B6.trans (z.below.mono B6.size)
      go_wp2_with fail
      go_ret
      exact ⟨rfl, hb8⟩
    · have hy1 : ((y : Int) == 0) = false := by simp; exact hy0
      have hy2 : decide (y = 0) = false := decide_eq_false hy0
      rw [hy2]
      go_big_quiet_step (fail)
      go_big_quiet_step (fail)
      go_big_quiet_step (fail)
      refine qlC rfl _ rfl w2.heap.size rfl V M c6 hVl hMl ?_
      simp only [Act.put, List.setIfInBounds_toArray, List.set_cons_succ, List.set_cons_zero]
      go_big_quiet_want; go_big_quiet_op
      refine ⟨_, fun u => Calls.later_of (D5.out u.world), ?_⟩
      go_big_quiet_on
      go_big_quiet_step (fail)
      go_big_quiet_step (fail)
      refine wpQuiet_nil ?_
      rintro w' ⟨z, rfl⟩
      have hb8 := B6.trans (z.below.mono B6.size)
      go_wp2_with fail
      go_ret
      exact ⟨rfl, hb8⟩
  · have D1 : Hid (∀ W, Calls Tryd.prog 13 #[.int .i64 f, .int .u32 (v : Int), .int .i64 b] W fun e w' => e = .returned (.tuple #[.agg (cv Z Z), .int .i64 1]) ∧ Below W.heap.size W w') := fun W => prefix_no f v b W hn
    have D2 : Hid (∀ W, Calls Tryd.prog 14 #[.int .i64 f, .int .u32 (v : Int), .int .i64 b] W fun e w' => e = .returned (.tuple #[.agg (cv Z Z), .int .i64 1]) ∧ Below W.heap.size W w') := fun W => rprefix_no f v b W hn
    have hZl := Z_byt.1
    obtain ⟨V, hV⟩ : ∃ V, V = Z := ⟨_, rfl⟩
    rw [← hV] at D1 D2 hZl
    have e1 : ∀ w, (Op.equalIn 10000 37 (.agg (cv V V)) (.agg (cv V V))).run Tryd.prog w = .ok true w := fun w => by rw [eqC _ _ _ _ hZl hZl hZl hZl]; simp
    clear hn hV hH hP
    go_enter Tryd.func4, Tryd.ntmps4
    go_wp2_with fail
    refine (awake_any _).mono ?_
    rintro e w1 ⟨rfl, hb1⟩
    have B1 := B00.trans (hb1.mono B00.size)
    clear hb1
    go_wp2_with fail
    refine (D1.out _).mono ?_
    rintro e w2 ⟨rfl, hb2⟩
    have B2 := B1.trans (hb2.mono B1.size)
    have c3 := heap_new w2 (.cells (cv V V) 37) _ rfl
    have B3 := B2.alloc B2.size (.cells (cv V V) 37)
    clear hb2 B1
    go_wp2_with (first
      | (refine wl_storeC rfl _ _ rfl w2.heap.size V V rfl rfl _ (heap_new _ _ _ rfl) rfl hZl hZl _ (setRow_new _ _ _ _ _ rfl) ?_))
    refine (D2.out _).mono ?_
    rintro e w4 ⟨rfl, hb4⟩
    have c4 : w4.heap[w2.heap.size]? = some (.cells (cv V V) 37 (0, 0)) := by rw [hb4.block _ (Array.getElem?_eq_some_iff.1 c3).1]; exact c3
    have B4 := B3.trans (hb4.mono B3.size)
    have c5 := heap_past w4 (.cells (cv V V) 37) _ _ c4
    have d5 := heap_new w4 (.cells (cv V V) 37) _ rfl
    have B5 := B4.alloc B4.size (.cells (cv V V) 37)
    clear hb4 c3 B3 c4 B2
    go_wp2_with (first
      | (refine wl_storeC rfl _ _ rfl w4.heap.size V V rfl rfl _ (heap_new _ _ _ rfl) rfl hZl hZl _ (setRow_new _ _ _ _ _ rfl) ?_)
      | (refine wl_loadC rfl _ rfl w2.heap.size rfl V V c5 hZl hZl ?_)
      | (refine wl_loadC rfl _ rfl w4.heap.size rfl V V d5 hZl hZl ?_))
    go_ret
    exact ⟨rfl, B5⟩
end Go.Proofs.YtplnlmkmaapbaaaDoor
