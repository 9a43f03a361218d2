import Derived.Test.YtplnlmkmaapbaaaDoorJ9
namespace Go.Proofs.YtplnlmkmaapbaaaDoor
open Go Go.RowKit

set_option maxHeartbeats 1000000 in
theorem proto_ok (n : Nat) (w : World) (hn : n ≤ 255) (hP : Places w) :
    Calls Tryd.prog 17 #[.int .i64 (n : Int)] w fun e w' => e = .returned (.tuple #[.agg (cv (pxV 4 n 8) (pxM 4 8)), .int .i64 0]) ∧ Below w.heap.size w w' := by
  have BG : Hid (∀ W, Places W → Calls Tryd.prog 20 #[.int .i64 4, .int .u32 (n : Int), .int .i64 8] W fun e w' => e = .returned (.agg (cv (pxV 4 n 8) (pxM 4 8))) ∧ Below W.heap.size W w') := fun W hW => begins_at 4 n 8 W (by omega) (by omega) (by rw [size_4]; omega) (by decide) hW
  have B0 : Below w.heap.size w (w.alloc (.cells zeroC 37)) := (Below.refl _ _).alloc (Nat.le_refl _) _
  have o0 := heap_new w (.cells zeroC 37) _ rfl
  have HP : Hid (Places (w.alloc (.cells zeroC 37))) := hP.later hP.pos B0
  have hVl := (pxV_byt 4 n 8).1
  have hMl := (pxM_byt 4 8).1
  obtain ⟨V, hV⟩ : ∃ V, V = pxV 4 n 8 := ⟨_, rfl⟩
  obtain ⟨M, hM⟩ : ∃ M, M = pxM 4 8 := ⟨_, rfl⟩
  rw [← hV] at BG hVl ⊢
  rw [← hM] at BG hMl ⊢
  clear hP hV hM
  go_enter Tryd.func17, Tryd.ntmps17
  go_wp2_with fail
  refine (BG.out _ HP.out).mono ?_
  rintro e w1 ⟨rfl, hb1⟩
  have o1 : w1.heap[w.heap.size]? = some (.cells zeroC 37 (0, 0)) := by rw [hb1.block _ (by simp)]; exact o0
  have B1 := B0.trans (hb1.mono B0.size)
  go_wp2_with (first
    | (refine wl_storeC rfl _ _ rfl w.heap.size V M rfl rfl _ o1 rfl hVl hMl _ rfl ?_))
  refine retCe (p := 2) (u := 3) rfl rfl w.heap.size rfl V M hVl hMl (setRow_heap _ _ _ _ _ _ o1) _ rfl ⟨rfl, ?_⟩
  exact below_setRow B1 (Nat.le_refl _) _

set_option maxHeartbeats 1000000 in
theorem proto_no (n : Int) (w : World) (h : ¬ (0 ≤ n ∧ n ≤ 255)) :
    Calls Tryd.prog 17 #[.int .i64 n] w fun e w' => e = .returned (.tuple #[.agg (cv Z Z), .int .i64 10]) ∧ Below w.heap.size w w' := by
  have hZl := Z_byt.1
  by_cases hk : n < 0
  · go_enter Tryd.func17, Tryd.ntmps17
    go_wp2_with (first
      | (refine wl_storeC rfl _ _ rfl w.heap.size Z Z rfl (by rw [← zeroC_eq]; rfl) _ (heap_new _ _ _ rfl) rfl hZl hZl _ (setRow_new _ _ _ _ _ rfl) ?_))
    refine retCe (p := 2) (u := 3) rfl rfl w.heap.size rfl Z Z hZl hZl (heap_new _ _ _ rfl) _ rfl ⟨rfl, (Below.refl _ _).alloc (Nat.le_refl _) _⟩
  · have hk2 : n > 255 := by omega
    clear h
    go_enter Tryd.func17, Tryd.ntmps17
    go_wp2_with (first
      | (refine wl_storeC rfl _ _ rfl w.heap.size Z Z rfl (by rw [← zeroC_eq]; rfl) _ (heap_new _ _ _ rfl) rfl hZl hZl _ (setRow_new _ _ _ _ _ rfl) ?_))
    refine retCe (p := 2) (u := 3) rfl rfl w.heap.size rfl Z Z hZl hZl (heap_new _ _ _ rfl) _ rfl ⟨rfl, (Below.refl _ _).alloc (Nat.le_refl _) _⟩

set_option maxHeartbeats 1000000 in
theorem rproto_ok (n : Nat) (w : World) (hn : n ≤ 255) :
    Calls Tryd.prog 18 #[.int .i64 (n : Int)] w fun e w' => e = .returned (.tuple #[.agg (cv (pxV 4 n 8) (pxM 4 8)), .int .i64 0]) ∧ Below w.heap.size w w' := by
  have RW : Hid (∀ W, Calls Tryd.prog 22 #[.agg zero26, .int .i64 4, .int .u32 (n : Int)] W fun e w' => e = .returned (.tuple #[.agg (hv (fh 4 (n : Int))), .int .i64 0]) ∧ Below W.heap.size W w') := fun W => rwith_at 4 n W (by omega) (by omega) (by rw [size_4]; omega)
  have FR : Hid (∀ W, Calls Tryd.prog 23 #[.agg (hv (fh 4 (n : Int))), .int .i64 4, .int .i64 8] W fun e w' => e = .returned (.agg (cv (pxV 4 n 8) (pxM 4 8))) ∧ Below W.heap.size W w') := fun W => front_at 4 n 8 W (by omega) (by omega) (by decide)
  have B0 : Below w.heap.size w (w.alloc (.cells zeroC 37)) := (Below.refl _ _).alloc (Nat.le_refl _) _
  have o0 := heap_new w (.cells zeroC 37) _ rfl
  have hLl := (fh_byt 4 (n : Int) (by omega) (by omega)).1
  have hVl := (pxV_byt 4 n 8).1
  have hMl := (pxM_byt 4 8).1
  obtain ⟨L, hL⟩ : ∃ L, L = fh 4 (n : Int) := ⟨_, rfl⟩
  obtain ⟨V, hV⟩ : ∃ V, V = pxV 4 n 8 := ⟨_, rfl⟩
  obtain ⟨M, hM⟩ : ∃ M, M = pxM 4 8 := ⟨_, rfl⟩
  rw [← hL] at RW FR hLl
  rw [← hV] at FR hVl ⊢
  rw [← hM] at FR hMl ⊢
  clear hV hM hL
  go_enter Tryd.func18, Tryd.ntmps18
  go_wp2_with fail
  refine (RW.out _).mono ?_
  rintro e w1 ⟨rfl, hb1⟩
  have o1 : w1.heap[w.heap.size]? = some (.cells zeroC 37 (0, 0)) := by rw [hb1.block _ (by simp)]; exact o0
  have B1 := B0.trans (hb1.mono B0.size)
  have l2 := heap_new w1 (.cells (hv L) 23) _ rfl
  have o2 := heap_past w1 (.cells (hv L) 23) _ _ o1
  have B2 := B1.alloc B1.size (.cells (hv L) 23)
  have hz := (Array.getElem?_eq_some_iff.1 o1).1
  go_wp2_with (first
    | (refine wl_store26 rfl _ _ rfl w1.heap.size L rfl rfl _ (heap_new _ _ _ rfl) rfl hLl _ (setRow_new _ _ _ _ _ rfl) ?_)
    | (refine wl_load26 rfl _ rfl w1.heap.size rfl L l2 hLl ?_))
  refine (FR.out _).mono ?_
  rintro e w3 ⟨rfl, hb3⟩
  have o3 : w3.heap[w.heap.size]? = some (.cells zeroC 37 (0, 0)) := by rw [hb3.block _ (Array.getElem?_eq_some_iff.1 o2).1]; exact o2
  have B3 := B2.trans (hb3.mono B2.size)
  go_wp2_with (first
    | (refine wl_storeC rfl _ _ rfl w.heap.size V M rfl rfl _ o3 rfl hVl hMl _ rfl ?_))
  refine retCe (p := 2) (u := 3) rfl rfl w.heap.size rfl V M hVl hMl (setRow_heap _ _ _ _ _ _ o3) _ rfl ⟨rfl, ?_⟩
  exact below_setRow B3 (Nat.le_refl _) _

set_option maxHeartbeats 1000000 in
theorem rproto_no (n : Int) (w : World) (h : ¬ (0 ≤ n ∧ n ≤ 255)) :
    Calls Tryd.prog 18 #[.int .i64 n] w fun e w' => e = .returned (.tuple #[.agg (cv Z Z), .int .i64 10]) ∧ Below w.heap.size w w' := by
  have hZl := Z_byt.1
  by_cases hk : n < 0
  · go_enter Tryd.func18, Tryd.ntmps18
    go_wp2_with (first
      | (refine wl_storeC rfl _ _ rfl w.heap.size Z Z rfl (by rw [← zeroC_eq]; rfl) _ (heap_new _ _ _ rfl) rfl hZl hZl _ (setRow_new _ _ _ _ _ rfl) ?_))
    refine retCe (p := 2) (u := 3) rfl rfl w.heap.size rfl Z Z hZl hZl (heap_new _ _ _ rfl) _ rfl ⟨rfl, (Below.refl _ _).alloc (Nat.le_refl _) _⟩
  · have hk2 : n > 255 := by omega
    clear h
    go_enter Tryd.func18, Tryd.ntmps18
    go_wp2_with (first
      | (refine wl_storeC rfl _ _ rfl w.heap.size Z Z rfl (by rw [← zeroC_eq]; rfl) _ (heap_new _ _ _ rfl) rfl hZl hZl _ (setRow_new _ _ _ _ _ rfl) ?_))
    refine retCe (p := 2) (u := 3) rfl rfl w.heap.size rfl Z Z hZl hZl (heap_new _ _ _ rfl) _ rfl ⟨rfl, (Below.refl _ _).alloc (Nat.le_refl _) _⟩

/-- The protocol of a header. -/
theorem has_proto (H : List Int) (hH : Byt H) (n : Nat) (hn : n ≤ 255) : has (pxV 4 n 8) (pxM 4 8) H = decide (n = fld H 4) := by
  have := has_field H hH 4 n 8 (by omega) (by omega) (by rw [size_4]; omega) (by decide)
  rw [show 8 * sizeOfF 4 - 8 = 0 from rfl, Nat.pow_zero, Nat.div_one, Nat.div_one] at this
  exact this

set_option maxHeartbeats 2000000 in
theorem lawProto_any (n : Int) (H : List Int) (hH : Byt H) (w : World) (hP : Places w) :
    Calls Tryd.prog 5 #[.int .i64 n, .agg (hv H)] w fun e w' => e = .returned (.bool true) ∧ Below w.heap.size w w' := by
  have hHl := hH.1
  have HH : Hid (Byt H) := hH
  have hpos := hP.pos
  have eg := egC
  have HP : Hid (Places w) := hP
  have g00 := heap_new w (.cells (hv H) 23) _ rfl
  have B00 : Below w.heap.size w (w.alloc (.cells (hv H) 23)) := (Below.refl _ _).alloc (Nat.le_refl _) _
  by_cases hn : 0 ≤ n ∧ n ≤ 255
  · obtain ⟨k, rfl⟩ := Int.eq_ofNat_of_zero_le hn.1
    have hk : k ≤ 255 := by omega
    have D1 : Hid (∀ W, Places W → Calls Tryd.prog 17 #[.int .i64 (k : Int)] W fun e w' => e = .returned (.tuple #[.agg (cv (pxV 4 k 8) (pxM 4 8)), .int .i64 0]) ∧ Below W.heap.size W w') := fun W hW => proto_ok k W hk hW
    have D2 : Hid (∀ W, Calls Tryd.prog 18 #[.int .i64 (k : Int)] W fun e w' => e = .returned (.tuple #[.agg (cv (pxV 4 k 8) (pxM 4 8)), .int .i64 0]) ∧ Below W.heap.size W w') := fun W => rproto_ok k W hk
    have D3 : Hid (∀ W, Calls Tryd.prog 11 #[.agg (hv H), .int .i64 4] W fun e w' => e = .returned (.tuple #[.int .u32 (fld H 4 : Int), .int .i64 0]) ∧ Below W.heap.size W w') := fun W => by
      have := refField_ok H hH 4 W (by omega) (by omega)
      rwa [fld_eq H hH 4] at this
    have D4 : Hid (∀ W, Calls Tryd.prog 15 #[.agg (cv (pxV 4 k 8) (pxM 4 8)), .agg (hv H)] W fun e w' => e = .returned (.bool (decide (k = fld H 4))) ∧ Below W.heap.size W w') := fun W => by
      have := has_any (pxV 4 k 8) (pxM 4 8) H (pxV_byt _ _ _) (pxM_byt _ _) hH W
      rwa [has_proto H hH k hk] at this
    have hfl : fld H 4 ≤ 255 := by have := fld_lt H hH 4; rw [size_4] at this; omega
    have hVl := (pxV_byt 4 k 8).1
    have hMl := (pxM_byt 4 8).1
    obtain ⟨V, hV⟩ : ∃ V, V = pxV 4 k 8 := ⟨_, rfl⟩
    obtain ⟨M, hM⟩ : ∃ M, M = pxM 4 8 := ⟨_, rfl⟩
    obtain ⟨g, hg⟩ : ∃ g, g = fld H 4 := ⟨_, rfl⟩
    rw [← hV, ← hM] at D1 D2 D4
    rw [← hV] at hVl
    rw [← hM] at hMl
    rw [← hg] at D3 D4 hfl
    have e1 : ∀ w, (Op.equalIn 10000 37 (.agg (cv V M)) (.agg (cv V M))).run Tryd.prog w = .ok true w := fun w => by rw [eqC _ _ _ _ hVl hMl hVl hMl]; simp
    clear hV hM hg hn hH hP
    go_enter Tryd.func5, Tryd.ntmps5
    go_wp2_with fail
    refine (awake_any _).mono ?_
    rintro e w1 ⟨rfl, hb1⟩
    have g1 : w1.heap[w.heap.size]? = some (.cells (hv H) 23 (0, 0)) := by rw [hb1.block _ (by simp)]; exact g00
    have B1 := B00.trans (hb1.mono B00.size)
    clear hb1
    go_wp2_with fail
    refine (D1.out _ (HP.out.later hpos B1)).mono ?_
    rintro e w2 ⟨rfl, hb2⟩
    have g2 : w2.heap[w.heap.size]? = some (.cells (hv H) 23 (0, 0)) := by rw [hb2.block _ (Array.getElem?_eq_some_iff.1 g1).1]; exact g1
    have B2 := B1.trans (hb2.mono B1.size)
    have g3 := heap_past w2 (.cells (cv V M) 37) _ _ g2
    have c3 := heap_new w2 (.cells (cv V M) 37) _ rfl
    have B3 := B2.alloc B2.size (.cells (cv V M) 37)
    clear hb2 g1 B1 g2
    go_wp2_with (first
      | (refine wl_storeC rfl _ _ rfl w2.heap.size V M rfl rfl _ (heap_new _ _ _ rfl) rfl hVl hMl _ (setRow_new _ _ _ _ _ rfl) ?_))
    refine (D2.out _).mono ?_
    rintro e w4 ⟨rfl, hb4⟩
    have g4 : w4.heap[w.heap.size]? = some (.cells (hv H) 23 (0, 0)) := by rw [hb4.block _ (Array.getElem?_eq_some_iff.1 g3).1]; exact g3
    have c4 : w4.heap[w2.heap.size]? = some (.cells (cv V M) 37 (0, 0)) := by rw [hb4.block _ (Array.getElem?_eq_some_iff.1 c3).1]; exact c3
    have B4 := B3.trans (hb4.mono B3.size)
    have g5 := heap_past w4 (.cells (cv V M) 37) _ _ g4
    have c5 := heap_past w4 (.cells (cv V M) 37) _ _ c4
    have d5 := heap_new w4 (.cells (cv V M) 37) _ rfl
    have B5 := B4.alloc B4.size (.cells (cv V M) 37)
    clear hb4 g3 c3 B3 g4 c4 B2
    go_wp2_with (first
      | (refine wl_storeC rfl _ _ rfl w4.heap.size V M rfl rfl _ (heap_new _ _ _ rfl) rfl hVl hMl _ (setRow_new _ _ _ _ _ rfl) ?_)
      | (refine wl_loadC rfl _ rfl w2.heap.size rfl V M c5 hVl hMl ?_)
      | (refine wl_loadC rfl _ rfl w4.heap.size rfl V M d5 hVl hMl ?_)
      | (refine wl_load26 rfl _ rfl w.heap.size rfl H g5 hHl ?_))
    refine (D3.out _).mono ?_
    rintro e w6 ⟨rfl, hb6⟩
    have g6 : w6.heap[w.heap.size]? = some (.cells (hv H) 23 (0, 0)) := by rw [hb6.block _ (Array.getElem?_eq_some_iff.1 g5).1]; exact g5
    have c6 : w6.heap[w2.heap.size]? = some (.cells (cv V M) 37 (0, 0)) := by rw [hb6.block _ (Array.getElem?_eq_some_iff.1 c5).1]; exact c5
    have B6 := B5.trans (hb6.mono B5.size)
    clear hb6 g5 c5 d5 B4 B5
    go_wp2_with (first
      | (refine wl_loadC rfl _ rfl w2.heap.size rfl V M c6 hVl hMl ?_)
      | (refine wl_load26 rfl _ rfl w.heap.size rfl H g6 hHl ?_))
    refine (D4.out _).mono ?_
    rintro e w7 ⟨rfl, hb7⟩
    go_wp2_with fail
    go_ret
    refine ⟨ret_bool ?_, B6.trans (hb7.mono B6.size)⟩
    rw [beq_iff_eq, Bool.eq_iff_iff, decide_eq_true_eq, beq_iff_eq]
    omega
  · have D1 : Hid (∀ W, Calls Tryd.prog 17 #[.int .i64 n] W fun e w' => e = .returned (.tuple #[.agg (cv Z Z), .int .i64 10]) ∧ Below W.heap.size W w') := fun W => proto_no n W hn
    have D2 : Hid (∀ W, Calls Tryd.prog 18 #[.int .i64 n] W fun e w' => e = .returned (.tuple #[.agg (cv Z Z), .int .i64 10]) ∧ Below W.heap.size W w') := fun W => rproto_no n W hn
    have hZl := Z_byt.1
    obtain ⟨V, hV⟩ : ∃ V, V = Z := ⟨_, rfl⟩
    rw [← hV] at D1 D2 hZl
    have e1 : ∀ w, (Op.equalIn 10000 37 (.agg (cv V V)) (.agg (cv V V))).run Tryd.prog w = .ok true w := fun w => by rw [eqC _ _ _ _ hZl hZl hZl hZl]; simp
    clear hn hV hH hP
    go_enter Tryd.func5, Tryd.ntmps5
    go_wp2_with fail
    refine (awake_any _).mono ?_
    rintro e w1 ⟨rfl, hb1⟩
    have B1 := B00.trans (hb1.mono B00.size)
    clear hb1
    go_wp2_with fail
    refine (D1.out _).mono ?_
    rintro e w2 ⟨rfl, hb2⟩
    have B2 := B1.trans (hb2.mono B1.size)
    have c3 := heap_new w2 (.cells (cv V V) 37) _ rfl
    have B3 := B2.alloc B2.size (.cells (cv V V) 37)
    clear hb2 B1
    go_wp2_with (first
      | (refine wl_storeC rfl _ _ rfl w2.heap.size V V rfl rfl _ (heap_new _ _ _ rfl) rfl hZl hZl _ (setRow_new _ _ _ _ _ rfl) ?_))
    refine (D2.out _).mono ?_
    rintro e w4 ⟨rfl, hb4⟩
    have c4 : w4.heap[w2.heap.size]? = some (.cells (cv V V) 37 (0, 0)) := by rw [hb4.block _ (Array.getElem?_eq_some_iff.1 c3).1]; exact c3
    have B4 := B3.trans (hb4.mono B3.size)
    have c5 := heap_past w4 (.cells (cv V V) 37) _ _ c4
    have d5 := heap_new w4 (.cells (cv V V) 37) _ rfl
    have B5 := B4.alloc B4.size (.cells (cv V V) 37)
    clear hb4 c3 B3 c4 B2
    go_wp2_with (first
      | (refine wl_storeC rfl _ _ rfl w4.heap.size V V rfl rfl _ (heap_new _ _ _ rfl) rfl hZl hZl _ (setRow_new _ _ _ _ _ rfl) ?_)
      | (refine wl_loadC rfl _ rfl w2.heap.size rfl V V c5 hZl hZl ?_)
      | (refine wl_loadC rfl _ rfl w4.heap.size rfl V V d5 hZl hZl ?_))
    go_ret
    exact ⟨rfl, B5⟩
end Go.Proofs.YtplnlmkmaapbaaaDoor
