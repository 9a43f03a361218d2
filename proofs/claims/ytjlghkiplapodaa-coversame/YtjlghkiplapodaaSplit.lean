import Derived.Test.YtjlghkiplapodaaTwo
namespace Go.Proofs.Ytjlghkiplapodaa
open Go Go.RowKit

/-- The end of a function whose results are two cubes in memory, and a plain one. -/
theorem retCCe {fn : Func} {R : Ending → World → Prop} {a : Act} {w : World} {p q u : Tmp} (hr : fn.results = #[.cell p 30, .cell q 30, .tmp u]) (hd : a.defers = []) (g g' : Nat) (hp : a.tmps.getD p undef = .pointer (some ⟨g, 0, none⟩)) (hq : a.tmps.getD q undef = .pointer (some ⟨g', 0, none⟩)) (V M V' M' : List Int) (hV : V.length = 13) (hM : M.length = 13) (hV' : V'.length = 13) (hM' : M'.length = 13)
    (hg : w.heap[g]? = some (.cells (cv V M) 30 (0, 0))) (hg' : w.heap[g']? = some (.cells (cv V' M') 30 (0, 0))) (v : Value) (hu : a.tmps.getD u undef = v) (h : R (.returned (.tuple #[.agg (cv V M), .agg (cv V' M'), v])) w) : bodyPost Try.prog fn R .ret a w := by
  refine bodyPost_ret (v := .tuple #[.agg (cv V M), .agg (cv V' M'), v]) ?_ hd h
  simp only [results, hr]
  have hp' : a.tmps[p]?.getD undef = .pointer (some ⟨g, 0, none⟩) := by simpa using hp
  have hq' : a.tmps[q]?.getD undef = .pointer (some ⟨g', 0, none⟩) := by simpa using hq
  have hu' : a.tmps[u]?.getD undef = v := by simpa using hu
  simp [Sem.run_bind, hp', hq', hu', asAddr, run_loadVar_row w g 30 30 (cv V M) (0, 0) _ hg Try.underlying30 rfl (sizeC V M hV hM), run_loadVar_row w g' 30 30 (cv V' M') (0, 0) _ hg' Try.underlying30 rfl (sizeC V' M' hV' hM')]

/-- There is no such bit. -/
theorem split_no (V M : List Int) (i : Int) (hi : ¬ (0 ≤ i ∧ i < 104)) (w : World) :
    Calls Try.prog 24 #[.agg (cv V M), .int .i64 i] w fun e w' => e = .returned (.tuple #[.agg (cv Z Z), .agg (cv Z Z), .int .i64 3]) ∧ Below w.heap.size w w' := by
  go_enter Try.func24, Try.ntmps24
  have HI : Hid (¬ (0 ≤ i ∧ i < 104)) := hi
  have g1 : (((w.alloc (.cells (cv V M) 30)).alloc (.cells zeroC 30)).alloc (.cells zeroC 30)).heap[w.heap.size + 1]? = some (.cells zeroC 30 (0, 0)) := heap_past _ _ _ _ (heap_new _ _ _ (by simp))
  have g2 : (((w.alloc (.cells (cv V M) 30)).alloc (.cells zeroC 30)).alloc (.cells zeroC 30)).heap[w.heap.size + 2]? = some (.cells zeroC 30 (0, 0)) := heap_new _ _ _ (by simp)
  have hb : Below w.heap.size w (((w.alloc (.cells (cv V M) 30)).alloc (.cells zeroC 30)).alloc (.cells zeroC 30)) := (((Below.refl _ _).alloc (Nat.le_refl _) _).alloc (by simp) _).alloc (by simp; omega) _
  clear hi
  have h1 := (setRow_heap _ _ _ (cv Z Z) _ _ g1)
  have h2 := (setRow_other _ (w.heap.size + 1) (w.heap.size + 2) (cv Z Z) (by omega)).trans g2
  have k1 := (setRow_other _ (w.heap.size + 2) (w.heap.size + 1) (cv Z Z) (by omega)).trans h1
  have k2 := (setRow_heap _ _ _ (cv Z Z) _ _ h2)
  go_wp2_with (first
    | (go_at_call 40; refine (cisBit_no _ _ HI.out).mono ?_; rintro e w' ⟨rfl, rfl⟩)
    | (refine wl_storeC rfl _ _ rfl (w.heap.size + 1) Z Z rfl (by rw [← zeroC_eq]; rfl) _ g1 rfl Z_byt.1 Z_byt.1 _ rfl ?_)
    | (refine wl_storeC rfl _ _ rfl (w.heap.size + 2) Z Z rfl (by rw [← zeroC_eq]; rfl) _ h2 rfl Z_byt.1 Z_byt.1 _ rfl ?_))
  refine retCCe (p := 4) (q := 5) (u := 6) rfl rfl (w.heap.size + 1) (w.heap.size + 2) rfl rfl Z Z Z Z Z_byt.1 Z_byt.1 Z_byt.1 Z_byt.1 k1 k2 _ rfl ⟨rfl, ?_⟩
  exact below_setRow (below_setRow hb (by omega) _) (by omega) _

set_option maxHeartbeats 2000000 in
/-- The bit is fixed. -/
theorem split_fixed (V M : List Int) (hVl : V.length = 13) (hM : Byt M) (i : Nat) (hi : i < 104) (h : bt M i = true) (w : World) :
    Calls Try.prog 24 #[.agg (cv V M), .int .i64 (i : Int)] w fun e w' => e = .returned (.tuple #[.agg (cv Z Z), .agg (cv Z Z), .int .i64 3]) ∧ Below w.heap.size w w' := by
  have hMl := hM.1
  have C1 : Hid (∀ W, Calls Try.prog 41 #[.agg (hv M), .int .i64 (i : Int)] W fun e w' => e = .returned (.bool true) ∧ Below W.heap.size W w') := by
    have := hbit_nat M hM i hi; rwa [h] at this
  clear hM h
  go_enter Try.func24, Try.ntmps24
  have g0 : (((w.alloc (.cells (cv V M) 30)).alloc (.cells zeroC 30)).alloc (.cells zeroC 30)).heap[w.heap.size]? = some (.cells (cv V M) 30 (0, 0)) := heap_past _ _ _ _ (heap_past _ _ _ _ (heap_new _ _ _ rfl))
  have g1 : (((w.alloc (.cells (cv V M) 30)).alloc (.cells zeroC 30)).alloc (.cells zeroC 30)).heap[w.heap.size + 1]? = some (.cells zeroC 30 (0, 0)) := heap_past _ _ _ _ (heap_new _ _ _ (by simp))
  have g2 : (((w.alloc (.cells (cv V M) 30)).alloc (.cells zeroC 30)).alloc (.cells zeroC 30)).heap[w.heap.size + 2]? = some (.cells zeroC 30 (0, 0)) := heap_new _ _ _ (by simp)
  have hb : Below w.heap.size w (((w.alloc (.cells (cv V M) 30)).alloc (.cells zeroC 30)).alloc (.cells zeroC 30)) := (((Below.refl _ _).alloc (Nat.le_refl _) _).alloc (by simp) _).alloc (by simp; omega) _
  go_wp2_with (first
    | (go_at_call 40; refine (cisBit_yes _ _ (by omega) (by omega)).mono ?_; rintro e w' ⟨rfl, rfl⟩)
    | (refine wl_loadM rfl _ rfl w.heap.size rfl V M g0 hVl hMl ?_))
  refine (C1.out _).mono ?_
  rintro e w1 ⟨rfl, hb1⟩
  have m1 : w1.heap[w.heap.size + 1]? = some (.cells zeroC 30 (0, 0)) := by rw [hb1.block _ (by simp)]; exact g1
  have m2 : w1.heap[w.heap.size + 2]? = some (.cells zeroC 30 (0, 0)) := by rw [hb1.block _ (by simp)]; exact g2
  have hB1 := hb.trans (hb1.mono hb.size)
  clear g0 g1 g2 hb hb1 C1
  have h1 := (setRow_heap _ _ _ (cv Z Z) _ _ m1)
  have h2 := (setRow_other _ (w.heap.size + 1) (w.heap.size + 2) (cv Z Z) (by omega)).trans m2
  have k1 := (setRow_other _ (w.heap.size + 2) (w.heap.size + 1) (cv Z Z) (by omega)).trans h1
  have k2 := (setRow_heap _ _ _ (cv Z Z) _ _ h2)
  go_wp2_with (first
    | (refine wl_storeC rfl _ _ rfl (w.heap.size + 1) Z Z rfl (by rw [← zeroC_eq]; rfl) _ m1 rfl Z_byt.1 Z_byt.1 _ rfl ?_)
    | (refine wl_storeC rfl _ _ rfl (w.heap.size + 2) Z Z rfl (by rw [← zeroC_eq]; rfl) _ h2 rfl Z_byt.1 Z_byt.1 _ rfl ?_))
  refine retCCe (p := 4) (q := 5) (u := 6) rfl rfl (w.heap.size + 1) (w.heap.size + 2) rfl rfl Z Z Z Z Z_byt.1 Z_byt.1 Z_byt.1 Z_byt.1 k1 k2 _ rfl ⟨rfl, ?_⟩
  exact below_setRow (below_setRow hB1 (by omega) _) (by omega) _

set_option maxHeartbeats 4000000 in
/-- The bit is free. -/
theorem split_free (V M : List Int) (hV : Byt V) (hM : Byt M) (i : Nat) (hi : i < 104) (h : bt M i = false) (w : World) :
    Calls Try.prog 24 #[.agg (cv V M), .int .i64 (i : Int)] w fun e w' => e = .returned (.tuple #[.agg (cv (fixV V M i false) (fixM M i)), .agg (cv (fixV V M i true) (fixM M i)), .int .i64 0]) ∧ Below w.heap.size w w' := by
  have hVl := hV.1
  have hMl := hM.1
  have hFl : (fixM M i).length = 13 := (setb_byt M i true).1
  have hAl : (fixV V M i false).length = 13 := (setb_byt _ i false).1
  have hBl : (fixV V M i true).length = 13 := (setb_byt _ i true).1
  have C1 : Hid (∀ W, Calls Try.prog 41 #[.agg (hv M), .int .i64 (i : Int)] W fun e w' => e = .returned (.bool false) ∧ Below W.heap.size W w') := by
    have := hbit_nat M hM i hi; rwa [h] at this
  have C2 : Hid (∀ W, Calls Try.prog 42 #[.agg (cv V M), .int .i64 (i : Int), .bool false] W fun e w' => e = .returned (.tuple #[.agg (cv (fixV V M i false) (fixM M i)), .int .i64 0]) ∧ Below W.heap.size W w') := fix_in V M hV hM i false hi
  have C3 : Hid (∀ W, Calls Try.prog 42 #[.agg (cv V M), .int .i64 (i : Int), .bool true] W fun e w' => e = .returned (.tuple #[.agg (cv (fixV V M i true) (fixM M i)), .int .i64 0]) ∧ Below W.heap.size W w') := fix_in V M hV hM i true hi
  clear hV hM h
  go_enter Try.func24, Try.ntmps24
  have g0 : (((w.alloc (.cells (cv V M) 30)).alloc (.cells zeroC 30)).alloc (.cells zeroC 30)).heap[w.heap.size]? = some (.cells (cv V M) 30 (0, 0)) := heap_past _ _ _ _ (heap_past _ _ _ _ (heap_new _ _ _ rfl))
  have g1 : (((w.alloc (.cells (cv V M) 30)).alloc (.cells zeroC 30)).alloc (.cells zeroC 30)).heap[w.heap.size + 1]? = some (.cells zeroC 30 (0, 0)) := heap_past _ _ _ _ (heap_new _ _ _ (by simp))
  have g2 : (((w.alloc (.cells (cv V M) 30)).alloc (.cells zeroC 30)).alloc (.cells zeroC 30)).heap[w.heap.size + 2]? = some (.cells zeroC 30 (0, 0)) := heap_new _ _ _ (by simp)
  have hb : Below w.heap.size w (((w.alloc (.cells (cv V M) 30)).alloc (.cells zeroC 30)).alloc (.cells zeroC 30)) := (((Below.refl _ _).alloc (Nat.le_refl _) _).alloc (by simp) _).alloc (by simp; omega) _
  go_wp2_with (first
    | (go_at_call 40; refine (cisBit_yes _ _ (by omega) (by omega)).mono ?_; rintro e w' ⟨rfl, rfl⟩)
    | (refine wl_loadM rfl _ rfl w.heap.size rfl V M g0 hVl hMl ?_))
  refine (C1.out _).mono ?_
  rintro e w1 ⟨rfl, hb1⟩
  have m0 : w1.heap[w.heap.size]? = some (.cells (cv V M) 30 (0, 0)) := by rw [hb1.block _ (by simp; omega)]; exact g0
  have m1 : w1.heap[w.heap.size + 1]? = some (.cells zeroC 30 (0, 0)) := by rw [hb1.block _ (by simp)]; exact g1
  have m2 : w1.heap[w.heap.size + 2]? = some (.cells zeroC 30 (0, 0)) := by rw [hb1.block _ (by simp)]; exact g2
  have hz1 : w.heap.size + 3 ≤ w1.heap.size := Nat.le_trans (by simp) hb1.size
  have hB1 := hb.trans (hb1.mono hb.size)
  clear g0 g1 g2 hb hb1 C1
  go_wp2_with (first
    | (refine wl_loadC rfl _ rfl w.heap.size rfl V M m0 hVl hMl ?_))
  refine (C2.out _).mono ?_
  rintro e w2 ⟨rfl, hb2⟩
  have n0 : w2.heap[w.heap.size]? = some (.cells (cv V M) 30 (0, 0)) := by rw [hb2.block _ (by omega)]; exact m0
  have n1 : w2.heap[w.heap.size + 1]? = some (.cells zeroC 30 (0, 0)) := by rw [hb2.block _ (by omega)]; exact m1
  have n2 : w2.heap[w.heap.size + 2]? = some (.cells zeroC 30 (0, 0)) := by rw [hb2.block _ (by omega)]; exact m2
  have hz2 : w.heap.size + 3 ≤ w2.heap.size := Nat.le_trans hz1 hb2.size
  have hB2 := hB1.trans (hb2.mono hB1.size)
  clear m0 m1 m2 hB1 hb2 hz1 C2
  have p0 := heap_past w2 (.cells (cv (fixV V M i false) (fixM M i)) 30) _ _ n0
  have p1 := heap_past w2 (.cells (cv (fixV V M i false) (fixM M i)) 30) _ _ n1
  have p2 := heap_past w2 (.cells (cv (fixV V M i false) (fixM M i)) 30) _ _ n2
  have p3 := heap_new w2 (.cells (cv (fixV V M i false) (fixM M i)) 30) _ rfl
  have hB3 := hB2.alloc (by omega) (.cells (cv (fixV V M i false) (fixM M i)) 30)
  have hz3 : w.heap.size + 3 ≤ (w2.alloc (.cells (cv (fixV V M i false) (fixM M i)) 30)).heap.size := by simp; omega
  go_wp2_with (first
    | (refine wl_storeC rfl _ _ rfl w2.heap.size (fixV V M i false) (fixM M i) rfl rfl _ (heap_new _ _ _ rfl) rfl hAl hFl _ (setRow_new _ _ _ _ _ rfl) ?_)
    | (refine wl_loadC rfl _ rfl w.heap.size rfl V M p0 hVl hMl ?_))
  refine (C3.out _).mono ?_
  rintro e w3 ⟨rfl, hb3⟩
  have q1 : w3.heap[w.heap.size + 1]? = some (.cells zeroC 30 (0, 0)) := by rw [hb3.block _ (by omega)]; exact p1
  have q2 : w3.heap[w.heap.size + 2]? = some (.cells zeroC 30 (0, 0)) := by rw [hb3.block _ (by omega)]; exact p2
  have q3 : w3.heap[w2.heap.size]? = some (.cells (cv (fixV V M i false) (fixM M i)) 30 (0, 0)) := by rw [hb3.block _ (by simp)]; exact p3
  have hz4 : w.heap.size + 3 ≤ w3.heap.size := Nat.le_trans hz3 hb3.size
  have hB4 := hB3.trans (hb3.mono hB3.size)
  clear n0 n1 n2 hB2 p0 p1 p2 p3 hB3 hb3 hz3 C3
  have r1 := heap_past w3 (.cells (cv (fixV V M i true) (fixM M i)) 30) _ _ q1
  have r2 := heap_past w3 (.cells (cv (fixV V M i true) (fixM M i)) 30) _ _ q2
  have r3 := heap_past w3 (.cells (cv (fixV V M i true) (fixM M i)) 30) _ _ q3
  have r4 := heap_new w3 (.cells (cv (fixV V M i true) (fixM M i)) 30) _ rfl
  have hB5 := hB4.alloc (by omega) (.cells (cv (fixV V M i true) (fixM M i)) 30)
  obtain ⟨W, hW⟩ : ∃ W, W = w3.alloc (.cells (cv (fixV V M i true) (fixM M i)) 30) := ⟨_, rfl⟩
  go_wp2_with (first
    | (refine wl_storeC rfl _ _ rfl w3.heap.size (fixV V M i true) (fixM M i) rfl rfl _ (heap_new _ _ _ rfl) rfl hBl hFl _ (setRow_new _ _ _ _ _ rfl) ?_))
  rw [← hW] at r1 r2 r3 r4 hB5 ⊢
  clear hW q1 q2 q3 hB4
  have s1 := heap_drew r1
  have s2 := heap_drew r2
  have s3 := heap_drew r3
  have s4 := heap_drew r4
  have hB6 := hB5.drew
  clear r1 r2 r3 r4 hB5
  have h1 := (setRow_heap _ _ _ (cv (fixV V M i false) (fixM M i)) _ _ s1)
  have h2 := (setRow_other _ (w.heap.size + 1) (w.heap.size + 2) (cv (fixV V M i false) (fixM M i)) (by omega)).trans s2
  have h4 := (setRow_other _ (w.heap.size + 1) w3.heap.size (cv (fixV V M i false) (fixM M i)) (by omega)).trans s4
  have k1 := (setRow_other _ (w.heap.size + 2) (w.heap.size + 1) (cv (fixV V M i true) (fixM M i)) (by omega)).trans h1
  have k2 := (setRow_heap _ _ _ (cv (fixV V M i true) (fixM M i)) _ _ h2)
  refine wp_region_two (v0 := .agg (cv (fixV V M i false) (fixM M i))) (v1 := .agg (cv (fixV V M i true) (fixM M i))) (w' := W.drew.setRow (w.heap.size + 1) (cv (fixV V M i false) (fixM M i))) (by kernel_rfl) (by kernel_rfl) rfl rfl rfl rfl
    (run_loadC _ _ _ _ rfl w2.heap.size rfl _ _ s3 hAl hFl) (run_loadC _ _ _ _ rfl w2.heap.size rfl _ _ s3 hAl hFl) (run_loadC _ _ _ _ rfl w3.heap.size rfl _ _ s4 hBl hFl) (run_loadC _ _ _ _ rfl w3.heap.size rfl _ _ s4 hBl hFl) (run_loadC _ _ _ _ rfl w3.heap.size rfl _ _ h4 hBl hFl)
    (run_storeC _ _ _ _ _ rfl (w.heap.size + 1) _ _ rfl rfl _ s1 rfl hAl hFl) (run_storeC _ _ _ _ _ rfl (w.heap.size + 1) _ _ rfl rfl _ s1 rfl hAl hFl) rfl ?_
  simp only [Act.put, List.setIfInBounds_toArray, List.set_cons_succ, List.set_cons_zero]
  go_wp2_with (first
    | (refine wl_storeC rfl _ _ rfl (w.heap.size + 2) _ _ rfl rfl _ h2 rfl hBl hFl _ rfl ?_))
  refine retCCe (p := 4) (q := 5) (u := 6) rfl rfl (w.heap.size + 1) (w.heap.size + 2) rfl rfl _ _ _ _ hAl hFl hBl hFl k1 k2 _ rfl ⟨rfl, ?_⟩
  exact below_setRow (below_setRow hB6 (by omega) _) (by omega) _
end Go.Proofs.Ytjlghkiplapodaa
