import Derived.Test.YthekoeinnillpaaRefCanon
namespace Go.Proofs.Ythekoeinnillpaa
open Go Go.RowKit

theorem wl_zeroCg {ops : Array Oper} {rest : List Oper} {o : Oper} {a : Act} {w : World} {Q : Exit → Act → World → Prop} (hw : Region.wanted o (yielded ops a.tmps) = true) (ho : o.op = .build 25 #[])
    (h : wpList Try.prog ops Q rest (a.put o.dst (.agg (cv Z Z))) w) : wpList Try.prog ops Q (o :: rest) a w := by
  refine wpList_step fun K hK => ?_
  rw [if_pos hw]
  unfold Oper.wp execOp
  have e : ((#[] : Array (Nat × Operand)).map (fun (i, x) => (i, a.eval x))) = #[] := by simp
  have hb : (Instr.build 25 #[]).run Try.prog w = .ok (.agg (cv Z Z)) w := by
    rw [← zeroC_eq]; kernel_rfl
  simp only [ho, Sem.run_bind]
  rw [e, hb]
  exact hK _ _ h

theorem loo_eq (V M : List Int) (i : Nat) : setb (can V M) i false = looV V M i := by
  unfold looV
  refine bt_ext _ _ (setb_byt _ _ _) (can_byt _ _) fun k hk => ?_
  rw [setb_bt _ _ _ k hk, can_bt _ _ k hk, can_bt _ _ k hk]
  unfold looM
  rw [setb_bt _ _ _ k hk]
  by_cases h : k = i
  · rw [if_pos h, if_pos h, Bool.and_false]
  · rw [if_neg h, if_neg h]
theorem has_fix (V M H : List Int) (i : Nat) (b : Bool) (hi : i < 104) (hf : bt M i = false) : has (fixV V M i b) (fixM M i) H = (has V M H && (bt H i == b)) := by
  have e1 : ∀ k, k < 104 → bt (fixV V M i b) k = if k = i then b else (bt V k && bt M k) := fun k hk => by
    have := setb_bt (can V M) i b k hk; rw [can_bt _ _ k hk] at this; exact this
  have e2 : ∀ k, k < 104 → bt (fixM M i) k = if k = i then true else bt M k := fun k hk => setb_bt M i true k hk
  rw [Bool.eq_iff_iff, Bool.and_eq_true, has_iff, has_iff, beq_iff_eq]
  constructor
  · intro g
    constructor
    · intro k hk hm
      have hki : k ≠ i := by rintro rfl; rw [hf] at hm; cases hm
      have := g k hk (by rw [e2 k hk, if_neg hki]; exact hm)
      rwa [e1 k hk, if_neg hki, hm, Bool.and_true] at this
    · have := g i hi (by rw [e2 i hi, if_pos rfl])
      rw [e1 i hi, if_pos rfl] at this
      exact this.symm
  · rintro ⟨g1, g2⟩ k hk hm
    rw [e1 k hk]
    rw [e2 k hk] at hm
    by_cases h : k = i
    · rw [if_pos h, h, g2]
    · rw [if_neg h] at hm ⊢
      rw [hm, Bool.and_true]; exact g1 k hk hm

set_option maxHeartbeats 8000000 in
set_option maxRecDepth 100000 in
theorem fixes_lo (V M H : List Int) (i : Int) (one : Bool) (hi : i < 0) (hVl : V.length = 13) (hMl : M.length = 13)
    (c1 : ∀ W, Calls Try.prog 25 #[.agg (cv V M), .int .i64 i, .bool one] W fun e w' => e = .returned (.tuple #[.agg (cv Z Z), .int .i64 3]) ∧ Below W.heap.size W w')
    (c2 : ∀ W, Calls Try.prog 26 #[.agg (cv V M), .int .i64 i] W fun e w' => e = .returned (.tuple #[.agg (cv Z Z), .int .i64 3]) ∧ Below W.heap.size W w')
    (c3 : ∀ W, Calls Try.prog 27 #[.agg (cv V M), .int .i64 i] W fun e w' => e = .returned (.tuple #[.agg (cv Z Z), .agg (cv Z Z), .int .i64 3]) ∧ Below W.heap.size W w')
    (w : World) : Calls Try.prog 8 #[.agg (cv V M), .int .i64 i, .bool one, .agg (hv H)] w fun e w' => e = .returned (.bool true) ∧ Below w.heap.size w w' := by
  have C1 : Hid (∀ W, Calls Try.prog 25 #[.agg (cv V M), .int .i64 i, .bool one] W fun e w' => e = .returned (.tuple #[.agg (cv Z Z), .int .i64 3]) ∧ Below W.heap.size W w') := c1
  have C2 : Hid (∀ W, Calls Try.prog 26 #[.agg (cv V M), .int .i64 i] W fun e w' => e = .returned (.tuple #[.agg (cv Z Z), .int .i64 3]) ∧ Below W.heap.size W w') := c2
  have C3 : Hid (∀ W, Calls Try.prog 27 #[.agg (cv V M), .int .i64 i] W fun e w' => e = .returned (.tuple #[.agg (cv Z Z), .agg (cv Z Z), .int .i64 3]) ∧ Below W.heap.size W w') := c3
  have e1 : ∀ w, (Op.equalIn 10000 25 (.agg (cv Z Z)) (.agg (cv Z Z))).run Try.prog w = .ok true w := fun w => by rw [eqC _ _ _ _ Z_byt.1 Z_byt.1 Z_byt.1 Z_byt.1]; simp
  have eg : ∀ op x y (xs ys : Array Value) w, (eqGuard op 25 x y (.agg xs) (.agg ys)).run Try.prog w = .ok () w := egC
  have hzl := Z_byt.1
  clear c1 c2 c3
  go_enter Try.func8, Try.ntmps8
  go_wp2_with fail
  refine (awake_any _).mono ?_
  rintro e w1 ⟨rfl, hb1⟩
  have g0 : w1.heap[w.heap.size]? = some (.cells (cv V M) 25 (0, 0)) := by rw [hb1.block _ (by simp; omega)]; exact heap_past _ _ _ _ (heap_new _ _ _ rfl)
  have g1 : w1.heap[w.heap.size + 1]? = some (.cells (hv H) 23 (0, 0)) := by rw [hb1.block _ (by simp)]; exact heap_new _ _ _ (by simp)
  have B1 : Below w.heap.size w w1 := (((Below.refl _ _).alloc (Nat.le_refl _) _).alloc (by simp) _).trans (hb1.mono (by simp; omega))
  have z1 : w.heap.size + 2 ≤ w1.heap.size := Nat.le_trans (by simp) hb1.size
  clear hb1
  go_wp2_with (first
    | (refine wl_loadC rfl _ rfl w.heap.size rfl V M g0 hVl hMl ?_))
  refine (C1.out _).mono ?_
  rintro e w2 ⟨rfl, hb2⟩
  have k0 : w2.heap[w.heap.size]? = some (.cells (cv V M) 25 (0, 0)) := by rw [hb2.block _ (by omega)]; exact g0
  have k1 : w2.heap[w.heap.size + 1]? = some (.cells (hv H) 23 (0, 0)) := by rw [hb2.block _ (by omega)]; exact g1
  have B2 := B1.trans (hb2.mono B1.size)
  have z2 : w.heap.size + 2 ≤ w2.heap.size := Nat.le_trans z1 hb2.size
  clear g0 g1 B1 z1 hb2 C1
  have l0 := heap_past w2 (.cells (cv Z Z) 25) _ _ k0
  have l1 := heap_past w2 (.cells (cv Z Z) 25) _ _ k1
  have l2 := heap_new w2 (.cells (cv Z Z) 25) _ rfl
  have B3 := B2.alloc B2.size (.cells (cv Z Z) 25)
  go_wp2_with (first
    | (refine wl_storeC rfl _ _ rfl w2.heap.size Z Z rfl rfl _ (heap_new _ _ _ rfl) rfl Z_byt.1 Z_byt.1 _ (setRow_new _ _ _ _ _ rfl) ?_)
    | (refine wl_loadC rfl _ rfl w.heap.size rfl V M l0 hVl hMl ?_))
  refine (C2.out _).mono ?_
  rintro e w3 ⟨rfl, hb3⟩
  have m0 : w3.heap[w.heap.size]? = some (.cells (cv V M) 25 (0, 0)) := by rw [hb3.block _ (by simp; omega)]; exact l0
  have m1 : w3.heap[w.heap.size + 1]? = some (.cells (hv H) 23 (0, 0)) := by rw [hb3.block _ (by simp; omega)]; exact l1
  have m2 : w3.heap[w2.heap.size]? = some (.cells (cv Z Z) 25 (0, 0)) := by rw [hb3.block _ (by simp)]; exact l2
  have B4 := B3.trans (hb3.mono B3.size)
  have z4 : w2.heap.size + 1 ≤ w3.heap.size := Nat.le_trans (by simp) hb3.size
  clear k0 k1 B2 l0 l1 l2 B3 hb3 C2
  have p0 := heap_past w3 (.cells (cv Z Z) 25) _ _ m0
  have p1 := heap_past w3 (.cells (cv Z Z) 25) _ _ m1
  have p2 := heap_past w3 (.cells (cv Z Z) 25) _ _ m2
  have p3 := heap_new w3 (.cells (cv Z Z) 25) _ rfl
  have B5 := B4.alloc B4.size (.cells (cv Z Z) 25)
  go_wp2_with (first
    | (refine wl_storeC rfl _ _ rfl w3.heap.size Z Z rfl rfl _ (heap_new _ _ _ rfl) rfl Z_byt.1 Z_byt.1 _ (setRow_new _ _ _ _ _ rfl) ?_)
    | (refine wl_loadC rfl _ rfl w.heap.size rfl V M p0 hVl hMl ?_))
  refine (C3.out _).mono ?_
  rintro e w4 ⟨rfl, hb4⟩
  have q0 : w4.heap[w.heap.size]? = some (.cells (cv V M) 25 (0, 0)) := by rw [hb4.block _ (by simp; omega)]; exact p0
  have q1 : w4.heap[w.heap.size + 1]? = some (.cells (hv H) 23 (0, 0)) := by rw [hb4.block _ (by simp; omega)]; exact p1
  have q2 : w4.heap[w2.heap.size]? = some (.cells (cv Z Z) 25 (0, 0)) := by rw [hb4.block _ (by simp; omega)]; exact p2
  have q3 : w4.heap[w3.heap.size]? = some (.cells (cv Z Z) 25 (0, 0)) := by rw [hb4.block _ (by simp)]; exact p3
  have B6 := B5.trans (hb4.mono B5.size)
  clear m0 m1 m2 B4 p0 p1 p2 p3 B5 hb4 C3
  have n0 := heap_past (w4.alloc (.cells (cv Z Z) 25)) (.cells (cv Z Z) 25) _ _ (heap_past w4 (.cells (cv Z Z) 25) _ _ q0)
  have n1 := heap_past (w4.alloc (.cells (cv Z Z) 25)) (.cells (cv Z Z) 25) _ _ (heap_past w4 (.cells (cv Z Z) 25) _ _ q1)
  have n2 := heap_past (w4.alloc (.cells (cv Z Z) 25)) (.cells (cv Z Z) 25) _ _ (heap_past w4 (.cells (cv Z Z) 25) _ _ q2)
  have n3 := heap_past (w4.alloc (.cells (cv Z Z) 25)) (.cells (cv Z Z) 25) _ _ (heap_past w4 (.cells (cv Z Z) 25) _ _ q3)
  have n4 := heap_past (w4.alloc (.cells (cv Z Z) 25)) (.cells (cv Z Z) 25) _ _ (heap_new w4 (.cells (cv Z Z) 25) _ rfl)
  have n5 := heap_new (w4.alloc (.cells (cv Z Z) 25)) (.cells (cv Z Z) 25) (w4.heap.size + 1) (by simp)
  have B7 := (B6.alloc B6.size (.cells (cv Z Z) 25)).alloc (by simp; exact Nat.le_trans B6.size (by omega)) (.cells (cv Z Z) 25)
  clear q0 q1 q2 q3
  go_wp2_with (first
    | (refine wl_storeC rfl _ _ rfl w4.heap.size Z Z rfl rfl _ (heap_past _ _ _ _ (heap_new _ _ _ rfl)) rfl Z_byt.1 Z_byt.1 _ (by rw [setRow_past _ _ _ _ (by simp), setRow_new _ _ _ _ _ rfl]) ?_)
    | (refine wl_storeC rfl _ _ rfl (w4.heap.size + 1) Z Z rfl rfl _ (heap_new _ _ _ (by simp)) rfl Z_byt.1 Z_byt.1 _ (setRow_new _ _ _ _ _ (by simp)) ?_)
    | (refine wl_zeroCg rfl rfl ?_)
    | (refine wl_loadCg rfl _ rfl w2.heap.size rfl Z Z n2 hzl hzl ?_)
    | (refine wl_loadCg rfl _ rfl w3.heap.size rfl Z Z n3 hzl hzl ?_)
    | (refine wl_loadCg rfl _ rfl w4.heap.size rfl Z Z n4 hzl hzl ?_)
    | (refine wl_loadCg rfl _ rfl (w4.heap.size + 1) rfl Z Z n5 hzl hzl ?_))
  go_ret
  exact ⟨rfl, B7⟩

set_option maxHeartbeats 8000000 in
set_option maxRecDepth 100000 in
theorem fixes_hi (V M H : List Int) (i : Int) (one : Bool) (h0 : 0 ≤ i) (h1 : 104 ≤ i) (hVl : V.length = 13) (hMl : M.length = 13)
    (c1 : ∀ W, Calls Try.prog 25 #[.agg (cv V M), .int .i64 i, .bool one] W fun e w' => e = .returned (.tuple #[.agg (cv Z Z), .int .i64 3]) ∧ Below W.heap.size W w')
    (c2 : ∀ W, Calls Try.prog 26 #[.agg (cv V M), .int .i64 i] W fun e w' => e = .returned (.tuple #[.agg (cv Z Z), .int .i64 3]) ∧ Below W.heap.size W w')
    (c3 : ∀ W, Calls Try.prog 27 #[.agg (cv V M), .int .i64 i] W fun e w' => e = .returned (.tuple #[.agg (cv Z Z), .agg (cv Z Z), .int .i64 3]) ∧ Below W.heap.size W w')
    (w : World) : Calls Try.prog 8 #[.agg (cv V M), .int .i64 i, .bool one, .agg (hv H)] w fun e w' => e = .returned (.bool true) ∧ Below w.heap.size w w' := by
  have C1 : Hid (∀ W, Calls Try.prog 25 #[.agg (cv V M), .int .i64 i, .bool one] W fun e w' => e = .returned (.tuple #[.agg (cv Z Z), .int .i64 3]) ∧ Below W.heap.size W w') := c1
  have C2 : Hid (∀ W, Calls Try.prog 26 #[.agg (cv V M), .int .i64 i] W fun e w' => e = .returned (.tuple #[.agg (cv Z Z), .int .i64 3]) ∧ Below W.heap.size W w') := c2
  have C3 : Hid (∀ W, Calls Try.prog 27 #[.agg (cv V M), .int .i64 i] W fun e w' => e = .returned (.tuple #[.agg (cv Z Z), .agg (cv Z Z), .int .i64 3]) ∧ Below W.heap.size W w') := c3
  have e1 : ∀ w, (Op.equalIn 10000 25 (.agg (cv Z Z)) (.agg (cv Z Z))).run Try.prog w = .ok true w := fun w => by rw [eqC _ _ _ _ Z_byt.1 Z_byt.1 Z_byt.1 Z_byt.1]; simp
  have eg : ∀ op x y (xs ys : Array Value) w, (eqGuard op 25 x y (.agg xs) (.agg ys)).run Try.prog w = .ok () w := egC
  have hzl := Z_byt.1
  clear c1 c2 c3
  go_enter Try.func8, Try.ntmps8
  go_wp2_with fail
  refine (awake_any _).mono ?_
  rintro e w1 ⟨rfl, hb1⟩
  have g0 : w1.heap[w.heap.size]? = some (.cells (cv V M) 25 (0, 0)) := by rw [hb1.block _ (by simp; omega)]; exact heap_past _ _ _ _ (heap_new _ _ _ rfl)
  have g1 : w1.heap[w.heap.size + 1]? = some (.cells (hv H) 23 (0, 0)) := by rw [hb1.block _ (by simp)]; exact heap_new _ _ _ (by simp)
  have B1 : Below w.heap.size w w1 := (((Below.refl _ _).alloc (Nat.le_refl _) _).alloc (by simp) _).trans (hb1.mono (by simp; omega))
  have z1 : w.heap.size + 2 ≤ w1.heap.size := Nat.le_trans (by simp) hb1.size
  clear hb1
  go_wp2_with (first
    | (refine wl_loadC rfl _ rfl w.heap.size rfl V M g0 hVl hMl ?_))
  refine (C1.out _).mono ?_
  rintro e w2 ⟨rfl, hb2⟩
  have k0 : w2.heap[w.heap.size]? = some (.cells (cv V M) 25 (0, 0)) := by rw [hb2.block _ (by omega)]; exact g0
  have k1 : w2.heap[w.heap.size + 1]? = some (.cells (hv H) 23 (0, 0)) := by rw [hb2.block _ (by omega)]; exact g1
  have B2 := B1.trans (hb2.mono B1.size)
  have z2 : w.heap.size + 2 ≤ w2.heap.size := Nat.le_trans z1 hb2.size
  clear g0 g1 B1 z1 hb2 C1
  have l0 := heap_past w2 (.cells (cv Z Z) 25) _ _ k0
  have l1 := heap_past w2 (.cells (cv Z Z) 25) _ _ k1
  have l2 := heap_new w2 (.cells (cv Z Z) 25) _ rfl
  have B3 := B2.alloc B2.size (.cells (cv Z Z) 25)
  go_wp2_with (first
    | (refine wl_storeC rfl _ _ rfl w2.heap.size Z Z rfl rfl _ (heap_new _ _ _ rfl) rfl Z_byt.1 Z_byt.1 _ (setRow_new _ _ _ _ _ rfl) ?_)
    | (refine wl_loadC rfl _ rfl w.heap.size rfl V M l0 hVl hMl ?_))
  refine (C2.out _).mono ?_
  rintro e w3 ⟨rfl, hb3⟩
  have m0 : w3.heap[w.heap.size]? = some (.cells (cv V M) 25 (0, 0)) := by rw [hb3.block _ (by simp; omega)]; exact l0
  have m1 : w3.heap[w.heap.size + 1]? = some (.cells (hv H) 23 (0, 0)) := by rw [hb3.block _ (by simp; omega)]; exact l1
  have m2 : w3.heap[w2.heap.size]? = some (.cells (cv Z Z) 25 (0, 0)) := by rw [hb3.block _ (by simp)]; exact l2
  have B4 := B3.trans (hb3.mono B3.size)
  have z4 : w2.heap.size + 1 ≤ w3.heap.size := Nat.le_trans (by simp) hb3.size
  clear k0 k1 B2 l0 l1 l2 B3 hb3 C2
  have p0 := heap_past w3 (.cells (cv Z Z) 25) _ _ m0
  have p1 := heap_past w3 (.cells (cv Z Z) 25) _ _ m1
  have p2 := heap_past w3 (.cells (cv Z Z) 25) _ _ m2
  have p3 := heap_new w3 (.cells (cv Z Z) 25) _ rfl
  have B5 := B4.alloc B4.size (.cells (cv Z Z) 25)
  go_wp2_with (first
    | (refine wl_storeC rfl _ _ rfl w3.heap.size Z Z rfl rfl _ (heap_new _ _ _ rfl) rfl Z_byt.1 Z_byt.1 _ (setRow_new _ _ _ _ _ rfl) ?_)
    | (refine wl_loadC rfl _ rfl w.heap.size rfl V M p0 hVl hMl ?_))
  refine (C3.out _).mono ?_
  rintro e w4 ⟨rfl, hb4⟩
  have q0 : w4.heap[w.heap.size]? = some (.cells (cv V M) 25 (0, 0)) := by rw [hb4.block _ (by simp; omega)]; exact p0
  have q1 : w4.heap[w.heap.size + 1]? = some (.cells (hv H) 23 (0, 0)) := by rw [hb4.block _ (by simp; omega)]; exact p1
  have q2 : w4.heap[w2.heap.size]? = some (.cells (cv Z Z) 25 (0, 0)) := by rw [hb4.block _ (by simp; omega)]; exact p2
  have q3 : w4.heap[w3.heap.size]? = some (.cells (cv Z Z) 25 (0, 0)) := by rw [hb4.block _ (by simp)]; exact p3
  have B6 := B5.trans (hb4.mono B5.size)
  clear m0 m1 m2 B4 p0 p1 p2 p3 B5 hb4 C3
  have n0 := heap_past (w4.alloc (.cells (cv Z Z) 25)) (.cells (cv Z Z) 25) _ _ (heap_past w4 (.cells (cv Z Z) 25) _ _ q0)
  have n1 := heap_past (w4.alloc (.cells (cv Z Z) 25)) (.cells (cv Z Z) 25) _ _ (heap_past w4 (.cells (cv Z Z) 25) _ _ q1)
  have n2 := heap_past (w4.alloc (.cells (cv Z Z) 25)) (.cells (cv Z Z) 25) _ _ (heap_past w4 (.cells (cv Z Z) 25) _ _ q2)
  have n3 := heap_past (w4.alloc (.cells (cv Z Z) 25)) (.cells (cv Z Z) 25) _ _ (heap_past w4 (.cells (cv Z Z) 25) _ _ q3)
  have n4 := heap_past (w4.alloc (.cells (cv Z Z) 25)) (.cells (cv Z Z) 25) _ _ (heap_new w4 (.cells (cv Z Z) 25) _ rfl)
  have n5 := heap_new (w4.alloc (.cells (cv Z Z) 25)) (.cells (cv Z Z) 25) (w4.heap.size + 1) (by simp)
  have B7 := (B6.alloc B6.size (.cells (cv Z Z) 25)).alloc (by simp; exact Nat.le_trans B6.size (by omega)) (.cells (cv Z Z) 25)
  clear q0 q1 q2 q3
  go_wp2_with (first
    | (refine wl_storeC rfl _ _ rfl w4.heap.size Z Z rfl rfl _ (heap_past _ _ _ _ (heap_new _ _ _ rfl)) rfl Z_byt.1 Z_byt.1 _ (by rw [setRow_past _ _ _ _ (by simp), setRow_new _ _ _ _ _ rfl]) ?_)
    | (refine wl_storeC rfl _ _ rfl (w4.heap.size + 1) Z Z rfl rfl _ (heap_new _ _ _ (by simp)) rfl Z_byt.1 Z_byt.1 _ (setRow_new _ _ _ _ _ (by simp)) ?_)
    | (refine wl_zeroCg rfl rfl ?_)
    | (refine wl_loadCg rfl _ rfl w2.heap.size rfl Z Z n2 hzl hzl ?_)
    | (refine wl_loadCg rfl _ rfl w3.heap.size rfl Z Z n3 hzl hzl ?_)
    | (refine wl_loadCg rfl _ rfl w4.heap.size rfl Z Z n4 hzl hzl ?_)
    | (refine wl_loadCg rfl _ rfl (w4.heap.size + 1) rfl Z Z n5 hzl hzl ?_))
  go_ret
  exact ⟨rfl, B7⟩

set_option maxHeartbeats 8000000 in
set_option maxRecDepth 100000 in
theorem fixes_fixed_t (V M H CV AV AM BV BM : List Int) (i : Nat) (hi : i < 104) (t : Int) (ht : (t != 2) = true) (hVl : V.length = 13) (hMl : M.length = 13) (hAl : AV.length = 13) (hAm : AM.length = 13) (hBl : BV.length = 13) (hBm : BM.length = 13)
    (c1 : ∀ W, Calls Try.prog 25 #[.agg (cv V M), .int .i64 (i : Int), .bool true] W fun e w' => e = .returned (.tuple #[.agg (cv AV AM), .int .i64 0]) ∧ Below W.heap.size W w')
    (c2 : ∀ W, Calls Try.prog 26 #[.agg (cv V M), .int .i64 (i : Int)] W fun e w' => e = .returned (.tuple #[.agg (cv BV BM), .int .i64 0]) ∧ Below W.heap.size W w')
    (c3 : ∀ W, Calls Try.prog 27 #[.agg (cv V M), .int .i64 (i : Int)] W fun e w' => e = .returned (.tuple #[.agg (cv Z Z), .agg (cv Z Z), .int .i64 3]) ∧ Below W.heap.size W w')
    (c4 : ∀ W, Calls Try.prog 13 #[.agg (cv V M)] W fun e w' => e = .returned (.agg (cv CV M)) ∧ Below W.heap.size W w')
    (c5 : ∀ W, Calls Try.prog 28 #[.agg (cv CV M), .int .i64 (i : Int), .int .i64 1] W fun e w' => e = .returned (.agg (cv AV AM)) ∧ Below W.heap.size W w')
    (c6 : ∀ W, Calls Try.prog 28 #[.agg (cv CV M), .int .i64 (i : Int), .int .i64 2] W fun e w' => e = .returned (.agg (cv BV BM)) ∧ Below W.heap.size W w')
    (c7 : ∀ W, Calls Try.prog 29 #[.agg (cv V M), .int .i64 (i : Int)] W fun e w' => e = .returned (.int .i64 t) ∧ Below W.heap.size W w')
    (w : World) : Calls Try.prog 8 #[.agg (cv V M), .int .i64 (i : Int), .bool true, .agg (hv H)] w fun e w' => e = .returned (.bool true) ∧ Below w.heap.size w w' := by
  have C1 : Hid (∀ W, Calls Try.prog 25 #[.agg (cv V M), .int .i64 (i : Int), .bool true] W fun e w' => e = .returned (.tuple #[.agg (cv AV AM), .int .i64 0]) ∧ Below W.heap.size W w') := c1
  have C2 : Hid (∀ W, Calls Try.prog 26 #[.agg (cv V M), .int .i64 (i : Int)] W fun e w' => e = .returned (.tuple #[.agg (cv BV BM), .int .i64 0]) ∧ Below W.heap.size W w') := c2
  have C3 : Hid (∀ W, Calls Try.prog 27 #[.agg (cv V M), .int .i64 (i : Int)] W fun e w' => e = .returned (.tuple #[.agg (cv Z Z), .agg (cv Z Z), .int .i64 3]) ∧ Below W.heap.size W w') := c3
  have C4 : Hid (∀ W, Calls Try.prog 13 #[.agg (cv V M)] W fun e w' => e = .returned (.agg (cv CV M)) ∧ Below W.heap.size W w') := c4
  have C5 : Hid (∀ W, Calls Try.prog 28 #[.agg (cv CV M), .int .i64 (i : Int), .int .i64 1] W fun e w' => e = .returned (.agg (cv AV AM)) ∧ Below W.heap.size W w') := c5
  have C6 : Hid (∀ W, Calls Try.prog 28 #[.agg (cv CV M), .int .i64 (i : Int), .int .i64 2] W fun e w' => e = .returned (.agg (cv BV BM)) ∧ Below W.heap.size W w') := c6
  have C7 : Hid (∀ W, Calls Try.prog 29 #[.agg (cv V M), .int .i64 (i : Int)] W fun e w' => e = .returned (.int .i64 t) ∧ Below W.heap.size W w') := c7
  have e1 : ∀ w, (Op.equalIn 10000 25 (.agg (cv AV AM)) (.agg (cv AV AM))).run Try.prog w = .ok true w := fun w => by rw [eqC _ _ _ _ hAl hAm hAl hAm]; simp
  have e2 : ∀ w, (Op.equalIn 10000 25 (.agg (cv BV BM)) (.agg (cv BV BM))).run Try.prog w = .ok true w := fun w => by rw [eqC _ _ _ _ hBl hBm hBl hBm]; simp
  have e3 : ∀ w, (Op.equalIn 10000 25 (.agg (cv Z Z)) (.agg (cv Z Z))).run Try.prog w = .ok true w := fun w => by rw [eqC _ _ _ _ Z_byt.1 Z_byt.1 Z_byt.1 Z_byt.1]; simp
  have eg : ∀ op x y (xs ys : Array Value) w, (eqGuard op 25 x y (.agg xs) (.agg ys)).run Try.prog w = .ok () w := egC
  have hzl := Z_byt.1
  clear c1 c2 c3 c4 c5 c6 c7
  go_enter Try.func8, Try.ntmps8
  go_wp2_with fail
  refine (awake_any _).mono ?_
  rintro e w1 ⟨rfl, hb1⟩
  have g0 : w1.heap[w.heap.size]? = some (.cells (cv V M) 25 (0, 0)) := by rw [hb1.block _ (by simp; omega)]; exact heap_past _ _ _ _ (heap_new _ _ _ rfl)
  have g1 : w1.heap[w.heap.size + 1]? = some (.cells (hv H) 23 (0, 0)) := by rw [hb1.block _ (by simp)]; exact heap_new _ _ _ (by simp)
  have B1 : Below w.heap.size w w1 := (((Below.refl _ _).alloc (Nat.le_refl _) _).alloc (by simp) _).trans (hb1.mono (by simp; omega))
  have z1 : w.heap.size + 2 ≤ w1.heap.size := Nat.le_trans (by simp) hb1.size
  clear hb1
  go_wp2_with (first
    | (refine wl_loadC rfl _ rfl w.heap.size rfl V M g0 hVl hMl ?_))
  refine (C1.out _).mono ?_
  rintro e w2 ⟨rfl, hb2⟩
  have k0 : w2.heap[w.heap.size]? = some (.cells (cv V M) 25 (0, 0)) := by rw [hb2.block _ (by omega)]; exact g0
  have k1 : w2.heap[w.heap.size + 1]? = some (.cells (hv H) 23 (0, 0)) := by rw [hb2.block _ (by omega)]; exact g1
  have B2 := B1.trans (hb2.mono B1.size)
  have z2 : w.heap.size + 2 ≤ w2.heap.size := Nat.le_trans z1 hb2.size
  clear g0 g1 B1 z1 hb2 C1
  have l0 := heap_past w2 (.cells (cv AV AM) 25) _ _ k0
  have l1 := heap_past w2 (.cells (cv AV AM) 25) _ _ k1
  have l2 := heap_new w2 (.cells (cv AV AM) 25) _ rfl
  have B3 := B2.alloc B2.size (.cells (cv AV AM) 25)
  go_wp2_with (first
    | (refine wl_storeC rfl _ _ rfl w2.heap.size AV AM rfl rfl _ (heap_new _ _ _ rfl) rfl hAl hAm _ (setRow_new _ _ _ _ _ rfl) ?_)
    | (refine wl_loadC rfl _ rfl w.heap.size rfl V M l0 hVl hMl ?_))
  refine (C2.out _).mono ?_
  rintro e w3 ⟨rfl, hb3⟩
  have m0 : w3.heap[w.heap.size]? = some (.cells (cv V M) 25 (0, 0)) := by rw [hb3.block _ (by simp; omega)]; exact l0
  have m1 : w3.heap[w.heap.size + 1]? = some (.cells (hv H) 23 (0, 0)) := by rw [hb3.block _ (by simp; omega)]; exact l1
  have m2 : w3.heap[w2.heap.size]? = some (.cells (cv AV AM) 25 (0, 0)) := by rw [hb3.block _ (by simp)]; exact l2
  have B4 := B3.trans (hb3.mono B3.size)
  have z4 : w2.heap.size + 1 ≤ w3.heap.size := Nat.le_trans (by simp) hb3.size
  clear k0 k1 B2 l0 l1 l2 B3 hb3 C2
  have p0 := heap_past w3 (.cells (cv BV BM) 25) _ _ m0
  have p1 := heap_past w3 (.cells (cv BV BM) 25) _ _ m1
  have p2 := heap_past w3 (.cells (cv BV BM) 25) _ _ m2
  have p3 := heap_new w3 (.cells (cv BV BM) 25) _ rfl
  have B5 := B4.alloc B4.size (.cells (cv BV BM) 25)
  go_wp2_with (first
    | (refine wl_storeC rfl _ _ rfl w3.heap.size BV BM rfl rfl _ (heap_new _ _ _ rfl) rfl hBl hBm _ (setRow_new _ _ _ _ _ rfl) ?_)
    | (refine wl_loadC rfl _ rfl w.heap.size rfl V M p0 hVl hMl ?_))
  refine (C3.out _).mono ?_
  rintro e w4 ⟨rfl, hb4⟩
  have q0 : w4.heap[w.heap.size]? = some (.cells (cv V M) 25 (0, 0)) := by rw [hb4.block _ (by simp; omega)]; exact p0
  have q1 : w4.heap[w.heap.size + 1]? = some (.cells (hv H) 23 (0, 0)) := by rw [hb4.block _ (by simp; omega)]; exact p1
  have q2 : w4.heap[w2.heap.size]? = some (.cells (cv AV AM) 25 (0, 0)) := by rw [hb4.block _ (by simp; omega)]; exact p2
  have q3 : w4.heap[w3.heap.size]? = some (.cells (cv BV BM) 25 (0, 0)) := by rw [hb4.block _ (by simp)]; exact p3
  have B6 := B5.trans (hb4.mono B5.size)
  clear m0 m1 m2 B4 p0 p1 p2 p3 B5 hb4 C3
  have n0 := heap_past (w4.alloc (.cells (cv Z Z) 25)) (.cells (cv Z Z) 25) _ _ (heap_past w4 (.cells (cv Z Z) 25) _ _ q0)
  have n1 := heap_past (w4.alloc (.cells (cv Z Z) 25)) (.cells (cv Z Z) 25) _ _ (heap_past w4 (.cells (cv Z Z) 25) _ _ q1)
  have n2 := heap_past (w4.alloc (.cells (cv Z Z) 25)) (.cells (cv Z Z) 25) _ _ (heap_past w4 (.cells (cv Z Z) 25) _ _ q2)
  have n3 := heap_past (w4.alloc (.cells (cv Z Z) 25)) (.cells (cv Z Z) 25) _ _ (heap_past w4 (.cells (cv Z Z) 25) _ _ q3)
  have n4 := heap_past (w4.alloc (.cells (cv Z Z) 25)) (.cells (cv Z Z) 25) _ _ (heap_new w4 (.cells (cv Z Z) 25) _ rfl)
  have n5 := heap_new (w4.alloc (.cells (cv Z Z) 25)) (.cells (cv Z Z) 25) (w4.heap.size + 1) (by simp)
  have B7 := (B6.alloc B6.size (.cells (cv Z Z) 25)).alloc (by simp; exact Nat.le_trans B6.size (by omega)) (.cells (cv Z Z) 25)
  clear q0 q1 q2 q3
  obtain ⟨W, hW⟩ : ∃ W, W = (w4.alloc (.cells (cv Z Z) 25)).alloc (.cells (cv Z Z) 25) := ⟨_, rfl⟩
  have hi0 : ¬ (i : Int) < 0 := by omega
  have hi1 : ¬ (104 : Int) ≤ (i : Int) := by omega
  go_wp2_with (first
    | (refine wl_storeC rfl _ _ rfl w4.heap.size Z Z rfl rfl _ (heap_past _ _ _ _ (heap_new _ _ _ rfl)) rfl Z_byt.1 Z_byt.1 _ (by rw [setRow_past _ _ _ _ (by simp), setRow_new _ _ _ _ _ rfl]) ?_)
    | (refine wl_storeC rfl _ _ rfl (w4.heap.size + 1) Z Z rfl rfl _ (heap_new _ _ _ (by simp)) rfl Z_byt.1 Z_byt.1 _ (setRow_new _ _ _ _ _ (by simp)) ?_))
  rw [← hW] at n0 n1 n2 n3 n4 n5 B7 ⊢
  clear hW B6
  have ne1 := Later.ne W
  refine wp_region_later (by kernel_rfl) (by kernel_rfl) ?_
  go_big_quiet_step (fail)
  go_big_quiet_step (fail)
  go_big_quiet_step (fail)
  go_big_quiet_step (fail)
  go_big_quiet_step (fail)
  go_big_quiet_step (fail)
  go_big_quiet_step (fail)
  refine qlC rfl _ rfl w2.heap.size rfl AV AM n2 hAl hAm ?_
  simp only [Act.put, List.setIfInBounds_toArray, List.set_cons_succ, List.set_cons_zero]
  refine qlC rfl _ rfl w.heap.size rfl V M n0 hVl hMl ?_
  simp only [Act.put, List.setIfInBounds_toArray, List.set_cons_succ, List.set_cons_zero]
  go_big_quiet_want; go_big_quiet_op
  refine ⟨_, fun u => Calls.later_of (C4.out u.world), ?_⟩
  go_big_quiet_on
  go_big_quiet_step (fail)
  go_big_quiet_step (fail)
  go_big_quiet_want; go_big_quiet_op
  refine ⟨_, fun u => Calls.later_of (C5.out u.world), ?_⟩
  go_big_quiet_on
  go_big_quiet_step (fail)
  go_big_quiet_step (fail)
  go_big_quiet_step (fail)
  refine qlC rfl _ rfl w3.heap.size rfl BV BM n3 hBl hBm ?_
  simp only [Act.put, List.setIfInBounds_toArray, List.set_cons_succ, List.set_cons_zero]
  refine qlC rfl _ rfl w.heap.size rfl V M n0 hVl hMl ?_
  simp only [Act.put, List.setIfInBounds_toArray, List.set_cons_succ, List.set_cons_zero]
  go_big_quiet_want; go_big_quiet_op
  refine ⟨_, fun u => Calls.later_of (C4.out u.world), ?_⟩
  go_big_quiet_on
  go_big_quiet_step (fail)
  go_big_quiet_want; go_big_quiet_op
  refine ⟨_, fun u => Calls.later_of (C6.out u.world), ?_⟩
  go_big_quiet_on
  go_big_quiet_step (fail)
  go_big_quiet_step (fail)
  refine wpQuiet_nil ?_
  rintro w' ⟨u, rfl⟩
  obtain ⟨W1, hW1⟩ : ∃ W1, W1 = u.world := ⟨_, rfl⟩
  have r0 : W1.heap[w.heap.size]? = some (.cells (cv V M) 25 (0, 0)) := by rw [hW1]; exact later_block n0 _ ⟨u, rfl⟩
  have r1 : W1.heap[w.heap.size + 1]? = some (.cells (hv H) 23 (0, 0)) := by rw [hW1]; exact later_block n1 _ ⟨u, rfl⟩
  have r4 : W1.heap[w4.heap.size]? = some (.cells (cv Z Z) 25 (0, 0)) := by rw [hW1]; exact later_block n4 _ ⟨u, rfl⟩
  have r5 : W1.heap[w4.heap.size + 1]? = some (.cells (cv Z Z) 25 (0, 0)) := by rw [hW1]; exact later_block n5 _ ⟨u, rfl⟩
  have B8 : Below w.heap.size w W1 := by rw [hW1]; exact B7.trans (u.below.mono B7.size)
  rw [← hW1]
  have z8 := (Array.getElem?_eq_some_iff.1 r5).1
  have z9 := (Array.getElem?_eq_some_iff.1 r4).1
  have z10 := (Array.getElem?_eq_some_iff.1 r1).1
  clear hW1 n0 n1 n2 n3 n4 n5 B7 ne1 C5 C6
  go_wp2_with (first
    | (refine wl_loadC rfl _ rfl w.heap.size rfl V M r0 hVl hMl ?_))
  refine (C7.out _).mono ?_
  rintro e w5 ⟨rfl, hb5⟩
  have t0 : w5.heap[w.heap.size]? = some (.cells (cv V M) 25 (0, 0)) := by rw [hb5.block _ (by omega)]; exact r0
  have t1 : w5.heap[w.heap.size + 1]? = some (.cells (hv H) 23 (0, 0)) := by rw [hb5.block _ (by omega)]; exact r1
  have t4 : w5.heap[w4.heap.size]? = some (.cells (cv Z Z) 25 (0, 0)) := by rw [hb5.block _ (by omega)]; exact r4
  have t5 : w5.heap[w4.heap.size + 1]? = some (.cells (cv Z Z) 25 (0, 0)) := by rw [hb5.block _ (by omega)]; exact r5
  have B9 := B8.trans (hb5.mono B8.size)
  clear r0 r1 r4 r5 B8 hb5 z8 z9 z10 C7
  go_wp2_with (first
    | (refine wl_zeroCg rfl rfl ?_)
    | (refine wl_loadCg rfl _ rfl w4.heap.size rfl Z Z t4 hzl hzl ?_)
    | (refine wl_loadCg rfl _ rfl (w4.heap.size + 1) rfl Z Z t5 hzl hzl ?_))
  go_ret
  exact ⟨rfl, B9⟩

set_option maxHeartbeats 8000000 in
set_option maxRecDepth 100000 in
theorem fixes_fixed_f (V M H CV AV AM BV BM : List Int) (i : Nat) (hi : i < 104) (t : Int) (ht : (t != 2) = true) (hVl : V.length = 13) (hMl : M.length = 13) (hAl : AV.length = 13) (hAm : AM.length = 13) (hBl : BV.length = 13) (hBm : BM.length = 13)
    (c1 : ∀ W, Calls Try.prog 25 #[.agg (cv V M), .int .i64 (i : Int), .bool false] W fun e w' => e = .returned (.tuple #[.agg (cv AV AM), .int .i64 0]) ∧ Below W.heap.size W w')
    (c2 : ∀ W, Calls Try.prog 26 #[.agg (cv V M), .int .i64 (i : Int)] W fun e w' => e = .returned (.tuple #[.agg (cv BV BM), .int .i64 0]) ∧ Below W.heap.size W w')
    (c3 : ∀ W, Calls Try.prog 27 #[.agg (cv V M), .int .i64 (i : Int)] W fun e w' => e = .returned (.tuple #[.agg (cv Z Z), .agg (cv Z Z), .int .i64 3]) ∧ Below W.heap.size W w')
    (c4 : ∀ W, Calls Try.prog 13 #[.agg (cv V M)] W fun e w' => e = .returned (.agg (cv CV M)) ∧ Below W.heap.size W w')
    (c5 : ∀ W, Calls Try.prog 28 #[.agg (cv CV M), .int .i64 (i : Int), .int .i64 0] W fun e w' => e = .returned (.agg (cv AV AM)) ∧ Below W.heap.size W w')
    (c6 : ∀ W, Calls Try.prog 28 #[.agg (cv CV M), .int .i64 (i : Int), .int .i64 2] W fun e w' => e = .returned (.agg (cv BV BM)) ∧ Below W.heap.size W w')
    (c7 : ∀ W, Calls Try.prog 29 #[.agg (cv V M), .int .i64 (i : Int)] W fun e w' => e = .returned (.int .i64 t) ∧ Below W.heap.size W w')
    (w : World) : Calls Try.prog 8 #[.agg (cv V M), .int .i64 (i : Int), .bool false, .agg (hv H)] w fun e w' => e = .returned (.bool true) ∧ Below w.heap.size w w' := by
  have C1 : Hid (∀ W, Calls Try.prog 25 #[.agg (cv V M), .int .i64 (i : Int), .bool false] W fun e w' => e = .returned (.tuple #[.agg (cv AV AM), .int .i64 0]) ∧ Below W.heap.size W w') := c1
  have C2 : Hid (∀ W, Calls Try.prog 26 #[.agg (cv V M), .int .i64 (i : Int)] W fun e w' => e = .returned (.tuple #[.agg (cv BV BM), .int .i64 0]) ∧ Below W.heap.size W w') := c2
  have C3 : Hid (∀ W, Calls Try.prog 27 #[.agg (cv V M), .int .i64 (i : Int)] W fun e w' => e = .returned (.tuple #[.agg (cv Z Z), .agg (cv Z Z), .int .i64 3]) ∧ Below W.heap.size W w') := c3
  have C4 : Hid (∀ W, Calls Try.prog 13 #[.agg (cv V M)] W fun e w' => e = .returned (.agg (cv CV M)) ∧ Below W.heap.size W w') := c4
  have C5 : Hid (∀ W, Calls Try.prog 28 #[.agg (cv CV M), .int .i64 (i : Int), .int .i64 0] W fun e w' => e = .returned (.agg (cv AV AM)) ∧ Below W.heap.size W w') := c5
  have C6 : Hid (∀ W, Calls Try.prog 28 #[.agg (cv CV M), .int .i64 (i : Int), .int .i64 2] W fun e w' => e = .returned (.agg (cv BV BM)) ∧ Below W.heap.size W w') := c6
  have C7 : Hid (∀ W, Calls Try.prog 29 #[.agg (cv V M), .int .i64 (i : Int)] W fun e w' => e = .returned (.int .i64 t) ∧ Below W.heap.size W w') := c7
  have e1 : ∀ w, (Op.equalIn 10000 25 (.agg (cv AV AM)) (.agg (cv AV AM))).run Try.prog w = .ok true w := fun w => by rw [eqC _ _ _ _ hAl hAm hAl hAm]; simp
  have e2 : ∀ w, (Op.equalIn 10000 25 (.agg (cv BV BM)) (.agg (cv BV BM))).run Try.prog w = .ok true w := fun w => by rw [eqC _ _ _ _ hBl hBm hBl hBm]; simp
  have e3 : ∀ w, (Op.equalIn 10000 25 (.agg (cv Z Z)) (.agg (cv Z Z))).run Try.prog w = .ok true w := fun w => by rw [eqC _ _ _ _ Z_byt.1 Z_byt.1 Z_byt.1 Z_byt.1]; simp
  have eg : ∀ op x y (xs ys : Array Value) w, (eqGuard op 25 x y (.agg xs) (.agg ys)).run Try.prog w = .ok () w := egC
  have hzl := Z_byt.1
  clear c1 c2 c3 c4 c5 c6 c7
  go_enter Try.func8, Try.ntmps8
  go_wp2_with fail
  refine (awake_any _).mono ?_
  rintro e w1 ⟨rfl, hb1⟩
  have g0 : w1.heap[w.heap.size]? = some (.cells (cv V M) 25 (0, 0)) := by rw [hb1.block _ (by simp; omega)]; exact heap_past _ _ _ _ (heap_new _ _ _ rfl)
  have g1 : w1.heap[w.heap.size + 1]? = some (.cells (hv H) 23 (0, 0)) := by rw [hb1.block _ (by simp)]; exact heap_new _ _ _ (by simp)
  have B1 : Below w.heap.size w w1 := (((Below.refl _ _).alloc (Nat.le_refl _) _).alloc (by simp) _).trans (hb1.mono (by simp; omega))
  have z1 : w.heap.size + 2 ≤ w1.heap.size := Nat.le_trans (by simp) hb1.size
  clear hb1
  go_wp2_with (first
    | (refine wl_loadC rfl _ rfl w.heap.size rfl V M g0 hVl hMl ?_))
  refine (C1.out _).mono ?_
  rintro e w2 ⟨rfl, hb2⟩
  have k0 : w2.heap[w.heap.size]? = some (.cells (cv V M) 25 (0, 0)) := by rw [hb2.block _ (by omega)]; exact g0
  have k1 : w2.heap[w.heap.size + 1]? = some (.cells (hv H) 23 (0, 0)) := by rw [hb2.block _ (by omega)]; exact g1
  have B2 := B1.trans (hb2.mono B1.size)
  have z2 : w.heap.size + 2 ≤ w2.heap.size := Nat.le_trans z1 hb2.size
  clear g0 g1 B1 z1 hb2 C1
  have l0 := heap_past w2 (.cells (cv AV AM) 25) _ _ k0
  have l1 := heap_past w2 (.cells (cv AV AM) 25) _ _ k1
  have l2 := heap_new w2 (.cells (cv AV AM) 25) _ rfl
  have B3 := B2.alloc B2.size (.cells (cv AV AM) 25)
  go_wp2_with (first
    | (refine wl_storeC rfl _ _ rfl w2.heap.size AV AM rfl rfl _ (heap_new _ _ _ rfl) rfl hAl hAm _ (setRow_new _ _ _ _ _ rfl) ?_)
    | (refine wl_loadC rfl _ rfl w.heap.size rfl V M l0 hVl hMl ?_))
  refine (C2.out _).mono ?_
  rintro e w3 ⟨rfl, hb3⟩
  have m0 : w3.heap[w.heap.size]? = some (.cells (cv V M) 25 (0, 0)) := by rw [hb3.block _ (by simp; omega)]; exact l0
  have m1 : w3.heap[w.heap.size + 1]? = some (.cells (hv H) 23 (0, 0)) := by rw [hb3.block _ (by simp; omega)]; exact l1
  have m2 : w3.heap[w2.heap.size]? = some (.cells (cv AV AM) 25 (0, 0)) := by rw [hb3.block _ (by simp)]; exact l2
  have B4 := B3.trans (hb3.mono B3.size)
  have z4 : w2.heap.size + 1 ≤ w3.heap.size := Nat.le_trans (by simp) hb3.size
  clear k0 k1 B2 l0 l1 l2 B3 hb3 C2
  have p0 := heap_past w3 (.cells (cv BV BM) 25) _ _ m0
  have p1 := heap_past w3 (.cells (cv BV BM) 25) _ _ m1
  have p2 := heap_past w3 (.cells (cv BV BM) 25) _ _ m2
  have p3 := heap_new w3 (.cells (cv BV BM) 25) _ rfl
  have B5 := B4.alloc B4.size (.cells (cv BV BM) 25)
  go_wp2_with (first
    | (refine wl_storeC rfl _ _ rfl w3.heap.size BV BM rfl rfl _ (heap_new _ _ _ rfl) rfl hBl hBm _ (setRow_new _ _ _ _ _ rfl) ?_)
    | (refine wl_loadC rfl _ rfl w.heap.size rfl V M p0 hVl hMl ?_))
  refine (C3.out _).mono ?_
  rintro e w4 ⟨rfl, hb4⟩
  have q0 : w4.heap[w.heap.size]? = some (.cells (cv V M) 25 (0, 0)) := by rw [hb4.block _ (by simp; omega)]; exact p0
  have q1 : w4.heap[w.heap.size + 1]? = some (.cells (hv H) 23 (0, 0)) := by rw [hb4.block _ (by simp; omega)]; exact p1
  have q2 : w4.heap[w2.heap.size]? = some (.cells (cv AV AM) 25 (0, 0)) := by rw [hb4.block _ (by simp; omega)]; exact p2
  have q3 : w4.heap[w3.heap.size]? = some (.cells (cv BV BM) 25 (0, 0)) := by rw [hb4.block _ (by simp)]; exact p3
  have B6 := B5.trans (hb4.mono B5.size)
  clear m0 m1 m2 B4 p0 p1 p2 p3 B5 hb4 C3
  have n0 := heap_past (w4.alloc (.cells (cv Z Z) 25)) (.cells (cv Z Z) 25) _ _ (heap_past w4 (.cells (cv Z Z) 25) _ _ q0)
  have n1 := heap_past (w4.alloc (.cells (cv Z Z) 25)) (.cells (cv Z Z) 25) _ _ (heap_past w4 (.cells (cv Z Z) 25) _ _ q1)
  have n2 := heap_past (w4.alloc (.cells (cv Z Z) 25)) (.cells (cv Z Z) 25) _ _ (heap_past w4 (.cells (cv Z Z) 25) _ _ q2)
  have n3 := heap_past (w4.alloc (.cells (cv Z Z) 25)) (.cells (cv Z Z) 25) _ _ (heap_past w4 (.cells (cv Z Z) 25) _ _ q3)
  have n4 := heap_past (w4.alloc (.cells (cv Z Z) 25)) (.cells (cv Z Z) 25) _ _ (heap_new w4 (.cells (cv Z Z) 25) _ rfl)
  have n5 := heap_new (w4.alloc (.cells (cv Z Z) 25)) (.cells (cv Z Z) 25) (w4.heap.size + 1) (by simp)
  have B7 := (B6.alloc B6.size (.cells (cv Z Z) 25)).alloc (by simp; exact Nat.le_trans B6.size (by omega)) (.cells (cv Z Z) 25)
  clear q0 q1 q2 q3
  obtain ⟨W, hW⟩ : ∃ W, W = (w4.alloc (.cells (cv Z Z) 25)).alloc (.cells (cv Z Z) 25) := ⟨_, rfl⟩
  have hi0 : ¬ (i : Int) < 0 := by omega
  have hi1 : ¬ (104 : Int) ≤ (i : Int) := by omega
  go_wp2_with (first
    | (refine wl_storeC rfl _ _ rfl w4.heap.size Z Z rfl rfl _ (heap_past _ _ _ _ (heap_new _ _ _ rfl)) rfl Z_byt.1 Z_byt.1 _ (by rw [setRow_past _ _ _ _ (by simp), setRow_new _ _ _ _ _ rfl]) ?_)
    | (refine wl_storeC rfl _ _ rfl (w4.heap.size + 1) Z Z rfl rfl _ (heap_new _ _ _ (by simp)) rfl Z_byt.1 Z_byt.1 _ (setRow_new _ _ _ _ _ (by simp)) ?_))
  rw [← hW] at n0 n1 n2 n3 n4 n5 B7 ⊢
  clear hW B6
  have ne1 := Later.ne W
  refine wp_region_later (by kernel_rfl) (by kernel_rfl) ?_
  go_big_quiet_step (fail)
  go_big_quiet_step (fail)
  go_big_quiet_step (fail)
  go_big_quiet_step (fail)
  go_big_quiet_step (fail)
  go_big_quiet_step (fail)
  go_big_quiet_step (fail)
  refine qlC rfl _ rfl w2.heap.size rfl AV AM n2 hAl hAm ?_
  simp only [Act.put, List.setIfInBounds_toArray, List.set_cons_succ, List.set_cons_zero]
  refine qlC rfl _ rfl w.heap.size rfl V M n0 hVl hMl ?_
  simp only [Act.put, List.setIfInBounds_toArray, List.set_cons_succ, List.set_cons_zero]
  go_big_quiet_want; go_big_quiet_op
  refine ⟨_, fun u => Calls.later_of (C4.out u.world), ?_⟩
  go_big_quiet_on
  go_big_quiet_step (fail)
  go_big_quiet_step (fail)
  go_big_quiet_want; go_big_quiet_op
  refine ⟨_, fun u => Calls.later_of (C5.out u.world), ?_⟩
  go_big_quiet_on
  go_big_quiet_step (fail)
  go_big_quiet_step (fail)
  go_big_quiet_step (fail)
  refine qlC rfl _ rfl w3.heap.size rfl BV BM n3 hBl hBm ?_
  simp only [Act.put, List.setIfInBounds_toArray, List.set_cons_succ, List.set_cons_zero]
  refine qlC rfl _ rfl w.heap.size rfl V M n0 hVl hMl ?_
  simp only [Act.put, List.setIfInBounds_toArray, List.set_cons_succ, List.set_cons_zero]
  go_big_quiet_want; go_big_quiet_op
  refine ⟨_, fun u => Calls.later_of (C4.out u.world), ?_⟩
  go_big_quiet_on
  go_big_quiet_step (fail)
  go_big_quiet_want; go_big_quiet_op
  refine ⟨_, fun u => Calls.later_of (C6.out u.world), ?_⟩
  go_big_quiet_on
  go_big_quiet_step (fail)
  go_big_quiet_step (fail)
  refine wpQuiet_nil ?_
  rintro w' ⟨u, rfl⟩
  obtain ⟨W1, hW1⟩ : ∃ W1, W1 = u.world := ⟨_, rfl⟩
  have r0 : W1.heap[w.heap.size]? = some (.cells (cv V M) 25 (0, 0)) := by rw [hW1]; exact later_block n0 _ ⟨u, rfl⟩
  have r1 : W1.heap[w.heap.size + 1]? = some (.cells (hv H) 23 (0, 0)) := by rw [hW1]; exact later_block n1 _ ⟨u, rfl⟩
  have r4 : W1.heap[w4.heap.size]? = some (.cells (cv Z Z) 25 (0, 0)) := by rw [hW1]; exact later_block n4 _ ⟨u, rfl⟩
  have r5 : W1.heap[w4.heap.size + 1]? = some (.cells (cv Z Z) 25 (0, 0)) := by rw [hW1]; exact later_block n5 _ ⟨u, rfl⟩
  have B8 : Below w.heap.size w W1 := by rw [hW1]; exact B7.trans (u.below.mono B7.size)
  rw [← hW1]
  have z8 := (Array.getElem?_eq_some_iff.1 r5).1
  have z9 := (Array.getElem?_eq_some_iff.1 r4).1
  have z10 := (Array.getElem?_eq_some_iff.1 r1).1
  clear hW1 n0 n1 n2 n3 n4 n5 B7 ne1 C5 C6
  go_wp2_with (first
    | (refine wl_loadC rfl _ rfl w.heap.size rfl V M r0 hVl hMl ?_))
  refine (C7.out _).mono ?_
  rintro e w5 ⟨rfl, hb5⟩
  have t0 : w5.heap[w.heap.size]? = some (.cells (cv V M) 25 (0, 0)) := by rw [hb5.block _ (by omega)]; exact r0
  have t1 : w5.heap[w.heap.size + 1]? = some (.cells (hv H) 23 (0, 0)) := by rw [hb5.block _ (by omega)]; exact r1
  have t4 : w5.heap[w4.heap.size]? = some (.cells (cv Z Z) 25 (0, 0)) := by rw [hb5.block _ (by omega)]; exact r4
  have t5 : w5.heap[w4.heap.size + 1]? = some (.cells (cv Z Z) 25 (0, 0)) := by rw [hb5.block _ (by omega)]; exact r5
  have B9 := B8.trans (hb5.mono B8.size)
  clear r0 r1 r4 r5 B8 hb5 z8 z9 z10 C7
  go_wp2_with (first
    | (refine wl_zeroCg rfl rfl ?_)
    | (refine wl_loadCg rfl _ rfl w4.heap.size rfl Z Z t4 hzl hzl ?_)
    | (refine wl_loadCg rfl _ rfl (w4.heap.size + 1) rfl Z Z t5 hzl hzl ?_))
  go_ret
  exact ⟨rfl, B9⟩
end Go.Proofs.Ythekoeinnillpaa
