import Derived.Test.YtfbphblodankmaaAwake
namespace Go.Proofs.Ytfbphblodankmaa
open Go Go.RowKit
set_option maxRecDepth 20000

/-- A bit of a cube: 0, 1, or 2, if it is free. -/
def atI (V M : List Int) (i : Nat) : Int := if bt M i then (if bt V i then 1 else 0) else 2
theorem at_ne2 (V M : List Int) (i : Nat) : (atI V M i != 2) = bt M i := by
  unfold atI; cases bt M i <;> cases bt V i <;> rfl
theorem at_eq1 (V M : List Int) (i : Nat) : (atI V M i == 1) = (bt V i && bt M i) := by
  unfold atI; cases bt M i <;> cases bt V i <;> rfl
theorem at_ne0 (V M : List Int) (i : Nat) : (atI V M i != 0) = ((bt V i && bt M i) || !(bt M i)) := by
  unfold atI; cases bt M i <;> cases bt V i <;> rfl
theorem at_cases (V M : List Int) (i : Nat) : atI V M i = 0 ∨ atI V M i = 1 ∨ atI V M i = 2 := by
  unfold atI; cases bt M i <;> cases bt V i <;> simp

set_option maxHeartbeats 1000000 in
theorem at_any (V M : List Int) (hV : Byt V) (hM : Byt M) (i : Nat) (hi : i < 104) (w : World) :
    Calls Try.prog 33 #[.agg (cv V M), .int .i64 (i : Int)] w fun e w' => e = .returned (.int .i64 (atI V M i)) ∧ Below w.heap.size w w' := by
  have hVl := hV.1
  have hMl := hM.1
  have CM : Hid (∀ W, Calls Try.prog 35 #[.agg (hv M), .int .i64 (i : Int)] W fun e w' => e = .returned (.bool (bt M i)) ∧ Below W.heap.size W w') := rbit_nat M hM i hi
  have CV : Hid (∀ W, Calls Try.prog 35 #[.agg (hv V), .int .i64 (i : Int)] W fun e w' => e = .returned (.bool (bt V i)) ∧ Below W.heap.size W w') := rbit_nat V hV i hi
  clear hV hM
  unfold atI
  obtain ⟨bm, hbm⟩ : ∃ b, b = bt M i := ⟨_, rfl⟩
  obtain ⟨bv, hbv⟩ : ∃ b, b = bt V i := ⟨_, rfl⟩
  rw [← hbm] at CM ⊢
  rw [← hbv] at CV ⊢
  clear hbm hbv
  go_enter Try.func33, Try.ntmps33
  go_wp2_with (first
    | (refine wl_loadM rfl _ rfl w.heap.size rfl V M (heap_new _ _ _ rfl) hVl hMl ?_))
  refine (CM.out _).mono ?_
  rintro e w1 ⟨rfl, hb1⟩
  have g0 : w1.heap[w.heap.size]? = some (.cells (cv V M) 36 (0, 0)) := by rw [hb1.block _ (by simp)]; exact heap_new _ _ _ rfl
  have B1 : Below w.heap.size w w1 := ((Below.refl _ _).alloc (Nat.le_refl _) _).trans (hb1.mono (by simp))
  clear hb1 CM
  cases bm
  · go_wp2_with fail
    go_ret
    exact ⟨rfl, B1⟩
  · go_wp2_with (first
      | (refine wl_loadV rfl _ rfl w.heap.size rfl V M g0 hVl ?_))
    refine (CV.out _).mono ?_
    rintro e w2 ⟨rfl, hb2⟩
    have B2 := B1.trans (hb2.mono B1.size)
    clear hb2 CV
    cases bv
    · go_wp2_with fail
      go_ret
      exact ⟨rfl, B2⟩
    · go_wp2_with fail
      go_ret
      exact ⟨rfl, B2⟩

set_option maxHeartbeats 1000000 in
theorem rset_any (V M : List Int) (hV : Byt V) (hM : Byt M) (i : Nat) (hi : i < 104) (v : Int) (w : World) :
    Calls Try.prog 32 #[.agg (cv V M), .int .i64 (i : Int), .int .i64 v] w fun e w' => e = .returned (.agg (cv (setb V i (v == 1)) (setb M i (v != 2)))) ∧ Below w.heap.size w w' := by
  have hVl := hV.1
  have hMl := hM.1
  have hFl : (setb M i (v != 2)).length = 13 := (setb_byt M i _).1
  have hGl : (setb V i (v == 1)).length = 13 := (setb_byt V i _).1
  have C1 : Hid (∀ W, Calls Try.prog 34 #[.agg (hv M), .int .i64 (i : Int), .bool (v != 2)] W fun e w' => e = .returned (.agg (hv (setb M i (v != 2)))) ∧ Below W.heap.size W w') := rput_nat M hM i hi _
  have C2 : Hid (∀ W, Calls Try.prog 34 #[.agg (hv V), .int .i64 (i : Int), .bool (v == 1)] W fun e w' => e = .returned (.agg (hv (setb V i (v == 1)))) ∧ Below W.heap.size W w') := rput_nat V hV i hi _
  clear hV hM
  obtain ⟨N, hN⟩ : ∃ N, N = setb M i (v != 2) := ⟨_, rfl⟩
  obtain ⟨U, hU⟩ : ∃ U, U = setb V i (v == 1) := ⟨_, rfl⟩
  rw [← hN] at C1 hFl ⊢
  rw [← hU] at C2 hGl ⊢
  clear hN hU
  go_enter Try.func32, Try.ntmps32
  have g0 : ((w.alloc (.cells (cv V M) 36)).alloc (.cells zeroC 36)).heap[w.heap.size]? = some (.cells (cv V M) 36 (0, 0)) := heap_past _ _ _ _ (heap_new _ _ _ rfl)
  have g1 : ((w.alloc (.cells (cv V M) 36)).alloc (.cells zeroC 36)).heap[w.heap.size + 1]? = some (.cells zeroC 36 (0, 0)) := heap_new _ _ _ (by simp)
  have hb : Below w.heap.size w ((w.alloc (.cells (cv V M) 36)).alloc (.cells zeroC 36)) := ((Below.refl _ _).alloc (Nat.le_refl _) _).alloc (by simp) _
  go_wp2_with (first
    | (refine wl_loadM rfl _ rfl w.heap.size rfl V M g0 hVl hMl ?_))
  refine (C1.out _).mono ?_
  rintro e w2 ⟨rfl, hb2⟩
  have m0 : w2.heap[w.heap.size]? = some (.cells (cv V M) 36 (0, 0)) := by rw [hb2.block _ (by simp; omega)]; exact g0
  have m1 : w2.heap[w.heap.size + 1]? = some (.cells zeroC 36 (0, 0)) := by rw [hb2.block _ (by simp)]; exact g1
  have hz2 : w.heap.size + 2 ≤ w2.heap.size := Nat.le_trans (by simp) hb2.size
  have hB2 := hb.trans (hb2.mono hb.size)
  clear g0 g1 hb hb2 C1
  have n0 : (w2.setRow w.heap.size (cv V N)).heap[w.heap.size]? = some (.cells (cv V N) 36 (0, 0)) := setRow_heap _ _ _ _ _ _ m0
  have n1 : (w2.setRow w.heap.size (cv V N)).heap[w.heap.size + 1]? = some (.cells zeroC 36 (0, 0)) := (setRow_other _ _ _ _ (by omega)).trans m1
  go_wp2_with (first
    | (refine wl_storeM rfl _ _ rfl w.heap.size rfl V M N rfl hVl hMl hFl m0 _ rfl ?_)
    | (refine wl_loadV rfl _ rfl w.heap.size rfl V N n0 hVl ?_))
  refine (C2.out _).mono ?_
  rintro e w3 ⟨rfl, hb3⟩
  have p0 : w3.heap[w.heap.size]? = some (.cells (cv V N) 36 (0, 0)) := by rw [hb3.block _ (by simp; omega)]; exact n0
  have p1 : w3.heap[w.heap.size + 1]? = some (.cells zeroC 36 (0, 0)) := by rw [hb3.block _ (by simp; omega)]; exact n1
  have hB3 := (below_setRow hB2 (Nat.le_refl _) (cv V N)).trans (hb3.mono (by simpa using hB2.size))
  clear m0 m1 n0 n1 hB2 hb3 hz2 C2
  have q0 : (w3.setRow w.heap.size (cv U N)).heap[w.heap.size]? = some (.cells (cv U N) 36 (0, 0)) := setRow_heap _ _ _ _ _ _ p0
  have q1 : (w3.setRow w.heap.size (cv U N)).heap[w.heap.size + 1]? = some (.cells zeroC 36 (0, 0)) := (setRow_other _ _ _ _ (by omega)).trans p1
  go_wp2_with (first
    | (refine wl_storeV rfl _ _ rfl w.heap.size rfl V N U rfl hVl hFl hGl p0 _ rfl ?_)
    | (refine wl_loadC rfl _ rfl w.heap.size rfl U N q0 hGl hFl ?_)
    | (refine wl_storeC rfl _ _ rfl (w.heap.size + 1) U N rfl rfl _ q1 rfl hGl hFl _ rfl ?_))
  refine retC (p := 6) rfl rfl (w.heap.size + 1) rfl _ _ hGl hFl (setRow_heap _ _ _ _ _ _ q1) ⟨rfl, ?_⟩
  exact below_setRow (below_setRow hB3 (Nat.le_refl _) _) (by omega) _

/-- The bits ahead of a place, all others nought. -/
def upto (k : Nat) (f : Nat → Bool) : List Int := mk fun j => decide (j < k) && f j
theorem upto_byt (k : Nat) (f : Nat → Bool) : Byt (upto k f) := mk_byt _
theorem upto_zero (f : Nat → Bool) : upto 0 f = Z := mk_ext _ _ fun i _ => by simp
theorem upto_all (f : Nat → Bool) : upto 104 f = mk f := mk_ext _ _ fun i hi => by simp [hi]
theorem upto_succ (k : Nat) (f : Nat → Bool) : setb (upto k f) k (f k) = upto (k + 1) f :=
  mk_ext _ _ fun i hi => by
    by_cases e : i = k
    · subst e; simp
    · rw [if_neg e]
      unfold upto
      rw [mk_bt _ i hi]
      congr 1
      rw [decide_eq_decide]
      omega
end Go.Proofs.Ytfbphblodankmaa
