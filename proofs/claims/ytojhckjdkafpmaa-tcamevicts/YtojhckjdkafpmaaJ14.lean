import Derived.Test.YtojhckjdkafpmaaJ4
namespace Go.Proofs.Ytojhckjdkafpmaa
open Go Go.RowKit
set_option maxRecDepth 20000

/-- A bit of a cube: 0, 1, or 2, if it is free. -/
def atI (V M : List Int) (i : Nat) : Int := if bt M i then (if bt V i then 1 else 0) else 2
theorem at_ne2 (V M : List Int) (i : Nat) : (atI V M i != 2) = bt M i := by
  unfold atI; cases bt M i <;> cases bt V i <;> rfl
theorem at_eq1 (V M : List Int) (i : Nat) : (atI V M i == 1) = (bt V i && bt M i) := by
  unfold atI; cases bt M i <;> cases bt V i <;> rfl
theorem at_ne0 (V M : List Int) (i : Nat) : (atI V M i != 0) = ((bt V i && bt M i) || !(bt M i)) := by
  unfold atI; cases bt M i <;> cases bt V i <;> rfl
theorem at_cases (V M : List Int) (i : Nat) : atI V M i = 0 ∨ atI V M i = 1 ∨ atI V M i = 2 := by
  unfold atI; cases bt M i <;> cases bt V i <;> simp

set_option maxHeartbeats 1000000 in
theorem at_any (V M : List Int) (hV : Byt V) (hM : Byt M) (i : Nat) (hi : i < 104) (w : World) :
    Calls Try.prog 51 #[.agg (cv V M), .int .i64 (i : Int)] w fun e w' => e = .returned (.int .i64 (atI V M i)) ∧ Below w.heap.size w w' := by
  have hVl := hV.1
  have hMl := hM.1
  have CM : Hid (∀ W, Calls Try.prog 69 #[.agg (hv M), .int .i64 (i : Int)] W fun e w' => e = .returned (.bool (bt M i)) ∧ Below W.heap.size W w') := rbit_nat M hM i hi
  have CV : Hid (∀ W, Calls Try.prog 69 #[.agg (hv V), .int .i64 (i : Int)] W fun e w' => e = .returned (.bool (bt V i)) ∧ Below W.heap.size W w') := rbit_nat V hV i hi
  clear hV hM
  unfold atI
  obtain ⟨bm, hbm⟩ : ∃ b, b = bt M i := ⟨_, rfl⟩
  obtain ⟨bv, hbv⟩ : ∃ b, b = bt V i := ⟨_, rfl⟩
  rw [← hbm] at CM ⊢
  rw [← hbv] at CV ⊢
  clear hbm hbv
  go_enter Try.func51, Try.ntmps51
  go_wp2_with (first
    | (refine wl_loadM rfl _ rfl w.heap.size rfl V M (heap_new _ _ _ rfl) hVl hMl ?_))
  refine (CM.out _).mono ?_
  rintro e w1 ⟨rfl, hb1⟩
  have g0 : w1.heap[w.heap.size]? = some (.cells (cv V M) 36 (0, 0)) := by rw [hb1.block _ (by simp)]; exact heap_new _ _ _ rfl
  have B1 : Below w.heap.size w w1 := ((Below.refl _ _).alloc (Nat.le_refl _) _).trans (hb1.mono (by simp))
  clear hb1 CM
  cases bm
  · go_wp2_with fail
    go_ret
    exact ⟨rfl, B1⟩
  · go_wp2_with (first
      | (refine wl_loadV rfl _ rfl w.heap.size rfl V M g0 hVl ?_))
    refine (CV.out _).mono ?_
    rintro e w2 ⟨rfl, hb2⟩
    have B2 := B1.trans (hb2.mono B1.size)
    clear hb2 CV
    cases bv
    · go_wp2_with fail
      go_ret
      exact ⟨rfl, B2⟩
    · go_wp2_with fail
      go_ret
      exact ⟨rfl, B2⟩

set_option maxHeartbeats 1000000 in
theorem rset_any (V M : List Int) (hV : Byt V) (hM : Byt M) (i : Nat) (hi : i < 104) (v : Int) (w : World) :
    Calls Try.prog 50 #[.agg (cv V M), .int .i64 (i : Int), .int .i64 v] w fun e w' => e = .returned (.agg (cv (setb V i (v == 1)) (setb M i (v != 2)))) ∧ Below w.heap.size w w' := by
  have hVl := hV.1
  have hMl := hM.1
  have hFl : (setb M i (v != 2)).length = 13 := (setb_byt M i _).1
  have hGl : (setb V i (v == 1)).length = 13 := (setb_byt V i _).1
  have C1 : Hid (∀ W, Calls Try.prog 68 #[.agg (hv M), .int .i64 (i : Int), .bool (v != 2)] W fun e w' => e = .returned (.agg (hv (setb M i (v != 2)))) ∧ Below W.heap.size W w') := rput_nat M hM i hi _
  have C2 : Hid (∀ W, Calls Try.prog 68 #[.agg (hv V), .int .i64 (i : Int), .bool (v == 1)] W fun e w' => e = .returned (.agg (hv (setb V i (v == 1)))) ∧ Below W.heap.size W w') := rput_nat V hV i hi _
  clear hV hM
  obtain ⟨N, hN⟩ : ∃ N, N = setb M i (v != 2) := ⟨_, rfl⟩
  obtain ⟨U, hU⟩ : ∃ U, U = setb V i (v == 1) := ⟨_, rfl⟩
  rw [← hN] at C1 hFl ⊢
  rw [← hU] at C2 hGl ⊢
  clear hN hU
  go_enter Try.func50, Try.ntmps50
  have g0 : ((w.alloc (.cells (cv V M) 36)).alloc (.cells zeroC 36)).heap[w.heap.size]? = some (.cells (cv V M) 36 (0, 0)) := heap_past _ _ _ _ (heap_new _ _ _ rfl)
  have g1 : ((w.alloc (.cells (cv V M) 36)).alloc (.cells zeroC 36)).heap[w.heap.size + 1]? = some (.cells zeroC 36 (0, 0)) := heap_new _ _ _ (by simp)
  have hb : Below w.heap.size w ((w.alloc (.cells (cv V M) 36)).alloc (.cells zeroC 36)) := ((Below.refl _ _).alloc (Nat.le_refl _) _).alloc (by simp) _
  go_wp2_with (first
    | (refine wl_loadM rfl _ rfl w.heap.size rfl V M g0 hVl hMl ?_))
  refine (C1.out _).mono ?_
  rintro e w2 ⟨rfl, hb2⟩
  have m0 : w2.heap[w.heap.size]? = some (.cells (cv V M) 36 (0, 0)) := by rw [hb2.block _ (by simp; omega)]; exact g0
  have m1 : w2.heap[w.heap.size + 1]? = some (.cells zeroC 36 (0, 0)) := by rw [hb2.block _ (by simp)]; exact g1
  have hz2 : w.heap.size + 2 ≤ w2.heap.size := Nat.le_trans (by simp) hb2.size
  have hB2 := hb.trans (hb2.mono hb.size)
  clear g0 g1 hb hb2 C1
  have n0 : (w2.setRow w.heap.size (cv V N)).heap[w.heap.size]? = some (.cells (cv V N) 36 (0, 0)) := setRow_heap _ _ _ _ _ _ m0
  have n1 : (w2.setRow w.heap.size (cv V N)).heap[w.heap.size + 1]? = some (.cells zeroC 36 (0, 0)) := (setRow_other _ _ _ _ (by omega)).trans m1
  go_wp2_with (first
    | (refine wl_storeM rfl _ _ rfl w.heap.size rfl V M N rfl hVl hMl hFl m0 _ rfl ?_)
    | (refine wl_loadV rfl _ rfl w.heap.size rfl V N n0 hVl ?_))
  refine (C2.out _).mono ?_
  rintro e w3 ⟨rfl, hb3⟩
  have p0 : w3.heap[w.heap.size]? = some (.cells (cv V N) 36 (0, 0)) := by rw [hb3.block _ (by simp; omega)]; exact n0
  have p1 : w3.heap[w.heap.size + 1]? = some (.cells zeroC 36 (0, 0)) := by rw [hb3.block _ (by simp; omega)]; exact n1
  have hB3 := (below_setRow hB2 (Nat.le_refl _) (cv V N)).trans (hb3.mono (by simpa using hB2.size))
  clear m0 m1 n0 n1 hB2 hb3 hz2 C2
  have q0 : (w3.setRow w.heap.size (cv U N)).heap[w.heap.size]? = some (.cells (cv U N) 36 (0, 0)) := setRow_heap _ _ _ _ _ _ p0
  have q1 : (w3.setRow w.heap.size (cv U N)).heap[w.heap.size + 1]? = some (.cells zeroC 36 (0, 0)) := (setRow_other _ _ _ _ (by omega)).trans p1
  go_wp2_with (first
    | (refine wl_storeV rfl _ _ rfl w.heap.size rfl V N U rfl hVl hFl hGl p0 _ rfl ?_)
    | (refine wl_loadC rfl _ rfl w.heap.size rfl U N q0 hGl hFl ?_)
    | (refine wl_storeC rfl _ _ rfl (w.heap.size + 1) U N rfl rfl _ q1 rfl hGl hFl _ rfl ?_))
  refine retC (p := 6) rfl rfl (w.heap.size + 1) rfl _ _ hGl hFl (setRow_heap _ _ _ _ _ _ q1) ⟨rfl, ?_⟩
  exact below_setRow (below_setRow hB3 (Nat.le_refl _) _) (by omega) _

/-- The bits ahead of a place, all others nought. -/
def upto (k : Nat) (f : Nat → Bool) : List Int := mk fun j => decide (j < k) && f j
theorem upto_byt (k : Nat) (f : Nat → Bool) : Byt (upto k f) := mk_byt _
theorem upto_zero (f : Nat → Bool) : upto 0 f = Z := mk_ext _ _ fun i _ => by simp
theorem upto_all (f : Nat → Bool) : upto 104 f = mk f := mk_ext _ _ fun i hi => by simp [hi]
theorem upto_succ (k : Nat) (f : Nat → Bool) : setb (upto k f) k (f k) = upto (k + 1) f :=
  mk_ext _ _ fun i hi => by
    by_cases e : i = k
    · subst e; simp
    · rw [if_neg e]
      unfold upto
      rw [mk_bt _ i hi]
      congr 1
      rw [decide_eq_decide]
      omega
end Go.Proofs.Ytojhckjdkafpmaa
namespace Go.Proofs.Ytojhckjdkafpmaa
open Go Go.RowKit
set_option maxRecDepth 20000

theorem wl_zeroC {ops : Array Oper} {rest : List Oper} {o : Oper} {a : Act} {w : World} {Q : Exit → Act → World → Prop} (hg : o.guard = none) (ho : o.op = .build 36 #[])
    (h : wpList Try.prog ops Q rest (a.put o.dst (.agg (cv Z Z))) w) : wpList Try.prog ops Q (o :: rest) a w :=
  wpList_plain hg fun _ hK => by
    unfold Oper.wp execOp
    have e : ((#[] : Array (Nat × Operand)).map (fun (i, x) => (i, a.eval x))) = #[] := by simp
    have hb : (Instr.build 36 #[]).run Try.prog w = .ok (.agg (cv Z Z)) w := by
      rw [← zeroC_eq]; kernel_rfl
    simp only [ho, Sem.run_bind]
    rw [e, hb]
    exact hK _ _ h

set_option maxHeartbeats 2000000 in
theorem rcanon_any (V M : List Int) (hV : Byt V) (hM : Byt M) (w : World) :
    Calls Try.prog 23 #[.agg (cv V M)] w fun e w' => e = .returned (.agg (cv (can V M) M)) ∧ Below w.heap.size w w' := by
  have hVl := hV.1
  have hMl := hM.1
  have hzl := Z_byt.1
  obtain ⟨fV, hfV⟩ : ∃ f : Nat → Bool, f = fun i => bt V i && bt M i := ⟨_, rfl⟩
  obtain ⟨fM, hfM⟩ : ∃ f : Nat → Bool, f = bt M := ⟨_, rfl⟩
  have CA : Hid (∀ k : Nat, k < 104 → ∀ W, Calls Try.prog 51 #[.agg (cv V M), .int .i64 (k : Int)] W fun e w' => e = .returned (.int .i64 (atI V M k)) ∧ Below W.heap.size W w') := fun k hk => at_any V M hV hM k hk
  have CS : Hid (∀ k : Nat, k < 104 → ∀ W, Calls Try.prog 50 #[.agg (cv (upto k fV) (upto k fM)), .int .i64 (k : Int), .int .i64 (atI V M k)] W fun e w' => e = .returned (.agg (cv (upto (k + 1) fV) (upto (k + 1) fM))) ∧ Below W.heap.size W w') := fun k hk => by
    have := rset_any _ _ (upto_byt k fV) (upto_byt k fM) k hk (atI V M k)
    rwa [at_ne2, at_eq1, show (bt V k && bt M k) = fV k by rw [hfV], show bt M k = fM k by rw [hfM], upto_succ, upto_succ] at this
  have HE : Hid (upto 104 fV = can V M ∧ upto 104 fM = M) := by
    show _ ∧ _
    rw [upto_all, upto_all, hfV, hfM]; exact ⟨rfl, mk_of M hM⟩
  clear hV hM hfV hfM
  have lV : ∀ k, (upto k fV).length = 13 := fun k => (upto_byt k fV).1
  have lM : ∀ k, (upto k fM).length = 13 := fun k => (upto_byt k fM).1
  go_enter Try.func23, Try.ntmps23
  go_wp2_with (first
    | (refine wl_zeroC rfl rfl ?_)
    | (refine wl_storeC rfl _ _ rfl (w.heap.size + 2) Z Z rfl rfl _ (heap_new _ _ _ (by simp)) rfl hzl hzl _ (setRow_new _ _ _ _ _ (by simp)) ?_))
  go_loopw [4] (fun i wr => ∃ k : Nat, k ≤ 104 ∧ i = .int .i64 k ∧ wr.heap[w.heap.size]? = some (.cells (cv V M) 36 (0, 0)) ∧ wr.heap[w.heap.size + 1]? = some (.cells zeroC 36 (0, 0)) ∧ wr.heap[w.heap.size + 2]? = some (.cells (cv (upto k fV) (upto k fM)) 36 (0, 0)) ∧ Below w.heap.size w wr) (fun i _ => 104 - (intOf i).toNat)
  case atStart => exact ⟨0, Nat.zero_le _, rfl, heap_past _ _ _ _ (heap_past _ _ _ _ (heap_new _ _ _ rfl)), heap_past _ _ _ _ (heap_new _ _ _ (by simp)), by rw [upto_zero, upto_zero]; exact heap_new _ _ _ (by simp), (((Below.refl _ _).alloc (Nat.le_refl _) _).alloc (by simp) _).alloc (by simp; omega) _⟩
  case round =>
    obtain ⟨k, hk, rfl, g0, g1, g2, hb⟩ := hrel
    have l1 := lV k
    have l2 := lM k
    have l3 := lV (k + 1)
    have l4 := lM (k + 1)
    by_cases hlt : k < 104
    · have C1 : Hid (∀ W, Calls Try.prog 51 #[.agg (cv V M), .int .i64 (k : Int)] W fun e w' => e = .returned (.int .i64 (atI V M k)) ∧ Below W.heap.size W w') := CA.out k hlt
      have C2 : Hid (∀ W, Calls Try.prog 50 #[.agg (cv (upto k fV) (upto k fM)), .int .i64 (k : Int), .int .i64 (atI V M k)] W fun e w' => e = .returned (.agg (cv (upto (k + 1) fV) (upto (k + 1) fM))) ∧ Below W.heap.size W w') := CS.out k hlt
      go_wp2_with fail
      have ne1 := Later.ne wr
      refine wp_region_latertail 6 (by kernel_rfl) (by kernel_rfl) ?_
      simp only [List.take_succ_cons, List.take_zero, List.drop_succ_cons, List.drop_zero]
      refine qlC rfl _ rfl (w.heap.size + 2) rfl (upto k fV) (upto k fM) g2 l1 l2 ?_
      simp only [Act.put, List.setIfInBounds_toArray, List.set_cons_succ, List.set_cons_zero]
      go_big_quiet_step (fail)
      refine qlC rfl _ rfl w.heap.size rfl V M g0 hVl hMl ?_
      simp only [Act.put, List.setIfInBounds_toArray, List.set_cons_succ, List.set_cons_zero]
      go_big_quiet_step (fail)
      go_big_quiet_want; go_big_quiet_op
      refine ⟨_, fun u => Calls.later_of (C1.out u.world), ?_⟩
      go_big_quiet_on
      go_big_quiet_want; go_big_quiet_op
      refine ⟨_, fun u => Calls.later_of (C2.out u.world), ?_⟩
      go_big_quiet_on
      refine wpQuiet_nil ?_
      rintro w' ⟨u, rfl⟩
      have k0 := later_block g0 _ ⟨u, rfl⟩
      have k1 := later_block g1 _ ⟨u, rfl⟩
      have k2 := later_block g2 _ ⟨u, rfl⟩
      have hb2 := hb.trans (u.below.mono hb.size)
      clear g0 g1 g2 hb ne1 C1 C2
      go_wp2_with (first
        | (refine wl_storeC rfl _ _ rfl (w.heap.size + 2) (upto (k + 1) fV) (upto (k + 1) fM) rfl rfl _ k2 (cv_size _ _ l1 l2) l3 l4 _ rfl ?_))
      go_roundw
      case rel =>
        exact ⟨k + 1, by omega, by go_num, (setRow_other _ _ _ _ (by omega)).trans k0, (setRow_other _ _ _ _ (by omega)).trans k1, setRow_heap _ _ _ _ _ _ k2, below_setRow hb2 (by omega) _⟩
      case measure => simp [intOf]; omega
    · obtain rfl : k = 104 := by omega
      rw [HE.out.1, HE.out.2] at g2
      have hCl := (can_byt V M).1
      go_wp2_with (first
        | (refine wl_loadC rfl _ rfl (w.heap.size + 2) rfl (can V M) M g2 hCl hMl ?_)
        | (refine wl_storeC rfl _ _ rfl (w.heap.size + 1) (can V M) M rfl rfl _ g1 rfl hCl hMl _ rfl ?_))
      refine retC (p := 2) rfl rfl (w.heap.size + 1) rfl (can V M) M hCl hMl (setRow_heap _ _ _ _ _ _ g1) ⟨rfl, ?_⟩
      exact below_setRow hb (by omega) _

set_option maxHeartbeats 2000000 in
theorem rhas_any (V M H : List Int) (hV : Byt V) (hM : Byt M) (hH : Byt H) (w : World) :
    Calls Try.prog 74 #[.agg (cv V M), .agg (hv H)] w fun e w' => e = .returned (.bool (has V M H)) ∧ Below w.heap.size w w' := by
  have hVl := hV.1
  have hMl := hM.1
  have hHl := hH.1
  have CA : Hid (∀ k : Nat, k < 104 → ∀ W, Calls Try.prog 51 #[.agg (cv V M), .int .i64 (k : Int)] W fun e w' => e = .returned (.int .i64 (atI V M k)) ∧ Below W.heap.size W w') := fun k hk => at_any V M hV hM k hk
  have CB : Hid (∀ k : Nat, k < 104 → ∀ W, Calls Try.prog 69 #[.agg (hv H), .int .i64 (k : Int)] W fun e w' => e = .returned (.bool (bt H k)) ∧ Below W.heap.size W w') := fun k hk => rbit_nat H hH k hk
  clear hV hM hH
  go_enter Try.func74, Try.ntmps74
  go_wp2_with fail
  go_loopw [5] (fun i wr => ∃ k : Nat, k ≤ 104 ∧ i = .int .i64 k ∧ (∀ j, j < k → bt M j = true → bt V j = bt H j) ∧ wr.heap[w.heap.size]? = some (.cells (cv V M) 36 (0, 0)) ∧ wr.heap[w.heap.size + 1]? = some (.cells (hv H) 34 (0, 0)) ∧ Below w.heap.size w wr) (fun i _ => 104 - (intOf i).toNat)
  case atStart => exact ⟨0, Nat.zero_le _, rfl, fun j hj => by omega, heap_past _ _ _ _ (heap_new _ _ _ rfl), heap_new _ _ _ (by simp), ((Below.refl _ _).alloc (Nat.le_refl _) _).alloc (by simp) _⟩
  case round =>
    obtain ⟨k, hk, rfl, hj, g0, g1, hb⟩ := hrel
    have HJ : Hid (∀ j, j < k → bt M j = true → bt V j = bt H j) := hj
    have hz := (Array.getElem?_eq_some_iff.1 g1).1
    clear hj
    by_cases hlt : k < 104
    · go_wp2_with (first
        | (refine wl_loadC rfl _ rfl w.heap.size rfl V M g0 hVl hMl ?_))
      refine (CA.out k hlt _).mono ?_
      rintro e w1 ⟨rfl, hb1⟩
      have k0 : w1.heap[w.heap.size]? = some (.cells (cv V M) 36 (0, 0)) := by rw [hb1.block _ (by omega)]; exact g0
      have k1 : w1.heap[w.heap.size + 1]? = some (.cells (hv H) 34 (0, 0)) := by rw [hb1.block _ (by omega)]; exact g1
      have B1 := hb.trans (hb1.mono hb.size)
      have hz1 := Nat.lt_of_lt_of_le hz hb1.size
      clear g0 g1 hb hb1 hz
      by_cases hm : bt M k = true
      · have HM : Hid (bt M k = true) := hm
        obtain ⟨bv, hbv⟩ : ∃ b, b = bt V k := ⟨_, rfl⟩
        have ea : atI V M k = if bv then 1 else 0 := by unfold atI; rw [hm, ← hbv]; rfl
        rw [ea]
        obtain ⟨bh, hbh⟩ : ∃ b, b = bt H k := ⟨_, rfl⟩
        have C1 : Hid (∀ W, Calls Try.prog 69 #[.agg (hv H), .int .i64 (k : Int)] W fun e w' => e = .returned (.bool bh) ∧ Below W.heap.size W w') := by rw [hbh]; exact CB.out k hlt
        have HBV : Hid (bv = bt V k) := hbv
        have HBH : Hid (bh = bt H k) := hbh
        clear hm ea hbv hbh
        cases bv <;> cases bh
        all_goals
          go_wp2_with (first
            | (refine wl_loadHg rfl _ rfl (w.heap.size + 1) rfl H k1 hHl ?_))
          refine (C1.out _).mono ?_
          rintro e w2 ⟨rfl, hb2⟩
          have l0 : w2.heap[w.heap.size]? = some (.cells (cv V M) 36 (0, 0)) := by rw [hb2.block _ (by omega)]; exact k0
          have l1 : w2.heap[w.heap.size + 1]? = some (.cells (hv H) 34 (0, 0)) := by rw [hb2.block _ (by omega)]; exact k1
          have B2 := B1.trans (hb2.mono B1.size)
          clear k0 k1 hb2 C1 B1 hz1
          go_wp2_with fail
        · go_roundw
          case rel =>
            refine ⟨k + 1, by omega, by go_num, fun j hj hm => ?_, l0, l1, B2⟩
            by_cases e : j = k
            · subst e; rw [← HBV.out, ← HBH.out]
            · exact HJ.out j (by omega) hm
          case measure => simp [intOf]; omega
        · go_ret
          refine ⟨ret_bool ?_, B2⟩
          cases e : has V M H
          · rfl
          · have := (has_iff V M H).1 e k hlt HM.out
            rw [← HBV.out, ← HBH.out] at this; cases this
        · go_ret
          refine ⟨ret_bool ?_, B2⟩
          cases e : has V M H
          · rfl
          · have := (has_iff V M H).1 e k hlt HM.out
            rw [← HBV.out, ← HBH.out] at this; cases this
        · go_roundw
          case rel =>
            refine ⟨k + 1, by omega, by go_num, fun j hj hm => ?_, l0, l1, B2⟩
            by_cases e : j = k
            · subst e; rw [← HBV.out, ← HBH.out]
            · exact HJ.out j (by omega) hm
          case measure => simp [intOf]; omega
      · have hm' : bt M k = false := by simpa using hm
        have HM : Hid (bt M k = false) := hm'
        have ea : atI V M k = 2 := by unfold atI; rw [hm']; rfl
        rw [ea]
        clear hm hm' ea
        go_wp2_with fail
        go_roundw
        case rel =>
          refine ⟨k + 1, by omega, by go_num, fun j hj hm => ?_, k0, k1, B1⟩
          by_cases e : j = k
          · subst e; rw [HM.out] at hm; cases hm
          · exact HJ.out j (by omega) hm
        case measure => simp [intOf]; omega
    · obtain rfl : k = 104 := by omega
      go_wp2_with fail
      go_ret
      exact ⟨ret_bool ((has_iff V M H).2 HJ.out).symm, hb⟩
end Go.Proofs.Ytojhckjdkafpmaa
