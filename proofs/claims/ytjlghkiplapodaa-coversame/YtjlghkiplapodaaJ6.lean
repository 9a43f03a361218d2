import Derived.Test.YtjlghkiplapodaaJ5
namespace Go.Proofs.Ytjlghkiplapodaa
open Go Go.RowKit

theorem wl_zeroC {ops : Array Oper} {rest : List Oper} {o : Oper} {a : Act} {w : World} {Q : Exit → Act → World → Prop} (hg : o.guard = none) (ho : o.op = .build 30 #[])
    (h : wpList Try.prog ops Q rest (a.put o.dst (.agg (cv Z Z))) w) : wpList Try.prog ops Q (o :: rest) a w :=
  wpList_plain hg fun _ hK => by
    unfold Oper.wp execOp
    have e : ((#[] : Array (Nat × Operand)).map (fun (i, x) => (i, a.eval x))) = #[] := by simp
    have hb : (Instr.build 30 #[]).run Try.prog w = .ok (.agg (cv Z Z)) w := by
      rw [← zeroC_eq]; kernel_rfl
    simp only [ho, Sem.run_bind]
    rw [e, hb]
    exact hK _ _ h

set_option maxHeartbeats 2000000 in
theorem rcanon_any (V M : List Int) (hV : Byt V) (hM : Byt M) (w : World) :
    Calls Try.prog 33 #[.agg (cv V M)] w fun e w' => e = .returned (.agg (cv (can V M) M)) ∧ Below w.heap.size w w' := by
  have hVl := hV.1
  have hMl := hM.1
  have hzl := Z_byt.1
  obtain ⟨fV, hfV⟩ : ∃ f : Nat → Bool, f = fun i => bt V i && bt M i := ⟨_, rfl⟩
  obtain ⟨fM, hfM⟩ : ∃ f : Nat → Bool, f = bt M := ⟨_, rfl⟩
  have CA : Hid (∀ k : Nat, k < 104 → ∀ W, Calls Try.prog 43 #[.agg (cv V M), .int .i64 (k : Int)] W fun e w' => e = .returned (.int .i64 (atI V M k)) ∧ Below W.heap.size W w') := fun k hk => at_any V M hV hM k hk
  have CS : Hid (∀ k : Nat, k < 104 → ∀ W, Calls Try.prog 45 #[.agg (cv (upto k fV) (upto k fM)), .int .i64 (k : Int), .int .i64 (atI V M k)] W fun e w' => e = .returned (.agg (cv (upto (k + 1) fV) (upto (k + 1) fM))) ∧ Below W.heap.size W w') := fun k hk => by
    have := rset_any _ _ (upto_byt k fV) (upto_byt k fM) k hk (atI V M k)
    rwa [at_ne2, at_eq1, show (bt V k && bt M k) = fV k by rw [hfV], show bt M k = fM k by rw [hfM], upto_succ, upto_succ] at this
  have HE : Hid (upto 104 fV = can V M ∧ upto 104 fM = M) := by
    show _ ∧ _
    rw [upto_all, upto_all, hfV, hfM]; exact ⟨rfl, mk_of M hM⟩
  clear hV hM hfV hfM
  have lV : ∀ k, (upto k fV).length = 13 := fun k => (upto_byt k fV).1
  have lM : ∀ k, (upto k fM).length = 13 := fun k => (upto_byt k fM).1
  go_enter Try.func33, Try.ntmps33
  go_wp2_with (first
    | (refine wl_zeroC rfl rfl ?_)
    | (refine wl_storeC rfl _ _ rfl (w.heap.size + 2) Z Z rfl rfl _ (heap_new _ _ _ (by simp)) rfl hzl hzl _ (setRow_new _ _ _ _ _ (by simp)) ?_))
  go_loopw [4] (fun i wr => ∃ k : Nat, k ≤ 104 ∧ i = .int .i64 k ∧ wr.heap[w.heap.size]? = some (.cells (cv V M) 30 (0, 0)) ∧ wr.heap[w.heap.size + 1]? = some (.cells zeroC 30 (0, 0)) ∧ wr.heap[w.heap.size + 2]? = some (.cells (cv (upto k fV) (upto k fM)) 30 (0, 0)) ∧ Below w.heap.size w wr) (fun i _ => 104 - (intOf i).toNat)
  case atStart => exact ⟨0, Nat.zero_le _, rfl, heap_past _ _ _ _ (heap_past _ _ _ _ (heap_new _ _ _ rfl)), heap_past _ _ _ _ (heap_new _ _ _ (by simp)), by rw [upto_zero, upto_zero]; exact heap_new _ _ _ (by simp), (((Below.refl _ _).alloc (Nat.le_refl _) _).alloc (by simp) _).alloc (by simp; omega) _⟩
  case round =>
    obtain ⟨k, hk, rfl, g0, g1, g2, hb⟩ := hrel
    have l1 := lV k
    have l2 := lM k
    have l3 := lV (k + 1)
    have l4 := lM (k + 1)
    by_cases hlt : k < 104
    · have C1 : Hid (∀ W, Calls Try.prog 43 #[.agg (cv V M), .int .i64 (k : Int)] W fun e w' => e = .returned (.int .i64 (atI V M k)) ∧ Below W.heap.size W w') := CA.out k hlt
      have C2 : Hid (∀ W, Calls Try.prog 45 #[.agg (cv (upto k fV) (upto k fM)), .int .i64 (k : Int), .int .i64 (atI V M k)] W fun e w' => e = .returned (.agg (cv (upto (k + 1) fV) (upto (k + 1) fM))) ∧ Below W.heap.size W w') := CS.out k hlt
      go_wp2_with fail
      have ne1 := Later.ne wr
      refine wp_region_latertail 6 (by kernel_rfl) (by kernel_rfl) ?_
      simp only [List.take_succ_cons, List.take_zero, List.drop_succ_cons, List.drop_zero]
      refine qlC rfl _ rfl (w.heap.size + 2) rfl (upto k fV) (upto k fM) g2 l1 l2 ?_
      simp only [Act.put, List.setIfInBounds_toArray, List.set_cons_succ, List.set_cons_zero]
      go_big_quiet_step (fail)
      refine qlC rfl _ rfl w.heap.size rfl V M g0 hVl hMl ?_
      simp only [Act.put, List.setIfInBounds_toArray, List.set_cons_succ, List.set_cons_zero]
      go_big_quiet_step (fail)
      go_big_quiet_want; go_big_quiet_op
      refine ⟨_, fun u => Calls.later_of (C1.out u.world), ?_⟩
      go_big_quiet_on
      go_big_quiet_want; go_big_quiet_op
      refine ⟨_, fun u => Calls.later_of (C2.out u.world), ?_⟩
      go_big_quiet_on
      refine wpQuiet_nil ?_
      rintro w' ⟨u, rfl⟩
      have k0 := later_block g0 _ ⟨u, rfl⟩
      have k1 := later_block g1 _ ⟨u, rfl⟩
      have k2 := later_block g2 _ ⟨u, rfl⟩
      have hb2 := hb.trans (u.below.mono hb.size)
      clear g0 g1 g2 hb ne1 C1 C2
      go_wp2_with (first
        | (refine wl_storeC rfl _ _ rfl (w.heap.size + 2) (upto (k + 1) fV) (upto (k + 1) fM) rfl rfl _ k2 (cv_size _ _ l1 l2) l3 l4 _ rfl ?_))
      go_roundw
      case rel =>
        exact ⟨k + 1, by omega, by go_num, (setRow_other _ _ _ _ (by omega)).trans k0, (setRow_other _ _ _ _ (by omega)).trans k1, setRow_heap _ _ _ _ _ _ k2, below_setRow hb2 (by omega) _⟩
      case measure => simp [intOf]; omega
    · obtain rfl : k = 104 := by omega
      rw [HE.out.1, HE.out.2] at g2
      have hCl := (can_byt V M).1
      go_wp2_with (first
        | (refine wl_loadC rfl _ rfl (w.heap.size + 2) rfl (can V M) M g2 hCl hMl ?_)
        | (refine wl_storeC rfl _ _ rfl (w.heap.size + 1) (can V M) M rfl rfl _ g1 rfl hCl hMl _ rfl ?_))
      refine retC (p := 2) rfl rfl (w.heap.size + 1) rfl (can V M) M hCl hMl (setRow_heap _ _ _ _ _ _ g1) ⟨rfl, ?_⟩
      exact below_setRow hb (by omega) _

set_option maxHeartbeats 2000000 in
theorem rhas_any (V M H : List Int) (hV : Byt V) (hM : Byt M) (hH : Byt H) (w : World) :
    Calls Try.prog 26 #[.agg (cv V M), .agg (hv H)] w fun e w' => e = .returned (.bool (has V M H)) ∧ Below w.heap.size w w' := by
  have hVl := hV.1
  have hMl := hM.1
  have hHl := hH.1
  have CA : Hid (∀ k : Nat, k < 104 → ∀ W, Calls Try.prog 43 #[.agg (cv V M), .int .i64 (k : Int)] W fun e w' => e = .returned (.int .i64 (atI V M k)) ∧ Below W.heap.size W w') := fun k hk => at_any V M hV hM k hk
  have CB : Hid (∀ k : Nat, k < 104 → ∀ W, Calls Try.prog 44 #[.agg (hv H), .int .i64 (k : Int)] W fun e w' => e = .returned (.bool (bt H k)) ∧ Below W.heap.size W w') := fun k hk => rbit_nat H hH k hk
  clear hV hM hH
  go_enter Try.func26, Try.ntmps26
  go_wp2_with fail
  go_loopw [5] (fun i wr => ∃ k : Nat, k ≤ 104 ∧ i = .int .i64 k ∧ (∀ j, j < k → bt M j = true → bt V j = bt H j) ∧ wr.heap[w.heap.size]? = some (.cells (cv V M) 30 (0, 0)) ∧ wr.heap[w.heap.size + 1]? = some (.cells (hv H) 24 (0, 0)) ∧ Below w.heap.size w wr) (fun i _ => 104 - (intOf i).toNat)
  case atStart => exact ⟨0, Nat.zero_le _, rfl, fun j hj => by omega, heap_past _ _ _ _ (heap_new _ _ _ rfl), heap_new _ _ _ (by simp), ((Below.refl _ _).alloc (Nat.le_refl _) _).alloc (by simp) _⟩
  case round =>
    obtain ⟨k, hk, rfl, hj, g0, g1, hb⟩ := hrel
    have HJ : Hid (∀ j, j < k → bt M j = true → bt V j = bt H j) := hj
    have hz := (Array.getElem?_eq_some_iff.1 g1).1
    clear hj
    by_cases hlt : k < 104
    · go_wp2_with (first
        | (refine wl_loadC rfl _ rfl w.heap.size rfl V M g0 hVl hMl ?_))
      refine (CA.out k hlt _).mono ?_
      rintro e w1 ⟨rfl, hb1⟩
      have k0 : w1.heap[w.heap.size]? = some (.cells (cv V M) 30 (0, 0)) := by rw [hb1.block _ (by omega)]; exact g0
      have k1 : w1.heap[w.heap.size + 1]? = some (.cells (hv H) 24 (0, 0)) := by rw [hb1.block _ (by omega)]; exact g1
      have B1 := hb.trans (hb1.mono hb.size)
      have hz1 := Nat.lt_of_lt_of_le hz hb1.size
      clear g0 g1 hb hb1 hz
      by_cases hm : bt M k = true
      · have HM : Hid (bt M k = true) := hm
        obtain ⟨bv, hbv⟩ : ∃ b, b = bt V k := ⟨_, rfl⟩
        have ea : atI V M k = if bv then 1 else 0 := by unfold atI; rw [hm, ← hbv]; rfl
        rw [ea]
        obtain ⟨bh, hbh⟩ : ∃ b, b = bt H k := ⟨_, rfl⟩
        have C1 : Hid (∀ W, Calls Try.prog 44 #[.agg (hv H), .int .i64 (k : Int)] W fun e w' => e = .returned (.bool bh) ∧ Below W.heap.size W w') := by rw [hbh]; exact CB.out k hlt
        have HBV : Hid (bv = bt V k) := hbv
        have HBH : Hid (bh = bt H k) := hbh
        clear hm ea hbv hbh
        cases bv <;> cases bh
        all_goals
          go_wp2_with (first
            | (refine wl_loadHg rfl _ rfl (w.heap.size + 1) rfl H k1 hHl ?_))
          refine (C1.out _).mono ?_
          rintro e w2 ⟨rfl, hb2⟩
          have l0 : w2.heap[w.heap.size]? = some (.cells (cv V M) 30 (0, 0)) := by rw [hb2.block _ (by omega)]; exact k0
          have l1 : w2.heap[w.heap.size + 1]? = some (.cells (hv H) 24 (0, 0)) := by rw [hb2.block _ (by omega)]; exact k1
          have B2 := B1.trans (hb2.mono B1.size)
          clear k0 k1 hb2 C1 B1 hz1
          go_wp2_with fail
        · go_roundw
          case rel =>
            refine ⟨k + 1, by omega, by go_num, fun j hj hm => ?_, l0, l1, B2⟩
            by_cases e : j = k
            · subst e; rw [← HBV.out, ← HBH.out]
            · exact HJ.out j (by omega) hm
          case measure => simp [intOf]; omega
        · go_ret
          refine ⟨ret_bool ?_, B2⟩
          cases e : has V M H
          · rfl
          · have := (has_iff V M H).1 e k hlt HM.out
            rw [← HBV.out, ← HBH.out] at this; cases this
        · go_ret
          refine ⟨ret_bool ?_, B2⟩
          cases e : has V M H
          · rfl
          · have := (has_iff V M H).1 e k hlt HM.out
            rw [← HBV.out, ← HBH.out] at this; cases this
        · go_roundw
          case rel =>
            refine ⟨k + 1, by omega, by go_num, fun j hj hm => ?_, l0, l1, B2⟩
            by_cases e : j = k
            · subst e; rw [← HBV.out, ← HBH.out]
            · exact HJ.out j (by omega) hm
          case measure => simp [intOf]; omega
      · have hm' : bt M k = false := by simpa using hm
        have HM : Hid (bt M k = false) := hm'
        have ea : atI V M k = 2 := by unfold atI; rw [hm']; rfl
        rw [ea]
        clear hm hm' ea
        go_wp2_with fail
        go_roundw
        case rel =>
          refine ⟨k + 1, by omega, by go_num, fun j hj hm => ?_, k0, k1, B1⟩
          by_cases e : j = k
          · subst e; rw [HM.out] at hm; cases hm
          · exact HJ.out j (by omega) hm
        case measure => simp [intOf]; omega
    · obtain rfl : k = 104 := by omega
      go_wp2_with fail
      go_ret
      exact ⟨ret_bool ((has_iff V M H).2 HJ.out).symm, hb⟩
end Go.Proofs.Ytjlghkiplapodaa
namespace Go.Proofs.Ytjlghkiplapodaa
open Go Go.RowKit

theorem clash_at (V M V' M' : List Int) (k : Nat) : (atI V M k + atI V' M' k == 1) = (bt M k && bt M' k && (bt V k != bt V' k)) := by
  unfold atI; cases bt M k <;> cases bt V k <;> cases bt M' k <;> cases bt V' k <;> rfl
theorem min_ne2 (V M V' M' : List Int) (k : Nat) : ((if atI V' M' k < atI V M k then atI V' M' k else atI V M k) != 2) = (bt M k || bt M' k) := by
  unfold atI; cases bt M k <;> cases bt V k <;> cases bt M' k <;> cases bt V' k <;> rfl
theorem min_eq1 (V M V' M' : List Int) (k : Nat) (h : (bt M k && bt M' k && (bt V k != bt V' k)) = false) : ((if atI V' M' k < atI V M k then atI V' M' k else atI V M k) == 1) = ((bt V k && bt M k) || (bt V' k && bt M' k)) := by
  revert h; unfold atI; cases bt M k <;> cases bt V k <;> cases bt M' k <;> cases bt V' k <;> decide

set_option maxHeartbeats 4000000 in
theorem rmeet_any (V M V' M' : List Int) (hV : Byt V) (hM : Byt M) (hV' : Byt V') (hM' : Byt M') (w : World) :
    Calls Try.prog 28 #[.agg (cv V M), .agg (cv V' M')] w fun e w' => e = .returned (meetR V M V' M') ∧ Below w.heap.size w w' := by
  have hVl := hV.1
  have hMl := hM.1
  have hVl' := hV'.1
  have hMl' := hM'.1
  have hzl := Z_byt.1
  obtain ⟨fV, hfV⟩ : ∃ f : Nat → Bool, f = fun i => (bt V i && bt M i) || (bt V' i && bt M' i) := ⟨_, rfl⟩
  obtain ⟨fM, hfM⟩ : ∃ f : Nat → Bool, f = fun i => bt M i || bt M' i := ⟨_, rfl⟩
  have CA : Hid (∀ k : Nat, k < 104 → ∀ W, Calls Try.prog 43 #[.agg (cv V M), .int .i64 (k : Int)] W fun e w' => e = .returned (.int .i64 (atI V M k)) ∧ Below W.heap.size W w') := fun k hk => at_any V M hV hM k hk
  have CB : Hid (∀ k : Nat, k < 104 → ∀ W, Calls Try.prog 43 #[.agg (cv V' M'), .int .i64 (k : Int)] W fun e w' => e = .returned (.int .i64 (atI V' M' k)) ∧ Below W.heap.size W w') := fun k hk => at_any V' M' hV' hM' k hk
  have CS : Hid (∀ k : Nat, k < 104 → (bt M k && bt M' k && (bt V k != bt V' k)) = false → ∀ m, m = (if atI V' M' k < atI V M k then atI V' M' k else atI V M k) → ∀ W, Calls Try.prog 45 #[.agg (cv (upto k fV) (upto k fM)), .int .i64 (k : Int), .int .i64 m] W fun e w' => e = .returned (.agg (cv (upto (k + 1) fV) (upto (k + 1) fM))) ∧ Below W.heap.size W w') := fun k hk hc m hm => by
    have := rset_any _ _ (upto_byt k fV) (upto_byt k fM) k hk m
    rwa [show (m != 2) = fM k by rw [hm, min_ne2, hfM], show (m == 1) = fV k by rw [hm, min_eq1 _ _ _ _ _ hc, hfV], upto_succ, upto_succ] at this
  have HE : Hid (upto 104 fV = meetV V M V' M' ∧ upto 104 fM = meetM M M') := by
    show _ ∧ _
    rw [upto_all, upto_all, hfV, hfM]; exact ⟨rfl, rfl⟩
  clear hV hM hV' hM' hfV hfM
  have lV : ∀ k, (upto k fV).length = 13 := fun k => (upto_byt k fV).1
  have lM : ∀ k, (upto k fM).length = 13 := fun k => (upto_byt k fM).1
  go_enter Try.func28, Try.ntmps28
  go_wp2_with (first
    | (refine wl_zeroC rfl rfl ?_)
    | (refine wl_storeC rfl _ _ rfl (w.heap.size + 3) Z Z rfl rfl _ (heap_new _ _ _ (by simp)) rfl hzl hzl _ (setRow_new _ _ _ _ _ (by simp)) ?_))
  go_loopw [7] (fun i wr => ∃ k : Nat, k ≤ 104 ∧ i = .int .i64 k ∧ (∀ j, j < k → (bt M j && bt M' j && (bt V j != bt V' j)) = false) ∧ wr.heap[w.heap.size]? = some (.cells (cv V M) 30 (0, 0)) ∧ wr.heap[w.heap.size + 1]? = some (.cells (cv V' M') 30 (0, 0)) ∧ wr.heap[w.heap.size + 2]? = some (.cells zeroC 30 (0, 0)) ∧ wr.heap[w.heap.size + 3]? = some (.cells (cv (upto k fV) (upto k fM)) 30 (0, 0)) ∧ Below w.heap.size w wr) (fun i _ => 104 - (intOf i).toNat)
  case atStart => exact ⟨0, Nat.zero_le _, rfl, fun j hj => by omega, heap_past _ _ _ _ (heap_past _ _ _ _ (heap_past _ _ _ _ (heap_new _ _ _ rfl))), heap_past _ _ _ _ (heap_past _ _ _ _ (heap_new _ _ _ (by simp))), heap_past _ _ _ _ (heap_new _ _ _ (by simp)), by rw [upto_zero, upto_zero]; exact heap_new _ _ _ (by simp), ((((Below.refl _ _).alloc (Nat.le_refl _) _).alloc (by simp) _).alloc (by simp; omega) _).alloc (by simp; omega) _⟩
  case round =>
    obtain ⟨k, hk, rfl, hno, g0, g1, g2, g3, hb⟩ := hrel
    have l1 := lV k
    have l2 := lM k
    have l3 := lV (k + 1)
    have l4 := lM (k + 1)
    have HNO : Hid (∀ j, j < k → (bt M j && bt M' j && (bt V j != bt V' j)) = false) := hno
    have hz := (Array.getElem?_eq_some_iff.1 g3).1
    clear hno
    by_cases hlt : k < 104
    · go_wp2_with (first
        | (refine wl_loadC rfl _ rfl w.heap.size rfl V M g0 hVl hMl ?_))
      refine (CA.out k hlt _).mono ?_
      rintro e w1 ⟨rfl, hb1⟩
      have k0 : w1.heap[w.heap.size]? = some (.cells (cv V M) 30 (0, 0)) := by rw [hb1.block _ (by omega)]; exact g0
      have k1 : w1.heap[w.heap.size + 1]? = some (.cells (cv V' M') 30 (0, 0)) := by rw [hb1.block _ (by omega)]; exact g1
      have k2 : w1.heap[w.heap.size + 2]? = some (.cells zeroC 30 (0, 0)) := by rw [hb1.block _ (by omega)]; exact g2
      have k3 : w1.heap[w.heap.size + 3]? = some (.cells (cv (upto k fV) (upto k fM)) 30 (0, 0)) := by rw [hb1.block _ (by omega)]; exact g3
      have B1 := hb.trans (hb1.mono hb.size)
      have hz1 := Nat.lt_of_lt_of_le hz hb1.size
      clear g0 g1 g2 g3 hb hb1 hz
      go_wp2_with (first
        | (refine wl_loadC rfl _ rfl (w.heap.size + 1) rfl V' M' k1 hVl' hMl' ?_))
      refine (CB.out k hlt _).mono ?_
      rintro e w2 ⟨rfl, hb2⟩
      have m0 : w2.heap[w.heap.size]? = some (.cells (cv V M) 30 (0, 0)) := by rw [hb2.block _ (by omega)]; exact k0
      have m1 : w2.heap[w.heap.size + 1]? = some (.cells (cv V' M') 30 (0, 0)) := by rw [hb2.block _ (by omega)]; exact k1
      have m2 : w2.heap[w.heap.size + 2]? = some (.cells zeroC 30 (0, 0)) := by rw [hb2.block _ (by omega)]; exact k2
      have m3 : w2.heap[w.heap.size + 3]? = some (.cells (cv (upto k fV) (upto k fM)) 30 (0, 0)) := by rw [hb2.block _ (by omega)]; exact k3
      have B2 := B1.trans (hb2.mono B1.size)
      have hz2 := Nat.lt_of_lt_of_le hz1 hb2.size
      clear k0 k1 k2 k3 B1 hb2 hz1
      obtain ⟨x, hx⟩ : ∃ x, x = atI V M k := ⟨_, rfl⟩
      obtain ⟨y, hy⟩ : ∃ y, y = atI V' M' k := ⟨_, rfl⟩
      have hxb : 0 ≤ x ∧ x ≤ 2 := by rw [hx]; rcases at_cases V M k with h | h | h <;> rw [h] <;> decide
      have hyb : 0 ≤ y ∧ y ≤ 2 := by rw [hy]; rcases at_cases V' M' k with h | h | h <;> rw [h] <;> decide
      have hcl := clash_at V M V' M' k
      rw [← hx, ← hy] at hcl ⊢
      obtain ⟨hx0, hx2⟩ := hxb
      obtain ⟨hy0, hy2⟩ := hyb
      have HX : Hid (x = atI V M k) := hx
      have HY : Hid (y = atI V' M' k) := hy
      clear hx hy
      by_cases hc : (bt M k && bt M' k && (bt V k != bt V' k)) = true
      · have hxy : (x + y == 1) = true := by rw [hcl, hc]
        have HC : Hid ((bt M k && bt M' k && (bt V k != bt V' k)) = true) := hc
        clear hcl hc
        go_wp2_with (first
          | (refine wl_zeroC rfl rfl ?_)
          | (refine wl_storeC rfl _ _ rfl (w.heap.size + 2) Z Z rfl rfl _ m2 rfl hzl hzl _ rfl ?_))
        refine retCe (p := 4) (u := 5) rfl rfl (w.heap.size + 2) rfl Z Z hzl hzl (setRow_heap _ _ _ _ _ _ m2) _ rfl ⟨?_, below_setRow B2 (by omega) _⟩
        have hme : meets V M V' M' = false := by
          cases e : meets V M V' M'
          · rfl
          · have h3 := HC.out
            simp only [Bool.and_eq_true] at h3
            rw [(meets_iff V M V' M').1 e k hlt h3.1.1 h3.1.2] at h3
            simp at h3
        rw [meetR_no _ _ _ _ hme]; rfl
      · have hc' : (bt M k && bt M' k && (bt V k != bt V' k)) = false := by simpa using hc
        have hxy : (x + y == 1) = false := by rw [hcl, hc']
        have HC : Hid ((bt M k && bt M' k && (bt V k != bt V' k)) = false) := hc'
        clear hcl hc hc'
        by_cases hmin : y < x
        · have D : Hid (∀ W, Calls Try.prog 45 #[.agg (cv (upto k fV) (upto k fM)), .int .i64 (k : Int), .int .i64 y] W fun e w' => e = .returned (.agg (cv (upto (k + 1) fV) (upto (k + 1) fM))) ∧ Below W.heap.size W w') := CS.out k hlt HC.out y (by rw [← HX.out, ← HY.out, if_pos hmin])
          have hmin2 : ¬ x ≤ y := by omega
          go_wp2_with (first
            | (refine wl_loadC rfl _ rfl (w.heap.size + 3) rfl (upto k fV) (upto k fM) m3 l1 l2 ?_))
          refine (D.out _).mono ?_
          rintro e w3 ⟨rfl, hb3⟩
          have p0 : w3.heap[w.heap.size]? = some (.cells (cv V M) 30 (0, 0)) := by rw [hb3.block _ (by omega)]; exact m0
          have p1 : w3.heap[w.heap.size + 1]? = some (.cells (cv V' M') 30 (0, 0)) := by rw [hb3.block _ (by omega)]; exact m1
          have p2 : w3.heap[w.heap.size + 2]? = some (.cells zeroC 30 (0, 0)) := by rw [hb3.block _ (by omega)]; exact m2
          have p3 : w3.heap[w.heap.size + 3]? = some (.cells (cv (upto k fV) (upto k fM)) 30 (0, 0)) := by rw [hb3.block _ (by omega)]; exact m3
          have B3 := B2.trans (hb3.mono B2.size)
          clear m0 m1 m2 m3 B2 hb3 hz2 D
          go_wp2_with (first
            | (refine wl_storeC rfl _ _ rfl (w.heap.size + 3) (upto (k + 1) fV) (upto (k + 1) fM) rfl rfl _ p3 (cv_size _ _ l1 l2) l3 l4 _ rfl ?_))
          go_roundw
          case rel =>
            refine ⟨k + 1, by omega, by go_num, fun j hj => ?_, (setRow_other _ _ _ _ (by omega)).trans p0, (setRow_other _ _ _ _ (by omega)).trans p1, (setRow_other _ _ _ _ (by omega)).trans p2, setRow_heap _ _ _ _ _ _ p3, below_setRow B3 (by omega) _⟩
            by_cases e : j = k
            · subst e; exact HC.out
            · exact HNO.out j (by omega)
          case measure => simp [intOf]; omega
        · have D : Hid (∀ W, Calls Try.prog 45 #[.agg (cv (upto k fV) (upto k fM)), .int .i64 (k : Int), .int .i64 x] W fun e w' => e = .returned (.agg (cv (upto (k + 1) fV) (upto (k + 1) fM))) ∧ Below W.heap.size W w') := CS.out k hlt HC.out x (by rw [← HX.out, ← HY.out, if_neg hmin])
          have hmin2 : x ≤ y := by omega
          go_wp2_with (first
            | (refine wl_loadC rfl _ rfl (w.heap.size + 3) rfl (upto k fV) (upto k fM) m3 l1 l2 ?_))
          refine (D.out _).mono ?_
          rintro e w3 ⟨rfl, hb3⟩
          have p0 : w3.heap[w.heap.size]? = some (.cells (cv V M) 30 (0, 0)) := by rw [hb3.block _ (by omega)]; exact m0
          have p1 : w3.heap[w.heap.size + 1]? = some (.cells (cv V' M') 30 (0, 0)) := by rw [hb3.block _ (by omega)]; exact m1
          have p2 : w3.heap[w.heap.size + 2]? = some (.cells zeroC 30 (0, 0)) := by rw [hb3.block _ (by omega)]; exact m2
          have p3 : w3.heap[w.heap.size + 3]? = some (.cells (cv (upto k fV) (upto k fM)) 30 (0, 0)) := by rw [hb3.block _ (by omega)]; exact m3
          have B3 := B2.trans (hb3.mono B2.size)
          clear m0 m1 m2 m3 B2 hb3 hz2 D
          go_wp2_with (first
            | (refine wl_storeC rfl _ _ rfl (w.heap.size + 3) (upto (k + 1) fV) (upto (k + 1) fM) rfl rfl _ p3 (cv_size _ _ l1 l2) l3 l4 _ rfl ?_))
          go_roundw
          case rel =>
            refine ⟨k + 1, by omega, by go_num, fun j hj => ?_, (setRow_other _ _ _ _ (by omega)).trans p0, (setRow_other _ _ _ _ (by omega)).trans p1, (setRow_other _ _ _ _ (by omega)).trans p2, setRow_heap _ _ _ _ _ _ p3, below_setRow B3 (by omega) _⟩
            by_cases e : j = k
            · subst e; exact HC.out
            · exact HNO.out j (by omega)
          case measure => simp [intOf]; omega
    · obtain rfl : k = 104 := by omega
      rw [HE.out.1, HE.out.2] at g3
      have hAl := (meetV_byt V M V' M').1
      have hBl := (meetM_byt M M').1
      have hme : meets V M V' M' = true := (meets_iff _ _ _ _).2 fun i hi h1 h2 => by
        have := HNO.out i hi
        rw [h1, h2] at this
        simpa using this
      go_wp2_with (first
        | (refine wl_loadC rfl _ rfl (w.heap.size + 3) rfl (meetV V M V' M') (meetM M M') g3 hAl hBl ?_)
        | (refine wl_storeC rfl _ _ rfl (w.heap.size + 2) (meetV V M V' M') (meetM M M') rfl rfl _ g2 rfl hAl hBl _ rfl ?_))
      refine retCe (p := 4) (u := 5) rfl rfl (w.heap.size + 2) rfl _ _ hAl hBl (setRow_heap _ _ _ _ _ _ g2) _ rfl ⟨?_, below_setRow hb (by omega) _⟩
      rw [meetR_yes _ _ _ _ hme]; rfl
end Go.Proofs.Ytjlghkiplapodaa
namespace Go.Proofs.Ytjlghkiplapodaa
open Go Go.RowKit

/-- The pieces as the chapter lays them. -/
def rGo (M V' M' : List Int) : Nat → Nat → List Int → List Int → List (List Int × List Int)
  | 0, _, _, _ => []
  | f + 1, i, RV, RM => if bt M i = false ∧ bt M' i = true then (setb RV i (!(bt V' i)), setb RM i true) :: rGo M V' M' f (i + 1) (setb RV i (bt V' i)) (setb RM i true) else rGo M V' M' f (i + 1) RV RM
theorem rGo_cut (M V' M' : List Int) (f i : Nat) (RV RM : List Int) (h : bt M i = false) (h2 : bt M' i = true) : rGo M V' M' (f + 1) i RV RM = (setb RV i (!(bt V' i)), setb RM i true) :: rGo M V' M' f (i + 1) (setb RV i (bt V' i)) (setb RM i true) := by
  rw [rGo, if_pos ⟨h, h2⟩]
theorem rGo_pass (M V' M' : List Int) (f i : Nat) (RV RM : List Int) (h : ¬ (bt M i = false ∧ bt M' i = true)) : rGo M V' M' (f + 1) i RV RM = rGo M V' M' f (i + 1) RV RM := by
  rw [rGo, if_neg h]
theorem rGo_nil (M V' M' : List Int) : ∀ (f i : Nat) (RV RM : List Int), i + f ≤ 104 → (∀ j, i ≤ j → j < 104 → ¬ (bt M j = false ∧ bt M' j = true)) → rGo M V' M' f i RV RM = []
  | 0, _, _, _, _, _ => rfl
  | f + 1, i, RV, RM, h, hj => by
    rw [rGo_pass M V' M' f i RV RM (hj i (Nat.le_refl _) (by omega))]
    exact rGo_nil M V' M' f (i + 1) RV RM (by omega) fun j h1 h2 => hj j (by omega) h2

theorem bt_setb (L : List Int) (i : Nat) (b : Bool) (k : Nat) (hk : k < 104) : bt (setb L i b) k = if k = i then b else bt L k := setb_bt L i b k hk

theorem mGo_rGo (V M V' M' : List Int) : ∀ (f i : Nat) (RV RM : List Int), i + f = 104 → (∀ j, i ≤ j → j < 104 → bt RM j = bt M j) → can RV RM = RV →
    mGo (meetV V M V' M') (meetM M M') f i RV RM = rGo M V' M' f i RV RM
  | 0, _, _, _, _, _, _ => rfl
  | f + 1, i, RV, RM, hf, hj, hc => by
    have hi : i < 104 := by omega
    have eM : ∀ j, j < 104 → bt (meetM M M') j = (bt M j || bt M' j) := fun j h => mk_bt _ j h
    have eV : bt (meetV V M V' M') i = ((bt V i && bt M i) || (bt V' i && bt M' i)) := mk_bt _ i hi
    by_cases hst : (RV == meetV V M V' M' && RM == meetM M M') = true
    · rw [mGo_stop _ _ _ _ _ _ hst]
      symm
      refine rGo_nil M V' M' (f + 1) i RV RM (by omega) fun j h1 h2 => ?_
      rw [Bool.and_eq_true, beq_iff_eq, beq_iff_eq] at hst
      have h3 := hj j h1 h2
      rw [hst.2, eM j h2] at h3
      rintro ⟨h4, h5⟩
      rw [h4, h5] at h3
      cases h3
    · have hst' : (RV == meetV V M V' M' && RM == meetM M M') = false := by simpa using hst
      have h3 := hj i (Nat.le_refl _) hi
      by_cases hcut : bt M i = false ∧ bt M' i = true
      · obtain ⟨h4, h5⟩ := hcut
        rw [mGo_cut _ _ _ _ _ _ hst' (by rw [h3]; exact h4) (by rw [eM i hi, h5]; simp), rGo_cut M V' M' f i RV RM h4 h5]
        rw [h4, h5] at eV
        simp only [Bool.and_false, Bool.and_true, Bool.false_or] at eV
        rw [eV]
        unfold fixV fixM
        rw [hc]
        congr 1
        refine mGo_rGo V M V' M' f (i + 1) _ _ (by omega) (fun j h6 h7 => ?_) ?_
        · rw [bt_setb _ _ _ _ h7, if_neg (by omega)]; exact hj j (by omega) h7
        · refine bt_ext _ _ (can_byt _ _) (setb_byt _ _ _) fun k hk => ?_
          rw [can_bt _ _ k hk, bt_setb _ _ _ _ hk, bt_setb _ _ _ _ hk]
          by_cases e : k = i
          · rw [if_pos e, if_pos e, Bool.and_true]
          · rw [if_neg e, if_neg e, ← can_bt _ _ k hk, hc]
      · rw [rGo_pass M V' M' f i RV RM hcut, mGo_pass _ _ _ _ _ _ hst' (by
          rw [h3, eM i hi]
          revert hcut
          cases bt M i <;> cases bt M' i <;> simp)]
        exact mGo_rGo V M V' M' f (i + 1) RV RM (by omega) (fun j h1 h2 => hj j (by omega) h2) hc

/-- How many of a list's cubes have a header. -/
def cnt (H : List Int) : List (List Int × List Int) → Nat
  | [] => 0
  | c :: C => (if has c.1 c.2 H = true then 1 else 0) + cnt H C
theorem cnt_append (H : List Int) : ∀ (C D : List (List Int × List Int)), cnt H (C ++ D) = cnt H C + cnt H D
  | [], D => by simp [cnt]
  | c :: C, D => by rw [List.cons_append, cnt, cnt, cnt_append H C D]; omega
theorem cnt_le (H : List Int) : ∀ C : List (List Int × List Int), cnt H C ≤ C.length
  | [] => Nat.le_refl _
  | c :: C => by have := cnt_le H C; rw [cnt, List.length_cons]; split <;> omega

theorem has_setb (RV RM H : List Int) (i : Nat) (b : Bool) (hi : i < 104) (hf : bt RM i = false) : has (setb RV i b) (setb RM i true) H = (has RV RM H && (bt H i == b)) := by
  rw [Bool.eq_iff_iff, Bool.and_eq_true, has_iff, has_iff, beq_iff_eq]
  constructor
  · intro g
    constructor
    · intro k hk hm
      have hki : k ≠ i := by rintro rfl; rw [hf] at hm; cases hm
      have := g k hk (by rw [bt_setb _ _ _ _ hk, if_neg hki]; exact hm)
      rwa [bt_setb _ _ _ _ hk, if_neg hki] at this
    · have := g i hi (by rw [bt_setb _ _ _ _ hi, if_pos rfl])
      rw [bt_setb _ _ _ _ hi, if_pos rfl] at this
      exact this.symm
  · rintro ⟨g1, g2⟩ k hk hm
    rw [bt_setb _ _ _ _ hk]
    rw [bt_setb _ _ _ _ hk] at hm
    by_cases h : k = i
    · rw [if_pos h, h, g2]
    · rw [if_neg h] at hm ⊢
      exact g1 k hk hm

/-- Is there a bit, from a place on, that is free in the first cube, fixed in the second one, and another one in the header? -/
def far (M V' M' H : List Int) : Nat → Nat → Bool
  | 0, _ => false
  | f + 1, i => (!(bt M i) && bt M' i && (bt H i != bt V' i)) || far M V' M' H f (i + 1)
theorem far_iff (M V' M' H : List Int) : ∀ f i, far M V' M' H f i = true ↔ ∃ j, i ≤ j ∧ j < i + f ∧ bt M j = false ∧ bt M' j = true ∧ bt H j ≠ bt V' j
  | 0, i => by
    simp only [far, Bool.false_eq_true, false_iff]
    rintro ⟨j, h1, h2, _⟩; omega
  | f + 1, i => by
    rw [far, Bool.or_eq_true, far_iff M V' M' H f (i + 1)]
    constructor
    · rintro (h | ⟨j, h1, h2, h3⟩)
      · refine ⟨i, Nat.le_refl _, by omega, ?_⟩
        revert h
        cases bt M i <;> cases bt M' i <;> simp
      · exact ⟨j, by omega, by omega, h3⟩
    · rintro ⟨j, h1, h2, h3, h4, h5⟩
      by_cases e : j = i
      · subst e; left; rw [h3, h4]; simpa using h5
      · right; exact ⟨j, by omega, by omega, h3, h4, h5⟩

theorem cnt_rGo (M V' M' H : List Int) : ∀ (f i : Nat) (RV RM : List Int), i + f = 104 → (∀ j, i ≤ j → j < 104 → bt RM j = bt M j) →
    cnt H (rGo M V' M' f i RV RM) = if (has RV RM H && far M V' M' H f i) = true then 1 else 0
  | 0, _, _, _, _, _ => by simp [rGo, cnt, far]
  | f + 1, i, RV, RM, hf, hj => by
    have hi : i < 104 := by omega
    have h3 := hj i (Nat.le_refl _) hi
    by_cases hcut : bt M i = false ∧ bt M' i = true
    · obtain ⟨h4, h5⟩ := hcut
      have hj' : ∀ j, i + 1 ≤ j → j < 104 → bt (setb RM i true) j = bt M j := fun j h6 h7 => by
        rw [bt_setb _ _ _ _ h7, if_neg (by omega)]; exact hj j (by omega) h7
      rw [rGo_cut M V' M' f i RV RM h4 h5, cnt, cnt_rGo M V' M' H f (i + 1) _ _ (by omega) hj', has_setb _ _ _ _ _ hi (by rw [h3]; exact h4), has_setb _ _ _ _ _ hi (by rw [h3]; exact h4), far, h4, h5]
      cases has RV RM H <;> cases bt H i <;> cases bt V' i <;> cases far M V' M' H f (i + 1) <;> rfl
    · rw [rGo_pass M V' M' f i RV RM hcut, cnt_rGo M V' M' H f (i + 1) RV RM (by omega) fun j h1 h2 => hj j (by omega) h2, far]
      rw [show (!(bt M i) && bt M' i && (bt H i != bt V' i)) = false by
        revert hcut
        cases bt M i <;> cases bt M' i <;> simp, Bool.false_or]

theorem minus_rGo (V M V' M' : List Int) (h : meets V M V' M' = true) : minusC V M V' M' = rGo M V' M' 104 0 (can V M) M := by
  rw [minusC_yes _ _ _ _ h]
  refine mGo_rGo V M V' M' 104 0 _ _ rfl (fun _ _ _ => rfl) ?_
  refine bt_ext _ _ (can_byt _ _) (can_byt _ _) fun i hi => ?_
  rw [can_bt _ _ i hi, can_bt _ _ i hi]; cases bt V i <;> cases bt M i <;> rfl

theorem has_can' (V M H : List Int) : has (can V M) M H = has V M H := by
  rw [Bool.eq_iff_iff, has_iff, has_iff]
  constructor
  · intro h i hi hm
    have := h i hi hm
    rwa [can_bt _ _ i hi, hm, Bool.and_true] at this
  · intro h i hi hm
    rw [can_bt _ _ i hi, hm, Bool.and_true]; exact h i hi hm

theorem cnt_minus (V M V' M' H : List Int) : cnt H (minusC V M V' M') = if (has V M H && !(has V' M' H)) = true then 1 else 0 := by
  cases hm : meets V M V' M'
  · rw [minusC_no _ _ _ _ hm, cnt, cnt, has_can', Nat.add_zero]
    cases hx : has V M H
    · rfl
    · cases hy : has V' M' H
      · rfl
      · rw [has_iff] at hx hy
        have : meets V M V' M' = true := (meets_iff _ _ _ _).2 fun i hi h1 h2 => by rw [hx i hi h1, hy i hi h2]
        rw [hm] at this; cases this
  · rw [minus_rGo _ _ _ _ hm, cnt_rGo M V' M' H 104 0 _ _ rfl (fun _ _ _ => rfl), has_can']
    cases hx : has V M H
    · rfl
    · rw [Bool.true_and, Bool.true_and]
      have e : far M V' M' H 104 0 = !(has V' M' H) := by
        rw [Bool.eq_iff_iff, far_iff, Bool.not_eq_true']
        rw [has_iff] at hx
        rw [meets_iff] at hm
        constructor
        · rintro ⟨j, _, h2, h3, h4, h5⟩
          cases hy : has V' M' H
          · rfl
          · rw [has_iff] at hy
            exact absurd (hy j (by omega) h4).symm h5
        · intro hy
          refine Classical.byContradiction fun hn => ?_
          have : has V' M' H = true := (has_iff _ _ _).2 fun i hi h1 => by
            cases h2 : bt M i
            · refine Classical.byContradiction fun h3 => hn ⟨i, Nat.zero_le _, by omega, h2, h1, fun h4 => h3 h4.symm⟩
            · rw [← hm i hi h2 h1]; exact hx i hi h2
          rw [hy] at this; cases this
      rw [e]
end Go.Proofs.Ytjlghkiplapodaa
