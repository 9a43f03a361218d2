import Derived.Test.YtdibjhlckjjlfaaJ6
import Derived.Test.YtdibjhlckjjlfaaJ5
import Derived.Test.YtdibjhlckjjlfaaJ1
import Derived.Maps.AppendAt
import Derived.OwnWalk
namespace Go.Proofs.Ytdibjhlckjjlfaa
open Go Go.RowKit
set_option maxRecDepth 20000

/-! The least bit by which a cube hasn't a header: the code's and the reference's. -/
def oddP (H : List Int) (c : List Int × List Int) (i : Nat) : Bool := bt c.2 i && (bt c.1 i != bt H i)
def oddI (H : List Int) (c : List Int × List Int) : Nat := (oddA H c).getD 104
theorem odd_hit {H : List Int} {c : List Int × List Int} {k : Nat} (hk : k < 104) (h : ∀ j, j < k → oddP H c j = false) (h1 : oddP H c k = true) : oddI H c = k := by
  have : oddA H c = some k := by
    unfold oddA
    rw [List.find?_range_eq_some]
    refine ⟨h1, List.mem_range.2 hk, fun j hj => ?_⟩
    have := h j hj
    unfold oddP at this
    rw [this]; rfl
  unfold oddI
  rw [this]; rfl
theorem odd_end {H : List Int} {c : List Int × List Int} (h : ∀ j, j < 104 → oddP H c j = false) : oddI H c = 104 := by
  have : oddA H c = none := by
    unfold oddA
    rw [List.find?_eq_none]
    intro j hj
    have := h j (List.mem_range.1 hj)
    unfold oddP at this
    rw [this]; decide
  unfold oddI
  rw [this]; rfl
theorem odd_some15 {H : List Int} {c : List Int × List Int} (h : has c.1 c.2 H = false) : oddA H c = some (oddI H c) ∧ oddI H c < 104 := by
  obtain ⟨i, hi⟩ := odd_some h
  have := odd_is hi
  unfold oddI
  rw [hi]
  exact ⟨rfl, this.1⟩
theorem odd_next {H : List Int} {c : List Int × List Int} {k : Nat} (h : ∀ j, j < k → oddP H c j = false) (h1 : oddP H c k = false) : ∀ j, j < k + 1 → oddP H c j = false := fun j hj => by
  by_cases e : j = k
  · rw [e]; exact h1
  · exact h j (by omega)
set_option maxHeartbeats 4000000 in
theorem apart_any (V M H : List Int) (hV : Byt V) (hM : Byt M) (hH : Byt H) (w : World) :
    Calls Try.prog 38 #[.agg (cv V M), .agg (hv H)] w fun e w' => e = .returned (.int .i64 (oddI H (V, M) : Nat)) ∧ Below w.heap.size w w' := by
  have hVl := hV.1
  have hMl := hM.1
  have hHl := hH.1
  have CM : Hid (∀ k : Nat, k < 104 → ∀ W, Calls Try.prog 36 #[.agg (hv M), .int .i64 (k : Int)] W fun e w' => e = .returned (.bool (bt M k)) ∧ Below W.heap.size W w') := fun k hk => hbit_nat M hM k hk
  have CV : Hid (∀ k : Nat, k < 104 → ∀ W, Calls Try.prog 36 #[.agg (hv V), .int .i64 (k : Int)] W fun e w' => e = .returned (.bool (bt V k)) ∧ Below W.heap.size W w') := fun k hk => hbit_nat V hV k hk
  have CH : Hid (∀ k : Nat, k < 104 → ∀ W, Calls Try.prog 36 #[.agg (hv H), .int .i64 (k : Int)] W fun e w' => e = .returned (.bool (bt H k)) ∧ Below W.heap.size W w') := fun k hk => hbit_nat H hH k hk
  clear hV hM hH
  go_enter Try.func38, Try.ntmps38
  go_wp2_with fail
  go_loopw [6] (fun i wr => ∃ k : Nat, k ≤ 104 ∧ i = .int .i64 k ∧ Hid (∀ j, j < k → oddP H (V, M) j = false) ∧ wr.heap[w.heap.size]? = some (.cells (cv V M) 30 (0, 0)) ∧ wr.heap[w.heap.size + 1]? = some (.cells (hv H) 28 (0, 0)) ∧ Below w.heap.size w wr) (fun i _ => 104 - (intOf i).toNat)
  case atStart => exact ⟨0, Nat.zero_le _, rfl, fun j hj => by omega, heap_past _ _ _ _ (heap_new _ _ _ rfl), heap_new _ _ _ (by simp), ((Below.refl _ _).alloc (Nat.le_refl _) _).alloc (by simp) _⟩
  case round =>
    obtain ⟨k, hk, rfl, HJ, g0, g1, hb⟩ := hrel
    by_cases hlt : k < 104
    · have hlt' : (k : Int) < 104 := by omega
      have D1 := CM.out k hlt
      have D2 := CV.out k hlt
      have D3 := CH.out k hlt
      obtain ⟨x, hx⟩ : ∃ x, x = bt M k := ⟨_, rfl⟩
      obtain ⟨y, hy⟩ : ∃ y, y = bt V k := ⟨_, rfl⟩
      obtain ⟨z, hz⟩ : ∃ z, z = bt H k := ⟨_, rfl⟩
      have HO : Hid (oddP H (V, M) k = (x && (y != z))) := by show _ = _; rw [hx, hy, hz]; rfl
      rw [← hx] at D1
      rw [← hy] at D2
      rw [← hz] at D3
      have E1 : Hid (∀ W, Calls Try.prog 36 #[.agg (hv M), .int .i64 (k : Int)] W fun e w' => e = .returned (.bool x) ∧ Below W.heap.size W w') := D1
      have E2 : Hid (∀ W, Calls Try.prog 36 #[.agg (hv V), .int .i64 (k : Int)] W fun e w' => e = .returned (.bool y) ∧ Below W.heap.size W w') := D2
      have E3 : Hid (∀ W, Calls Try.prog 36 #[.agg (hv H), .int .i64 (k : Int)] W fun e w' => e = .returned (.bool z) ∧ Below W.heap.size W w') := D3
      clear D1 D2 D3 hx hy hz
      go_wp2_with fail
      have ne1 := Later.ne wr
      cases x with
      | false =>
        have HJ2 : Hid (∀ j, j < k + 1 → oddP H (V, M) j = false) := odd_next HJ.out (by rw [HO.out]; rfl)
        refine wp_region_later (by kernel_rfl) (by kernel_rfl) ?_
        go_big_quiet_step (fail)
        refine qlM rfl _ rfl w.heap.size rfl V M g0 hVl hMl ?_
        simp only [Act.put, List.setIfInBounds_toArray, List.set_cons_succ, List.set_cons_zero]
        go_big_quiet_step (fail)
        go_big_quiet_want; go_big_quiet_op
        refine ⟨_, fun u => Calls.later_of (E1.out u.world), ?_⟩
        go_big_quiet_on
        repeat go_big_quiet_step (fail)
        refine wpQuiet_nil ?_
        rintro w' ⟨u, rfl⟩
        have hb2 := hb.trans (u.below.mono hb.size)
        have k0 := later_block g0 _ ⟨u, rfl⟩
        have k1 := later_block g1 _ ⟨u, rfl⟩
        clear ne1 hb g0 g1 E1 E2 E3
        go_wp2_with fail
        go_roundw
        case rel => exact ⟨k + 1, by omega, by go_num, HJ2, k0, k1, hb2⟩
        case measure => simp [intOf]; omega
      | true =>
        refine wp_region_later (by kernel_rfl) (by kernel_rfl) ?_
        go_big_quiet_step (fail)
        refine qlM rfl _ rfl w.heap.size rfl V M g0 hVl hMl ?_
        simp only [Act.put, List.setIfInBounds_toArray, List.set_cons_succ, List.set_cons_zero]
        go_big_quiet_step (fail)
        go_big_quiet_want; go_big_quiet_op
        refine ⟨_, fun u => Calls.later_of (E1.out u.world), ?_⟩
        go_big_quiet_on
        go_big_quiet_step (fail)
        go_big_quiet_step (fail)
        refine qlV rfl _ rfl w.heap.size rfl V M g0 hVl ?_
        simp only [Act.put, List.setIfInBounds_toArray, List.set_cons_succ, List.set_cons_zero]
        go_big_quiet_step (fail)
        go_big_quiet_want; go_big_quiet_op
        refine ⟨_, fun u => Calls.later_of (E2.out u.world), ?_⟩
        go_big_quiet_on
        refine qlH rfl _ rfl (w.heap.size + 1) rfl H g1 hHl ?_
        simp only [Act.put, List.setIfInBounds_toArray, List.set_cons_succ, List.set_cons_zero]
        go_big_quiet_step (fail)
        go_big_quiet_want; go_big_quiet_op
        refine ⟨_, fun u => Calls.later_of (E3.out u.world), ?_⟩
        go_big_quiet_on
        go_big_quiet_step (fail)
        go_big_quiet_step (fail)
        refine wpQuiet_nil ?_
        rintro w' ⟨u, rfl⟩
        have hb2 := hb.trans (u.below.mono hb.size)
        have k0 := later_block g0 _ ⟨u, rfl⟩
        have k1 := later_block g1 _ ⟨u, rfl⟩
        clear ne1 hb g0 g1 E1 E2 E3
        cases y <;> cases z
        · have HJ2 : Hid (∀ j, j < k + 1 → oddP H (V, M) j = false) := odd_next HJ.out (by rw [HO.out]; rfl)
          clear HO
          go_wp2_with fail
          go_roundw
          case rel => exact ⟨k + 1, by omega, by go_num, HJ2, k0, k1, hb2⟩
          case measure => simp [intOf]; omega
        · have HE : Hid (oddI H (V, M) = k) := odd_hit hlt HJ.out (by rw [HO.out]; rfl)
          clear HO
          go_wp2_with fail
          go_ret
          exact ⟨by rw [HE.out]; rfl, hb2⟩
        · have HE : Hid (oddI H (V, M) = k) := odd_hit hlt HJ.out (by rw [HO.out]; rfl)
          clear HO
          go_wp2_with fail
          go_ret
          exact ⟨by rw [HE.out]; rfl, hb2⟩
        · have HJ2 : Hid (∀ j, j < k + 1 → oddP H (V, M) j = false) := odd_next HJ.out (by rw [HO.out]; rfl)
          clear HO
          go_wp2_with fail
          go_roundw
          case rel => exact ⟨k + 1, by omega, by go_num, HJ2, k0, k1, hb2⟩
          case measure => simp [intOf]; omega
    · have HE : Hid (oddI H (V, M) = 104) := odd_end fun j hj => HJ.out j (by omega)
      have hlt' : ¬ (k : Int) < 104 := by omega
      go_wp2_with fail
      go_ret
      exact ⟨by rw [HE.out]; rfl, hb⟩
theorem odd_at (V M H : List Int) (k : Nat) : (atI V M k == 1 - vI H k) = oddP H (V, M) k := by
  unfold atI vI oddP
  cases bt M k <;> cases bt V k <;> cases bt H k <;> rfl
theorem vI_range (H : List Int) (k : Nat) : 0 ≤ vI H k ∧ vI H k ≤ 1 := by
  unfold vI
  cases bt H k <;> decide
set_option maxHeartbeats 4000000 in
theorem rodd_any (V M H : List Int) (hV : Byt V) (hM : Byt M) (hH : Byt H) (w : World) :
    Calls Try.prog 29 #[.agg (cv V M), .agg (hv H)] w fun e w' => e = .returned (.int .i64 (oddI H (V, M) : Nat)) ∧ Below w.heap.size w w' := by
  have hVl := hV.1
  have hMl := hM.1
  have hHl := hH.1
  have CA : Hid (∀ k : Nat, k < 104 → ∀ W, Calls Try.prog 19 #[.agg (cv V M), .int .i64 (k : Int)] W fun e w' => e = .returned (.int .i64 (atI V M k)) ∧ Below W.heap.size W w') := fun k hk => at_any V M hV hM k hk
  have CH : Hid (∀ k : Nat, k < 104 → ∀ W, Calls Try.prog 30 #[.agg (hv H), .int .i64 (k : Int)] W fun e w' => e = .returned (.int .i64 (vI H k)) ∧ Below W.heap.size W w') := fun k hk => value_any H hH k hk
  clear hV hM hH
  go_enter Try.func29, Try.ntmps29
  go_wp2_with fail
  go_loopw [5] (fun i wr => ∃ k : Nat, k ≤ 104 ∧ i = .int .i64 k ∧ Hid (∀ j, j < k → oddP H (V, M) j = false) ∧ wr.heap[w.heap.size]? = some (.cells (cv V M) 30 (0, 0)) ∧ wr.heap[w.heap.size + 1]? = some (.cells (hv H) 28 (0, 0)) ∧ Below w.heap.size w wr) (fun i _ => 104 - (intOf i).toNat)
  case atStart => exact ⟨0, Nat.zero_le _, rfl, fun j hj => by omega, heap_past _ _ _ _ (heap_new _ _ _ rfl), heap_new _ _ _ (by simp), ((Below.refl _ _).alloc (Nat.le_refl _) _).alloc (by simp) _⟩
  case round =>
    obtain ⟨k, hk, rfl, HJ, g0, g1, hb⟩ := hrel
    by_cases hlt : k < 104
    · have hlt' : (k : Int) < 104 := by omega
      have D1 := CA.out k hlt
      have D3 := CH.out k hlt
      have hx := at_range15 V M k
      have hy := vI_range H k
      have hxy := odd_at V M H k
      obtain ⟨x, hxe⟩ : ∃ x, x = atI V M k := ⟨_, rfl⟩
      obtain ⟨y, hye⟩ : ∃ y, y = vI H k := ⟨_, rfl⟩
      obtain ⟨z, hz⟩ : ∃ z, z = oddP H (V, M) k := ⟨_, rfl⟩
      rw [← hxe] at D1 hx hxy
      rw [← hye] at D3 hy hxy
      rw [← hz] at hxy
      have HZ : Hid (z = oddP H (V, M) k) := hz
      have E1 : Hid (∀ W, Calls Try.prog 19 #[.agg (cv V M), .int .i64 (k : Int)] W fun e w' => e = .returned (.int .i64 x) ∧ Below W.heap.size W w') := D1
      have E3 : Hid (∀ W, Calls Try.prog 30 #[.agg (hv H), .int .i64 (k : Int)] W fun e w' => e = .returned (.int .i64 y) ∧ Below W.heap.size W w') := D3
      have hx1 := hx.1
      have hx2 := hx.2
      have hy1 := hy.1
      have hy2 := hy.2
      clear D1 D3 hxe hye hz hx hy
      go_wp2_with fail
      have ne1 := Later.ne wr
      refine wp_region_later (by kernel_rfl) (by kernel_rfl) ?_
      refine qlC rfl _ rfl w.heap.size rfl V M g0 hVl hMl ?_
      simp only [Act.put, List.setIfInBounds_toArray, List.set_cons_succ, List.set_cons_zero]
      go_big_quiet_step (fail)
      go_big_quiet_want; go_big_quiet_op
      refine ⟨_, fun u => Calls.later_of (E1.out u.world), ?_⟩
      go_big_quiet_on
      refine qlH rfl _ rfl (w.heap.size + 1) rfl H g1 hHl ?_
      simp only [Act.put, List.setIfInBounds_toArray, List.set_cons_succ, List.set_cons_zero]
      go_big_quiet_step (fail)
      go_big_quiet_want; go_big_quiet_op
      refine ⟨_, fun u => Calls.later_of (E3.out u.world), ?_⟩
      go_big_quiet_on
      go_big_quiet_step (fail)
      go_big_quiet_step (fail)
      refine wpQuiet_nil ?_
      rintro w' ⟨u, rfl⟩
      have hb2 := hb.trans (u.below.mono hb.size)
      have k0 := later_block g0 _ ⟨u, rfl⟩
      have k1 := later_block g1 _ ⟨u, rfl⟩
      try rw [hxy]
      clear ne1 hb g0 g1 E1 E3 hxy
      cases z with
      | true =>
        have HE : Hid (oddI H (V, M) = k) := odd_hit hlt HJ.out HZ.out.symm
        go_wp2_with fail
        go_ret
        exact ⟨by rw [HE.out]; rfl, hb2⟩
      | false =>
        have HJ2 : Hid (∀ j, j < k + 1 → oddP H (V, M) j = false) := odd_next HJ.out HZ.out.symm
        go_wp2_with fail
        go_roundw
        case rel => exact ⟨k + 1, by omega, by go_num, HJ2, k0, k1, hb2⟩
        case measure => simp [intOf]; omega
    · have HE : Hid (oddI H (V, M) = 104) := odd_end fun j hj => HJ.out j (by omega)
      have hlt' : ¬ (k : Int) < 104 := by omega
      go_wp2_with fail
      go_ret
      exact ⟨by rw [HE.out]; rfl, hb⟩
end Go.Proofs.Ytdibjhlckjjlfaa
namespace Go.Proofs.Ytdibjhlckjjlfaa
open Go Go.RowKit
set_option maxRecDepth 20000

theorem wl_zeroC {ops : Array Oper} {rest : List Oper} {o : Oper} {a : Act} {w : World} {Q : Exit → Act → World → Prop} (hg : o.guard = none) (ho : o.op = .build 30 #[])
    (h : wpList Try.prog ops Q rest (a.put o.dst (.agg (cv Z Z))) w) : wpList Try.prog ops Q (o :: rest) a w :=
  wpList_plain hg fun _ hK => by
    unfold Oper.wp execOp
    have e : ((#[] : Array (Nat × Operand)).map (fun (i, x) => (i, a.eval x))) = #[] := by simp
    have hb : (Instr.build 30 #[]).run Try.prog w = .ok (.agg (cv Z Z)) w := by
      rw [← zeroC_eq]; kernel_rfl
    simp only [ho, Sem.run_bind]
    rw [e, hb]
    exact hK _ _ h

set_option maxHeartbeats 2000000 in
theorem rcanon_any (V M : List Int) (hV : Byt V) (hM : Byt M) (w : World) :
    Calls Try.prog 28 #[.agg (cv V M)] w fun e w' => e = .returned (.agg (cv (can V M) M)) ∧ Below w.heap.size w w' := by
  have hVl := hV.1
  have hMl := hM.1
  have hzl := Z_byt.1
  obtain ⟨fV, hfV⟩ : ∃ f : Nat → Bool, f = fun i => bt V i && bt M i := ⟨_, rfl⟩
  obtain ⟨fM, hfM⟩ : ∃ f : Nat → Bool, f = bt M := ⟨_, rfl⟩
  have CA : Hid (∀ k : Nat, k < 104 → ∀ W, Calls Try.prog 19 #[.agg (cv V M), .int .i64 (k : Int)] W fun e w' => e = .returned (.int .i64 (atI V M k)) ∧ Below W.heap.size W w') := fun k hk => at_any V M hV hM k hk
  have CS : Hid (∀ k : Nat, k < 104 → ∀ W, Calls Try.prog 20 #[.agg (cv (upto k fV) (upto k fM)), .int .i64 (k : Int), .int .i64 (atI V M k)] W fun e w' => e = .returned (.agg (cv (upto (k + 1) fV) (upto (k + 1) fM))) ∧ Below W.heap.size W w') := fun k hk => by
    have := rset_any _ _ (upto_byt k fV) (upto_byt k fM) k hk (atI V M k)
    rwa [at_ne2, at_eq1, show (bt V k && bt M k) = fV k by rw [hfV], show bt M k = fM k by rw [hfM], upto_succ, upto_succ] at this
  have HE : Hid (upto 104 fV = can V M ∧ upto 104 fM = M) := by
    show _ ∧ _
    rw [upto_all, upto_all, hfV, hfM]; exact ⟨rfl, mk_of M hM⟩
  clear hV hM hfV hfM
  have lV : ∀ k, (upto k fV).length = 13 := fun k => (upto_byt k fV).1
  have lM : ∀ k, (upto k fM).length = 13 := fun k => (upto_byt k fM).1
  go_enter Try.func28, Try.ntmps28
  go_wp2_with (first
    | (refine wl_zeroC rfl rfl ?_)
    | (refine wl_storeC rfl _ _ rfl (w.heap.size + 2) Z Z rfl rfl _ (heap_new _ _ _ (by simp)) rfl hzl hzl _ (setRow_new _ _ _ _ _ (by simp)) ?_))
  go_loopw [4] (fun i wr => ∃ k : Nat, k ≤ 104 ∧ i = .int .i64 k ∧ wr.heap[w.heap.size]? = some (.cells (cv V M) 30 (0, 0)) ∧ wr.heap[w.heap.size + 1]? = some (.cells zeroC 30 (0, 0)) ∧ wr.heap[w.heap.size + 2]? = some (.cells (cv (upto k fV) (upto k fM)) 30 (0, 0)) ∧ Below w.heap.size w wr) (fun i _ => 104 - (intOf i).toNat)
  case atStart => exact ⟨0, Nat.zero_le _, rfl, heap_past _ _ _ _ (heap_past _ _ _ _ (heap_new _ _ _ rfl)), heap_past _ _ _ _ (heap_new _ _ _ (by simp)), by rw [upto_zero, upto_zero]; exact heap_new _ _ _ (by simp), (((Below.refl _ _).alloc (Nat.le_refl _) _).alloc (by simp) _).alloc (by simp; omega) _⟩
  case round =>
    obtain ⟨k, hk, rfl, g0, g1, g2, hb⟩ := hrel
    have l1 := lV k
    have l2 := lM k
    have l3 := lV (k + 1)
    have l4 := lM (k + 1)
    by_cases hlt : k < 104
    · have C1 : Hid (∀ W, Calls Try.prog 19 #[.agg (cv V M), .int .i64 (k : Int)] W fun e w' => e = .returned (.int .i64 (atI V M k)) ∧ Below W.heap.size W w') := CA.out k hlt
      have C2 : Hid (∀ W, Calls Try.prog 20 #[.agg (cv (upto k fV) (upto k fM)), .int .i64 (k : Int), .int .i64 (atI V M k)] W fun e w' => e = .returned (.agg (cv (upto (k + 1) fV) (upto (k + 1) fM))) ∧ Below W.heap.size W w') := CS.out k hlt
      go_wp2_with fail
      have ne1 := Later.ne wr
      refine wp_region_latertail 6 (by kernel_rfl) (by kernel_rfl) ?_
      simp only [List.take_succ_cons, List.take_zero, List.drop_succ_cons, List.drop_zero]
      refine qlC rfl _ rfl (w.heap.size + 2) rfl (upto k fV) (upto k fM) g2 l1 l2 ?_
      simp only [Act.put, List.setIfInBounds_toArray, List.set_cons_succ, List.set_cons_zero]
      go_big_quiet_step (fail)
      refine qlC rfl _ rfl w.heap.size rfl V M g0 hVl hMl ?_
      simp only [Act.put, List.setIfInBounds_toArray, List.set_cons_succ, List.set_cons_zero]
      go_big_quiet_step (fail)
      go_big_quiet_want; go_big_quiet_op
      refine ⟨_, fun u => Calls.later_of (C1.out u.world), ?_⟩
      go_big_quiet_on
      go_big_quiet_want; go_big_quiet_op
      refine ⟨_, fun u => Calls.later_of (C2.out u.world), ?_⟩
      go_big_quiet_on
      refine wpQuiet_nil ?_
      rintro w' ⟨u, rfl⟩
      have k0 := later_block g0 _ ⟨u, rfl⟩
      have k1 := later_block g1 _ ⟨u, rfl⟩
      have k2 := later_block g2 _ ⟨u, rfl⟩
      have hb2 := hb.trans (u.below.mono hb.size)
      clear g0 g1 g2 hb ne1 C1 C2
      go_wp2_with (first
        | (refine wl_storeC rfl _ _ rfl (w.heap.size + 2) (upto (k + 1) fV) (upto (k + 1) fM) rfl rfl _ k2 (cv_size _ _ l1 l2) l3 l4 _ rfl ?_))
      go_roundw
      case rel =>
        exact ⟨k + 1, by omega, by go_num, (setRow_other _ _ _ _ (by omega)).trans k0, (setRow_other _ _ _ _ (by omega)).trans k1, setRow_heap _ _ _ _ _ _ k2, below_setRow hb2 (by omega) _⟩
      case measure => simp [intOf]; omega
    · obtain rfl : k = 104 := by omega
      rw [HE.out.1, HE.out.2] at g2
      have hCl := (can_byt V M).1
      go_wp2_with (first
        | (refine wl_loadC rfl _ rfl (w.heap.size + 2) rfl (can V M) M g2 hCl hMl ?_)
        | (refine wl_storeC rfl _ _ rfl (w.heap.size + 1) (can V M) M rfl rfl _ g1 rfl hCl hMl _ rfl ?_))
      refine retC (p := 2) rfl rfl (w.heap.size + 1) rfl (can V M) M hCl hMl (setRow_heap _ _ _ _ _ _ g1) ⟨rfl, ?_⟩
      exact below_setRow hb (by omega) _

set_option maxHeartbeats 2000000 in
theorem rhas_any (V M H : List Int) (hV : Byt V) (hM : Byt M) (hH : Byt H) (w : World) :
    Calls Try.prog 31 #[.agg (cv V M), .agg (hv H)] w fun e w' => e = .returned (.bool (has V M H)) ∧ Below w.heap.size w w' := by
  have hVl := hV.1
  have hMl := hM.1
  have hHl := hH.1
  have CA : Hid (∀ k : Nat, k < 104 → ∀ W, Calls Try.prog 19 #[.agg (cv V M), .int .i64 (k : Int)] W fun e w' => e = .returned (.int .i64 (atI V M k)) ∧ Below W.heap.size W w') := fun k hk => at_any V M hV hM k hk
  have CB : Hid (∀ k : Nat, k < 104 → ∀ W, Calls Try.prog 33 #[.agg (hv H), .int .i64 (k : Int)] W fun e w' => e = .returned (.bool (bt H k)) ∧ Below W.heap.size W w') := fun k hk => rbit_nat H hH k hk
  clear hV hM hH
  go_enter Try.func31, Try.ntmps31
  go_wp2_with fail
  go_loopw [5] (fun i wr => ∃ k : Nat, k ≤ 104 ∧ i = .int .i64 k ∧ (∀ j, j < k → bt M j = true → bt V j = bt H j) ∧ wr.heap[w.heap.size]? = some (.cells (cv V M) 30 (0, 0)) ∧ wr.heap[w.heap.size + 1]? = some (.cells (hv H) 28 (0, 0)) ∧ Below w.heap.size w wr) (fun i _ => 104 - (intOf i).toNat)
  case atStart => exact ⟨0, Nat.zero_le _, rfl, fun j hj => by omega, heap_past _ _ _ _ (heap_new _ _ _ rfl), heap_new _ _ _ (by simp), ((Below.refl _ _).alloc (Nat.le_refl _) _).alloc (by simp) _⟩
  case round =>
    obtain ⟨k, hk, rfl, hj, g0, g1, hb⟩ := hrel
    have HJ : Hid (∀ j, j < k → bt M j = true → bt V j = bt H j) := hj
    have hz := (Array.getElem?_eq_some_iff.1 g1).1
    clear hj
    by_cases hlt : k < 104
    · go_wp2_with (first
        | (refine wl_loadC rfl _ rfl w.heap.size rfl V M g0 hVl hMl ?_))
      refine (CA.out k hlt _).mono ?_
      rintro e w1 ⟨rfl, hb1⟩
      have k0 : w1.heap[w.heap.size]? = some (.cells (cv V M) 30 (0, 0)) := by rw [hb1.block _ (by omega)]; exact g0
      have k1 : w1.heap[w.heap.size + 1]? = some (.cells (hv H) 28 (0, 0)) := by rw [hb1.block _ (by omega)]; exact g1
      have B1 := hb.trans (hb1.mono hb.size)
      have hz1 := Nat.lt_of_lt_of_le hz hb1.size
      clear g0 g1 hb hb1 hz
      by_cases hm : bt M k = true
      · have HM : Hid (bt M k = true) := hm
        obtain ⟨bv, hbv⟩ : ∃ b, b = bt V k := ⟨_, rfl⟩
        have ea : atI V M k = if bv then 1 else 0 := by unfold atI; rw [hm, ← hbv]; rfl
        rw [ea]
        obtain ⟨bh, hbh⟩ : ∃ b, b = bt H k := ⟨_, rfl⟩
        have C1 : Hid (∀ W, Calls Try.prog 33 #[.agg (hv H), .int .i64 (k : Int)] W fun e w' => e = .returned (.bool bh) ∧ Below W.heap.size W w') := by rw [hbh]; exact CB.out k hlt
        have HBV : Hid (bv = bt V k) := hbv
        have HBH : Hid (bh = bt H k) := hbh
        clear hm ea hbv hbh
        cases bv <;> cases bh
        all_goals
          go_wp2_with (first
            | (refine wl_loadHg rfl _ rfl (w.heap.size + 1) rfl H k1 hHl ?_))
          refine (C1.out _).mono ?_
          rintro e w2 ⟨rfl, hb2⟩
          have l0 : w2.heap[w.heap.size]? = some (.cells (cv V M) 30 (0, 0)) := by rw [hb2.block _ (by omega)]; exact k0
          have l1 : w2.heap[w.heap.size + 1]? = some (.cells (hv H) 28 (0, 0)) := by rw [hb2.block _ (by omega)]; exact k1
          have B2 := B1.trans (hb2.mono B1.size)
          clear k0 k1 hb2 C1 B1 hz1
          go_wp2_with fail
        · go_roundw
          case rel =>
            refine ⟨k + 1, by omega, by go_num, fun j hj hm => ?_, l0, l1, B2⟩
            by_cases e : j = k
            · subst e; rw [← HBV.out, ← HBH.out]
            · exact HJ.out j (by omega) hm
          case measure => simp [intOf]; omega
        · go_ret
          refine ⟨ret_bool ?_, B2⟩
          cases e : has V M H
          · rfl
          · have := (has_iff V M H).1 e k hlt HM.out
            rw [← HBV.out, ← HBH.out] at this; cases this
        · go_ret
          refine ⟨ret_bool ?_, B2⟩
          cases e : has V M H
          · rfl
          · have := (has_iff V M H).1 e k hlt HM.out
            rw [← HBV.out, ← HBH.out] at this; cases this
        · go_roundw
          case rel =>
            refine ⟨k + 1, by omega, by go_num, fun j hj hm => ?_, l0, l1, B2⟩
            by_cases e : j = k
            · subst e; rw [← HBV.out, ← HBH.out]
            · exact HJ.out j (by omega) hm
          case measure => simp [intOf]; omega
      · have hm' : bt M k = false := by simpa using hm
        have HM : Hid (bt M k = false) := hm'
        have ea : atI V M k = 2 := by unfold atI; rw [hm']; rfl
        rw [ea]
        clear hm hm' ea
        go_wp2_with fail
        go_roundw
        case rel =>
          refine ⟨k + 1, by omega, by go_num, fun j hj hm => ?_, k0, k1, B1⟩
          by_cases e : j = k
          · subst e; rw [HM.out] at hm; cases hm
          · exact HJ.out j (by omega) hm
        case measure => simp [intOf]; omega
    · obtain rfl : k = 104 := by omega
      go_wp2_with fail
      go_ret
      exact ⟨ret_bool ((has_iff V M H).2 HJ.out).symm, hb⟩
end Go.Proofs.Ytdibjhlckjjlfaa
namespace Go.Proofs.Ytdibjhlckjjlfaa
open Go Go.RowKit
set_option maxRecDepth 20000

end Go.Proofs.Ytdibjhlckjjlfaa
namespace Go.Proofs.Ytdibjhlckjjlfaa
open Go Go.RowKit
set_option maxRecDepth 20000

end Go.Proofs.Ytdibjhlckjjlfaa
namespace Go.Proofs.Ytdibjhlckjjlfaa
open Go Go.RowKit
set_option maxRecDepth 20000

end Go.Proofs.Ytdibjhlckjjlfaa
namespace Go.Proofs.Ytdibjhlckjjlfaa
open Go Go.RowKit
set_option maxRecDepth 20000

end Go.Proofs.Ytdibjhlckjjlfaa
namespace Go.Proofs.Ytdibjhlckjjlfaa
open Go Go.RowKit
set_option maxRecDepth 20000

/-- All cubes of a list have their bytes. -/
def Byts (C : List (List Int × List Int)) : Prop := ∀ c ∈ C, Byt c.1 ∧ Byt c.2
theorem ccells_at : ∀ (C : List (List Int × List Int)), Byts C → ∀ (i : Nat) (hi : i < C.length) (j : Nat), j < 26 → (ccells C)[26 * i + j]? = (cv C[i].1 C[i].2)[j]?
  | [], _, i, hi, _, _ => by simp at hi
  | c :: C, hC, i, hi, j, hj => by
    have h1 := hC c (by simp)
    have hl : (cv c.1 c.2).toList.length = 26 := by rw [Array.length_toList, cv_size _ _ h1.1.1 h1.2.1]
    have e : ccells (c :: C) = (cv c.1 c.2).toList ++ ccells C := by simp [ccells]
    rw [e]
    match i, hi with
    | 0, _ =>
      rw [List.getElem?_append_left (by omega)]
      simp
    | i + 1, hi =>
      rw [List.getElem?_append_right (by omega), hl, show 26 * (i + 1) + j - 26 = 26 * i + j by omega, ccells_at C (fun c hc => hC c (by simp [hc])) i (by simpa using hi) j hj]
      rfl

/-- A slice whose elements are these cubes. -/
def Row (w : World) (v : Value) (C : List (List Int × List Int)) : Prop :=
  ∃ (o : Option Addr) (cap : Nat), v = .slice o C.length cap ∧ ∀ (i : Nat) (hi : i < C.length), ∃ g cur, o = some ⟨g, 0, none⟩ ∧ w.heap[g]? = some (.cells cur 30 (0, 0)) ∧ ∀ j, j < 26 → cur[26 * i + j]? = (cv C[i].1 C[i].2)[j]?
theorem Row.below {w w' : World} {v : Value} {C : List (List Int × List Int)} (h : Row w v C) (hb : Below w.heap.size w w') : Row w' v C := by
  obtain ⟨o, cap, rfl, h2⟩ := h
  refine ⟨o, cap, rfl, fun i hi => ?_⟩
  obtain ⟨g, cur, h3, h4, h5⟩ := h2 i hi
  exact ⟨g, cur, h3, (hb.block g (Array.getElem?_eq_some_iff.1 h4).1).trans h4, h5⟩

end Go.Proofs.Ytdibjhlckjjlfaa
namespace Go.Proofs.Ytdibjhlckjjlfaa
open Go Go.RowKit
set_option maxRecDepth 20000

/-- A slice, wherever it lies, whose elements are these cubes. -/
def Sl (w : World) (v : Value) (C : List (List Int × List Int)) : Prop :=
  Byts C ∧ ∃ (o : Option Addr) (cap : Nat), v = .slice o C.length cap ∧ C.length ≤ cap ∧ cap ≤ maxLen ∧ ∀ (i : Nat) (hi : i < C.length), ∃ g off cur t fr, o = some ⟨g, off, none⟩ ∧ w.heap[g]? = some (.cells cur t fr) ∧ ∀ j, j < 26 → cur[off + i * 26 + j]? = (cv C[i].1 C[i].2)[j]?

theorem Sl.below {w w' : World} {v : Value} {C : List (List Int × List Int)} (h : Sl w v C) (hb : Below w.heap.size w w') : Sl w' v C := by
  obtain ⟨h0, o, cap, rfl, h1, h2, h3⟩ := h
  refine ⟨h0, o, cap, rfl, h1, h2, fun i hi => ?_⟩
  obtain ⟨g, off, cur, t, fr, h4, h5, h6⟩ := h3 i hi
  exact ⟨g, off, cur, t, fr, h4, (hb.block g (Array.getElem?_eq_some_iff.1 h5).1).trans h5, h6⟩
theorem Sl.slice {w : World} {v : Value} {C : List (List Int × List Int)} (h : Sl w v C) : ∃ (o : Option Addr) (cap : Nat), v = .slice o C.length cap ∧ C.length ≤ cap ∧ cap ≤ maxLen := by
  obtain ⟨_, o, cap, h1, h2, h3, _⟩ := h
  exact ⟨o, cap, h1, h2, h3⟩
/-- One element. -/
theorem Sl.at {w : World} {o : Option Addr} {n cap : Nat} {C : List (List Int × List Int)} (h : Sl w (.slice o n cap) C) (k : Nat) (hk : k < n) :
    ∃ g off cur t fr U N, o = some ⟨g, off, none⟩ ∧ w.heap[g]? = some (.cells cur t fr) ∧ (∀ j, j < 26 → cur[off + k * 26 + j]? = (cv U N)[j]?) ∧ C[k]? = some (U, N) ∧ Byt U ∧ Byt N := by
  obtain ⟨h0, o', cap', h1, _, _, h3⟩ := h
  simp only [Value.slice.injEq] at h1
  obtain ⟨rfl, rfl, rfl⟩ := h1
  obtain ⟨g, off, cur, t, fr, h4, h5, h6⟩ := h3 k hk
  exact ⟨g, off, cur, t, fr, C[k].1, C[k].2, h4, h5, h6, List.getElem?_eq_getElem hk, (h0 _ (List.getElem_mem _)).1, (h0 _ (List.getElem_mem _)).2⟩
theorem Sl.len {w : World} {o : Option Addr} {n cap : Nat} {C : List (List Int × List Int)} (h : Sl w (.slice o n cap) C) : n = C.length ∧ n ≤ cap ∧ cap ≤ maxLen := by
  obtain ⟨h0, o', cap', h1, h2, h3, _⟩ := h
  simp only [Value.slice.injEq] at h1
  obtain ⟨rfl, rfl, rfl⟩ := h1
  exact ⟨rfl, h2, h3⟩
/-- The first ones of a slice. -/
theorem Sl.take {w : World} {o : Option Addr} {n cap : Nat} {C : List (List Int × List Int)} (h : Sl w (.slice o n cap) C) (k : Nat) (hk : k ≤ n) : Sl w (.slice o k cap) (C.take k) := by
  obtain ⟨h0, o', cap', h1, h2, h3, h4⟩ := h
  simp only [Value.slice.injEq] at h1
  obtain ⟨rfl, rfl, rfl⟩ := h1
  have e : (C.take k).length = k := by rw [List.length_take]; omega
  refine ⟨fun c hc => h0 c (List.mem_of_mem_take hc), o, cap, by rw [e], by omega, h3, fun i hi => ?_⟩
  obtain ⟨g, off, cur, t, fr, h5, h6, h7⟩ := h4 i (by omega)
  exact ⟨g, off, cur, t, fr, h5, h6, fun j hj => by rw [h7 j hj, List.getElem_take]⟩
theorem sl_of {w : World} {B : Nat} {v : Value} {C : List (List Int × List Int)} (h : w.ownsRow B 30 26 v C.length (ccells C)) (hC : Byts C) : Sl w v C := by
  refine ⟨hC, ?_⟩
  obtain ⟨h1, ⟨rfl, h2⟩ | ⟨g, cap, cur, rfl, hB, hcur, h5, h6, _, h4⟩⟩ := h
  · exact ⟨none, 0, by rw [h2], by omega, Nat.zero_le _, fun i hi => by omega⟩
  · refine ⟨_, cap, rfl, h5, h6, fun i hi => ⟨g, 0, cur, _, _, rfl, hcur, fun j hj => ?_⟩⟩
    rw [← ccells_at C hC i hi j hj, ← h4, List.getElem?_take_of_lt (by omega), Nat.zero_add, Nat.mul_comm]
    simp

end Go.Proofs.Ytdibjhlckjjlfaa
namespace Go.Proofs.Ytdibjhlckjjlfaa
open Go Go.RowKit
set_option maxRecDepth 20000

theorem any_fix15 {P : Program} {Q : Exit → Act → World → Prop} {a : Act} {w w' : World} {p0 p1 p2 p3 p4 p5 o6 o7 o8 o9 : Oper} {v v0 v1 : Value}
    (r7 : Region.ready .any (p0 :: p1 :: p2 :: p3 :: p4 :: p5 :: o6 :: o7 :: o8 :: o9 :: []).toArray #[true, true, true, true, true, true, false, false, false, false] = [6])
    (r0 : Region.ready .any (p0 :: p1 :: p2 :: p3 :: p4 :: p5 :: o6 :: o7 :: o8 :: o9 :: []).toArray #[true, true, true, true, true, true, true, false, false, false] = [7, 8])
    (r1 : Region.ready .any (p0 :: p1 :: p2 :: p3 :: p4 :: p5 :: o6 :: o7 :: o8 :: o9 :: []).toArray #[true, true, true, true, true, true, true, true, false, false] = [8, 9])
    (r2 : Region.ready .any (p0 :: p1 :: p2 :: p3 :: p4 :: p5 :: o6 :: o7 :: o8 :: o9 :: []).toArray #[true, true, true, true, true, true, true, false, true, false] = [7])
    (r3 : Region.ready .any (p0 :: p1 :: p2 :: p3 :: p4 :: p5 :: o6 :: o7 :: o8 :: o9 :: []).toArray #[true, true, true, true, true, true, true, true, true, false] = [9])
    (r4 : Region.ready .any (p0 :: p1 :: p2 :: p3 :: p4 :: p5 :: o6 :: o7 :: o8 :: o9 :: []).toArray #[true, true, true, true, true, true, true, true, false, true] = [8])
    (r5 : Region.ready .any (p0 :: p1 :: p2 :: p3 :: p4 :: p5 :: o6 :: o7 :: o8 :: o9 :: []).toArray #[true, true, true, true, true, true, true, true, true, true] = [])
    (q7 : o6.guard = none) (q0 : o7.guard = none) (q1 : o8.guard = none) (q2 : o9.guard = none) (q3 : o9.dst = none)
    (e7 : (execOp a.eval o6).run P w = .ok (.value v) w)
    (e0 : (execOp (a.put o6.dst v).eval o7).run P w = .ok (.value v0) w) (e0' : (execOp ((a.put o6.dst v).put o8.dst v1).eval o7).run P w = .ok (.value v0) w)
    (e1 : (execOp (a.put o6.dst v).eval o8).run P w = .ok (.value v1) w) (e1a : (execOp ((a.put o6.dst v).put o7.dst v0).eval o8).run P w = .ok (.value v1) w) (e1b : (execOp ((a.put o6.dst v).put o7.dst v0).eval o8).run P w' = .ok (.value v1) w')
    (e2 : (execOp ((a.put o6.dst v).put o7.dst v0).eval o9).run P w = .ok .skip w') (e2a : (execOp (((a.put o6.dst v).put o7.dst v0).put o8.dst v1).eval o9).run P w = .ok .skip w')
    (comm : ((a.put o6.dst v).put o8.dst v1).put o7.dst v0 = ((a.put o6.dst v).put o7.dst v0).put o8.dst v1)
    (h : Q .normal (((a.put o6.dst v).put o7.dst v0).put o8.dst v1) w') :
    wpAny P .any (p0 :: p1 :: p2 :: p3 :: p4 :: p5 :: o6 :: o7 :: o8 :: o9 :: []).toArray Q 4 #[true, true, true, true, true, true, false, false, false, false] a w := by
  refine any_step [6] r7 (by simp) fun i hi => ?_
  simp only [List.mem_cons, List.not_mem_nil, or_false] at hi
  subst hi
  refine wpOp_value (o := o6) rfl q7 e7 ?_
  exact any_two (i0 := 7) (i1 := 8) (i2 := 9) (o0 := o7) (o1 := o8) (o2 := o9) _ rfl rfl rfl r0 r1 r2 r3 r4 r5 (by decide) (by decide) q0 q1 q2 q3 e0 e0' e1 e1a e1b e2 e2a comm h

/-! narrow. -/
theorem nars_take {H : List Int} {c : List Int × List Int} {W : List (List Int × List Int)} {k : Nat} {x : List Int × List Int} (h : W[k]? = some x) : narsA H c (W.take (k + 1)) = narA H (narsA H c (W.take k)) x := by
  unfold narsA
  rw [List.take_add_one, h, List.foldl_append]; rfl
theorem nars_keep {H : List Int} {c : List Int × List Int} {W : List (List Int × List Int)} (hc : has c.1 c.2 H = true) (hW : ∀ x ∈ W, has x.1 x.2 H = false) (hR : rightA c) (k : Nat) : has (narsA H c (W.take k)).1 (narsA H c (W.take k)).2 H = true ∧ rightA (narsA H c (W.take k)) := by
  obtain ⟨h1, _, _, h4⟩ := nars_ok (W.take k) c hc (fun x hx => hW x (List.mem_of_mem_take hx)) hR
  exact ⟨h1, h4⟩
theorem nar_no {H : List Int} {c x : List Int × List Int} (h : meets c.1 c.2 x.1 x.2 = false) : narA H c x = c := by
  unfold narA mtA
  rw [h]; rfl
theorem nar_yes {H : List Int} {c x : List Int × List Int} (h : meets c.1 c.2 x.1 x.2 = true) (hx : has x.1 x.2 H = false) : narA H c x = setA c (oddI H x) (bt H (oddI H x)) := by
  unfold narA mtA
  rw [h, if_pos rfl, (odd_some15 hx).1]
set_option maxHeartbeats 8000000 in
theorem narrow_any (c : List Int × List Int) (W : List (List Int × List Int)) (H : List Int) (hH : Byt H) (hR : rightA c) (hc : has c.1 c.2 H = true) (hW : ∀ x ∈ W, has x.1 x.2 H = false) (v : Value) (w : World) (hs : Sl w v W) :
    Calls Try.prog 27 #[.agg (cv c.1 c.2), v, .agg (hv H)] w fun e w' => e = .returned (.agg (cv (narsA H c W).1 (narsA H c W).2)) ∧ Below w.heap.size w w' := by
  have hHl := hH.1
  obtain ⟨o, cap, rfl, hcn, hcap⟩ := hs.slice
  obtain ⟨n, hne⟩ : ∃ n, n = W.length := ⟨_, rfl⟩
  rw [← hne] at hs hcn ⊢
  have HN : Hid (n = W.length) := hne
  have HS : Hid (Sl w (.slice o n cap) W) := hs
  have HK : Hid (∀ k, has (narsA H c (W.take k)).1 (narsA H c (W.take k)).2 H = true ∧ rightA (narsA H c (W.take k))) := nars_keep hc hW hR
  have HWH : Hid (∀ x ∈ W, has x.1 x.2 H = false) := hW
  have HRC : Hid (rightA c) := hR
  have HHH : Hid (Byt H) := hH
  have hVl := hR.1.1
  have hMl := hR.2.1.1
  unfold maxLen at hcap
  clear hs hne hH hR hc hW
  go_enter Try.func27, Try.ntmps27
  go_wp2_with fail
  go_step3
  go_wp2_with fail
  go_step3
  go_wp2_with fail
  go_loopw [12] (fun i wr => ∃ k : Nat, k ≤ n ∧ i = .int .i64 (k : Int) ∧ Hid (wr.heap[w.heap.size]? = some (.cells (cv (narsA H c (W.take k)).1 (narsA H c (W.take k)).2) 30 (0, 0))) ∧ Hid (wr.heap[w.heap.size + 1]? = some (.cells (hv H) 28 (0, 0))) ∧ Hid (wr.heap[w.heap.size + 2]? = some (.cells zeroC 30 (0, 0))) ∧ Hid (Below w.heap.size w wr)) (fun i _ => n - (intOf i).toNat)
  case atStart => exact ⟨0, Nat.zero_le _, rfl, heap_past _ _ _ _ (heap_past _ _ _ _ (heap_new _ _ _ rfl)), heap_past _ _ _ _ (heap_new _ _ _ (by simp)), heap_new _ _ _ (by simp), (((Below.refl _ _).alloc (Nat.le_refl _) _).alloc (by simp) _).alloc (by simp; omega) _⟩
  case round =>
    obtain ⟨k, hk, rfl, Z0, Z1, Z2, HB⟩ := hrel
    obtain ⟨hHas, hRk⟩ := HK.out k
    obtain ⟨U, N, hUN⟩ : ∃ U N, narsA H c (W.take k) = (U, N) := ⟨_, _, rfl⟩
    rw [hUN] at Z0 hHas hRk
    have hU := hRk.1
    have hN := hRk.2.1
    have hUl := hU.1
    have hNl := hN.1
    have HU : Hid (Byt U) := hU
    have HNN : Hid (Byt N) := hN
    have HRK : Hid (rightA (U, N)) := hRk
    have HUN : Hid (narsA H c (W.take k) = (U, N)) := hUN
    clear hU hN hRk hUN hHas
    by_cases hlt : k < n
    · have hlt' : (k : Int) < (n : Int) := by omega
      obtain ⟨g, off, cur, t, fr, P, Q, rfl, hg, hcc, hWk, hP, hQ⟩ := (Sl.below HS.out HB.out).at k hlt
      have hPl := hP.1
      have hQl := hQ.1
      have K1 : Hid (wr.heap[g]? = some (.cells cur t fr)) := hg
      have H1 : Hid (∀ j, j < 26 → cur[off + k * 26 + j]? = (cv P Q)[j]?) := hcc
      have HWK : Hid (W[k]? = some (P, Q)) := hWk
      have HPH : Hid (has P Q H = false) := HWH.out (P, Q) (List.mem_of_getElem? hWk)
      have D1 : Hid (∀ W, Calls Try.prog 21 #[.agg (cv U N), .agg (cv P Q)] W fun e w' => e = .returned (.bool (meets U N P Q)) ∧ Below W.heap.size W w') := fun W' => ameets_any U N P Q HU.out HNN.out hP hQ W'
      have D2 : Hid (∀ W, Calls Try.prog 38 #[.agg (cv P Q), .agg (hv H)] W fun e w' => e = .returned (.int .i64 (oddI H (P, Q) : Nat)) ∧ Below W.heap.size W w') := fun W' => apart_any P Q H hP hQ HHH.out W'
      have BN : Hid (Below w.heap.size w (wr.alloc (.cells (cv P Q) 30))) := HB.out.alloc HB.out.size _
      have KN : Hid ((wr.alloc (.cells (cv P Q) 30)).heap[wr.heap.size]? = some (.cells (cv P Q) 30 (0, 0))) := heap_new _ _ _ rfl
      have N0 : Hid ((wr.alloc (.cells (cv P Q) 30)).heap[w.heap.size]? = some (.cells (cv U N) 30 (0, 0))) := heap_past _ _ _ _ Z0.out
      have N1 : Hid ((wr.alloc (.cells (cv P Q) 30)).heap[w.heap.size + 1]? = some (.cells (hv H) 28 (0, 0))) := heap_past _ _ _ _ Z1.out
      have N2 : Hid ((wr.alloc (.cells (cv P Q) 30)).heap[w.heap.size + 2]? = some (.cells zeroC 30 (0, 0))) := heap_past _ _ _ _ Z2.out
      clear hg hcc hWk hP hQ
      go_wp2_with (first
        | (refine wl_loadCat rfl _ rfl g (off + k * 26) rfl cur t fr P Q hPl hQl K1.out H1.out ?_)
        | (refine wl_storeC rfl _ _ rfl wr.heap.size P Q rfl rfl _ (heap_new _ _ _ rfl) rfl hPl hQl _ (setRow_new _ _ _ _ _ rfl) ?_)
        | (refine wl_loadC rfl _ rfl wr.heap.size rfl P Q KN.out hPl hQl ?_)
        | (refine wl_loadC rfl _ rfl w.heap.size rfl U N N0.out hUl hNl ?_))
      refine (D1.out _).mono ?_
      rintro e w1 ⟨rfl, hb1⟩
      have B1 : Hid (Below w.heap.size w w1) := BN.out.trans (hb1.mono BN.out.size)
      have KM : Hid (w1.heap[wr.heap.size]? = some (.cells (cv P Q) 30 (0, 0))) := (hb1.block _ (Array.getElem?_eq_some_iff.1 KN.out).1).trans KN.out
      have M0 : Hid (w1.heap[w.heap.size]? = some (.cells (cv U N) 30 (0, 0))) := (hb1.block _ (Array.getElem?_eq_some_iff.1 N0.out).1).trans N0.out
      have M1 : Hid (w1.heap[w.heap.size + 1]? = some (.cells (hv H) 28 (0, 0))) := (hb1.block _ (Array.getElem?_eq_some_iff.1 N1.out).1).trans N1.out
      have M2 : Hid (w1.heap[w.heap.size + 2]? = some (.cells zeroC 30 (0, 0))) := (hb1.block _ (Array.getElem?_eq_some_iff.1 N2.out).1).trans N2.out
      clear hb1 BN KN N0 N1 N2 Z0 Z1 Z2 HB K1 D1
      cases hm : meets U N P Q with
      | false =>
        have E1 : Hid (narsA H c (W.take (k + 1)) = (U, N)) := by
          show _ = _
          rw [nars_take HWK.out, HUN.out]; exact nar_no hm
        clear hm
        go_wp2_with fail
        go_roundw
        case rel => exact ⟨k + 1, by omega, by go_num, by rw [E1.out]; exact M0, M1, M2, B1⟩
        case measure => simp [intOf]; omega
      | true =>
        have E1 : Hid (narsA H c (W.take (k + 1)) = setA (U, N) (oddI H (P, Q)) (bt H (oddI H (P, Q)))) := by
          show _ = _
          rw [nars_take HWK.out, HUN.out]; exact nar_yes hm HPH.out
        have hb104 := (odd_some15 (H := H) (c := (P, Q)) HPH.out).2
        obtain ⟨b, hbe⟩ : ∃ b, b = oddI H (P, Q) := ⟨_, rfl⟩
        rw [← hbe] at E1 D2 hb104
        clear hbe hm
        go_wp2_with (first
          | (refine wl_loadC rfl _ rfl wr.heap.size rfl P Q KM.out hPl hQl ?_)
          | (refine wl_load26 rfl _ rfl (w.heap.size + 1) rfl H M1.out hHl ?_))
        refine (D2.out _).mono ?_
        rintro e w2 ⟨rfl, hb2⟩
        have B2 : Hid (Below w.heap.size w w2) := B1.out.trans (hb2.mono B1.out.size)
        have L0 : Hid (w2.heap[w.heap.size]? = some (.cells (cv U N) 30 (0, 0))) := (hb2.block _ (Array.getElem?_eq_some_iff.1 M0.out).1).trans M0.out
        have L1 : Hid (w2.heap[w.heap.size + 1]? = some (.cells (hv H) 28 (0, 0))) := (hb2.block _ (Array.getElem?_eq_some_iff.1 M1.out).1).trans M1.out
        have L2 : Hid (w2.heap[w.heap.size + 2]? = some (.cells zeroC 30 (0, 0))) := (hb2.block _ (Array.getElem?_eq_some_iff.1 M2.out).1).trans M2.out
        have CB : Hid (∀ W, Calls Try.prog 36 #[.agg (hv H), .int .i64 (b : Int)] W fun e w' => e = .returned (.bool (bt H b)) ∧ Below W.heap.size W w') := fun W' => hbit_nat H HHH.out b hb104 W'
        have CF0 : ∀ W, Calls Try.prog 39 #[.agg (cv U N), .int .i64 (b : Int), .bool (bt H b)] W fun e w' => e = .returned (.tuple #[.agg (cv (fixV U N b (bt H b)) (fixM N b)), .int .i64 0]) ∧ Below W.heap.size W w' := fun W' => fix_in U N HU.out HNN.out b (bt H b) hb104 W'
        rw [(fix_setA HRK.out b (bt H b)).1, (fix_setA HRK.out b (bt H b)).2] at CF0
        obtain ⟨V2, M2', hVM⟩ : ∃ V2 M2', setA (U, N) b (bt H b) = (V2, M2') := ⟨_, _, rfl⟩
        have hR2 := rightA_set HRK.out b (bt H b)
        rw [hVM] at hR2 CF0 E1
        have hV2 := hR2.1.1
        have hM2 := hR2.2.1.1
        obtain ⟨z, hz⟩ : ∃ z, z = bt H b := ⟨_, rfl⟩
        rw [← hz] at CB CF0
        have CF : Hid (∀ W, Calls Try.prog 39 #[.agg (cv U N), .int .i64 (b : Int), .bool z] W fun e w' => e = .returned (.tuple #[.agg (cv V2 M2'), .int .i64 0]) ∧ Below W.heap.size W w') := CF0
        have zz := (Array.getElem?_eq_some_iff.1 L2.out).1
        clear hb2 M0 M1 M2 KM B1 D2 CF0 hR2 hVM hz
        go_wp2_with fail
        have ne1 := Later.ne w2
        refine wp_region_head 6 4 #[true, true, true, true, true, true, false, false, false, false] (by kernel_rfl) (by kernel_rfl) (by kernel_rfl) (by kernel_rfl) (by kernel_rfl) (by kernel_rfl) rfl ?_
        simp only [List.take_succ_cons, List.take_zero]
        refine qlC rfl _ rfl w.heap.size rfl U N L0.out hUl hNl ?_
        simp only [Act.put, List.setIfInBounds_toArray, List.set_cons_succ, List.set_cons_zero]
        go_big_quiet_step (fail)
        refine qlH rfl _ rfl (w.heap.size + 1) rfl H L1.out hHl ?_
        simp only [Act.put, List.setIfInBounds_toArray, List.set_cons_succ, List.set_cons_zero]
        go_big_quiet_step (fail)
        go_big_quiet_want; go_big_quiet_op
        refine ⟨_, fun u => Calls.later_of (CB.out u.world), ?_⟩
        go_big_quiet_on
        go_big_quiet_want; go_big_quiet_op
        refine ⟨_, fun u => Calls.later_of (CF.out u.world), ?_⟩
        go_big_quiet_on
        refine wpQuiet_nil ?_
        rintro w' ⟨u, rfl⟩
        have k0 := later_block L0.out _ ⟨u, rfl⟩
        have k1 := later_block L1.out _ ⟨u, rfl⟩
        have k2 := later_block L2.out _ ⟨u, rfl⟩
        have hb2 := B2.out.trans (u.below.mono B2.out.size)
        clear L0 L1 L2 B2 ne1 CB CF
        refine any_fix15 (v := .tuple #[.agg (cv V2 M2'), .int .i64 0]) (v0 := .agg (cv V2 M2')) (v1 := .int .i64 0) (w' := u.world.setRow w.heap.size (cv V2 M2')) (by kernel_rfl) (by kernel_rfl) (by kernel_rfl) (by kernel_rfl) (by kernel_rfl) (by kernel_rfl) (by kernel_rfl) rfl rfl rfl rfl rfl (run_move _ _ _ _ _ _ rfl rfl)
          (run_extract _ _ _ _ _ _ _ _ rfl rfl rfl) (run_extract _ _ _ _ _ _ _ _ rfl rfl rfl) (run_extract _ _ _ _ _ _ _ _ rfl rfl rfl) (run_extract _ _ _ _ _ _ _ _ rfl rfl rfl) (run_extract _ _ _ _ _ _ _ _ rfl rfl rfl)
          (run_storeC _ _ _ _ _ rfl w.heap.size _ _ rfl rfl _ k0 (cv_size _ _ hUl hNl) hV2 hM2) (run_storeC _ _ _ _ _ rfl w.heap.size _ _ rfl rfl _ k0 (cv_size _ _ hUl hNl) hV2 hM2) rfl ?_
        simp only [Act.put, List.setIfInBounds_toArray, List.set_cons_succ, List.set_cons_zero]
        go_wp2_with fail
        go_roundw
        case rel => exact ⟨k + 1, by omega, by go_num, by rw [E1.out]; exact setRow_heap _ _ _ _ _ _ k0, (setRow_other _ _ _ _ (by omega)).trans k1, (setRow_other _ _ _ _ (by omega)).trans k2, below_setRow hb2 (Nat.le_refl _) _⟩
        case measure => simp [intOf]; omega
    · have hlt' : ¬ (k : Int) < (n : Int) := by omega
      have HE : Hid (narsA H c W = (U, N)) := by
        show _ = _
        have := HN.out
        rw [← HUN.out, List.take_of_length_le (by omega)]
      go_wp2_with (first
        | (refine wl_loadC rfl _ rfl w.heap.size rfl U N Z0.out hUl hNl ?_)
        | (refine wl_storeC rfl _ _ rfl (w.heap.size + 2) U N rfl rfl _ Z2.out rfl hUl hNl _ rfl ?_))
      try simp only [Exit.noGoto_ret]
      rw [HE.out]
      refine retC (p := 6) rfl rfl (w.heap.size + 2) rfl U N hUl hNl (setRow_heap _ _ _ _ _ _ Z2.out) ⟨rfl, ?_⟩
      exact below_setRow HB.out (by omega) _
end Go.Proofs.Ytdibjhlckjjlfaa
