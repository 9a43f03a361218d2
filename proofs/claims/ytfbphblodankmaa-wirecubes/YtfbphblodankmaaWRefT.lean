import Derived.Test.YtfbphblodankmaaWRefC
namespace Go.Proofs.Ytfbphblodankmaa
open Go Go.RowKit
set_option maxRecDepth 20000

/-- So many numbers as are laid already, and noughts. -/
def layI (B : List UInt8) (k : Nat) : List Int := nI (B.take k) ++ List.replicate (13 - k) 0
theorem layI_len (B : List UInt8) (k : Nat) (hB : B.length = 13) (hk : k ≤ 13) : (layI B k).length = 13 := by
  unfold layI; rw [List.length_append, nI_len, List.length_take, List.length_replicate]; omega
theorem layI_zero (B : List UInt8) : layI B 0 = Z := by rw [Z_eq]; rfl
theorem layI_all (B : List UInt8) (hB : B.length = 13) : layI B 13 = nI B := by
  unfold layI; rw [List.take_of_length_le (by omega)]; simp
theorem layI_succ (B : List UInt8) (k : Nat) (c : UInt8) (hk : k < 13) (hB : B.length = 13) (h : B[k]? = some c) : layI B (k + 1) = (layI B k).set k (c.toNat : Int) := by
  unfold layI
  have hl : (nI (B.take k)).length = k := by rw [nI_len, List.length_take]; omega
  rw [List.set_append_right _ _ (by omega), hl, Nat.sub_self, List.take_add_one, h]
  obtain ⟨m, hm⟩ : ∃ m, 13 - k = m + 1 := ⟨13 - k - 1, by omega⟩
  rw [hm, show 13 - (k + 1) = m by omega]
  simp [List.replicate_succ, nI]

set_option maxHeartbeats 8000000 in
theorem rtakeCube_any (v : Value) (L : List UInt8) (p : Int) (w : World) (hL : BSl w v L) :
    Calls Try.prog 17 #[v, .int .i64 p] w fun e w' => e = .returned (.tuple #[.agg (cv (tcT L p).1 (tcT L p).2.1), .int .i64 (tcT L p).2.2]) ∧ Below w.heap.size w w' := by
  have HL : Hid (BSl w v L) := hL
  obtain ⟨ov, cx, hv, hc1, hc2⟩ := hL.slice
  subst hv
  clear hL
  obtain ⟨n, hn⟩ : ∃ n, n = L.length := ⟨_, rfl⟩
  have HN : Hid (n = L.length) := hn
  rw [← hn] at HL hc1 ⊢
  clear hn
  have hzl := Z_byt.1
  have g0 := heap_new w (.cells zeroC 36) _ rfl
  have B0 : Below w.heap.size w (w.alloc (.cells zeroC 36)) := (Below.refl _ _).alloc (Nat.le_refl _) _
  unfold maxLen at hc2
  by_cases h0 : 0 ≤ p
  · obtain ⟨q, rfl⟩ : ∃ q : Nat, p = q := ⟨p.toNat, by omega⟩
    by_cases hr : q + 26 ≤ n
    · obtain ⟨BV, hBV⟩ : ∃ B, B = (L.drop q).take 13 := ⟨_, rfl⟩
      obtain ⟨BM, hBM⟩ : ∃ B, B = (L.drop (q + 13)).take 13 := ⟨_, rfl⟩
      have hVl : BV.length = 13 := by rw [hBV]; simp; rw [← HN.out]; omega
      have hMl : BM.length = 13 := by rw [hBM]; simp; rw [← HN.out]; omega
      have HT : Hid (tcT L q = if (nI BV == can (nI BV) (nI BM)) = true then (nI BV, nI BM, 0) else (Z, Z, 12)) := by
        show _ = _; unfold tcT; rw [if_pos h0, if_pos (by rw [← HN.out]; omega), hBV, hBM, Int.toNat_natCast]
      have HE : Hid (∀ k, k < 13 → BV[k]? = L[q + k]? ∧ BM[k]? = L[q + 13 + k]?) := fun k hk => by
        rw [hBV, hBM, List.getElem?_take_of_lt hk, List.getElem?_take_of_lt hk, List.getElem?_drop, List.getElem?_drop]
        exact ⟨rfl, rfl⟩
      have hVb := nI_byt BV hVl
      have hMb := nI_byt BM hMl
      have CQ : Hid (∀ W, Calls Try.prog 19 #[.agg (cv (nI BV) (nI BM))] W fun e w' => e = .returned (.agg (cv (can (nI BV) (nI BM)) (nI BM))) ∧ Below W.heap.size W w') := rcanon_any _ _ hVb hMb
      have hg : ¬ (n : Int) - 26 < q := by omega
      clear hBV hBM hVb hMb
      have k0 := heap_past (w.alloc (.cells zeroC 36)) (.cells zeroC 36) _ _ g0
      have k1 := heap_new (w.alloc (.cells zeroC 36)) (.cells zeroC 36) (w.heap.size + 1) (by simp)
      have B1 := B0.alloc B0.size (.cells zeroC 36)
      go_enter Try.func17, Try.ntmps17
      go_wp2_with (first
        | (refine wl_zeroC rfl rfl ?_)
        | (refine wl_storeC rfl _ _ rfl (w.heap.size + 1) Z Z rfl rfl _ k1 rfl hzl hzl _ rfl ?_))
      have j0 : ((w.alloc (.cells zeroC 36)).alloc (.cells zeroC 36)).setRow (w.heap.size + 1) (cv Z Z) |>.heap[w.heap.size]? |> (· = some (.cells zeroC 36 (0, 0))) := (setRow_other _ _ _ _ (by omega)).trans k0
      have j1 := setRow_heap _ (w.heap.size + 1) _ (cv Z Z) _ _ k1
      have B2 := below_setRow B1 (show w.heap.size ≤ w.heap.size + 1 by omega) (cv Z Z)
      go_loopw [7] (fun i W => ∃ k : Nat, k ≤ 13 ∧ i = .int .i64 k ∧ W.heap[w.heap.size]? = some (.cells zeroC 36 (0, 0)) ∧ W.heap[w.heap.size + 1]? = some (.cells (cv (layI BV k) (layI BM k)) 36 (0, 0)) ∧ Below w.heap.size w W) (fun i _ => 13 - (intOf i).toNat)
      case atStart => exact ⟨0, by omega, rfl, j0, by rw [layI_zero, layI_zero]; exact j1, B2⟩
      case round =>
        clear j0 j1 B2 k0 k1 B1 g0 B0
        obtain ⟨k, hk, rfl, k0, k1, hb⟩ := hrel
        have lV := layI_len BV k hVl hk
        have lM := layI_len BM k hMl hk
        by_cases hlt : k < 13
        · obtain ⟨g, off, c1, rfl, hc1, hL1⟩ := (HL.out.below hb).at (q + k) (by omega)
          have hb2 : Below w.heap.size w (wr.setCell ⟨w.heap.size + 1, k, none⟩ (.int .u8 (c1.toNat : Int))) := hb.setCell (by simp) _
          obtain ⟨g', off', c2, e, hc3, hL2⟩ := (HL.out.below hb2).at (q + 13 + k) (by omega)
          simp only [Option.some.injEq, Addr.mk.injEq, and_true] at e
          obtain ⟨rfl, rfl⟩ := e
          have HV : Hid (layI BV (k + 1) = (layI BV k).set k (c1.toNat : Int)) := layI_succ BV k c1 hlt hVl ((HE.out k hlt).1.trans hL1)
          have HM : Hid (layI BM (k + 1) = (layI BM k).set k (c2.toNat : Int)) := layI_succ BM k c2 hlt hMl ((HE.out k hlt).2.trans hL2)
          have cV : wr.cell? ⟨w.heap.size + 1, k, none⟩ = some (.int .u8 ((layI BV k).getD k 0)) := by rw [cell_of_row wr _ _ _ _ _ k1]; exact cv_val _ _ lV k hlt
          have fV : wr.frozen? ⟨w.heap.size + 1, k, none⟩ = false := frozen_of_row wr _ _ _ _ k1
          have k2 : (wr.setCell ⟨w.heap.size + 1, k, none⟩ (.int .u8 (c1.toNat : Int))).heap[w.heap.size + 1]? = some (.cells (cv ((layI BV k).set k (c1.toNat : Int)) (layI BM k)) 36 (0, 0)) := by
            rw [← cv_set_val _ _ lV k hlt]; exact heap_setCell_same wr _ _ _ _ _ k1
          have z2 : (wr.setCell ⟨w.heap.size + 1, k, none⟩ (.int .u8 (c1.toNat : Int))).heap[w.heap.size]? = some (.cells zeroC 36 (0, 0)) := (heap_setCell_other wr ⟨w.heap.size + 1, k, none⟩ w.heap.size _ (by simp)).trans k0
          have lV2 : ((layI BV k).set k (c1.toNat : Int)).length = 13 := by rw [List.length_set]; exact lV
          have cM : wr.cell? ⟨w.heap.size + 1, 13 + k, none⟩ = some (.int .u8 ((layI BM k).getD k 0)) := by rw [cell_of_row wr _ _ _ _ _ k1]; exact cv_mask _ _ lV lM k hlt
          have fM : wr.frozen? ⟨w.heap.size + 1, 13 + k, none⟩ = false := frozen_of_row wr _ _ _ _ k1
          have cM2 : (wr.setCell ⟨w.heap.size + 1, k, none⟩ (.int .u8 (c1.toNat : Int))).cell? ⟨w.heap.size + 1, 13 + k, none⟩ = some (.int .u8 ((layI BM k).getD k 0)) := by rw [cell_of_row _ _ _ _ _ _ k2]; exact cv_mask _ _ lV2 lM k hlt
          have fM2 : (wr.setCell ⟨w.heap.size + 1, k, none⟩ (.int .u8 (c1.toNat : Int))).frozen? ⟨w.heap.size + 1, 13 + k, none⟩ = false := frozen_of_row _ _ _ _ _ k2
          go_wp2_with fail
          refine ⟨⟨k + 1, by omega, by go_num, ?_, ?_, ?_⟩, by simp [intOf]; omega⟩
          · exact (heap_setCell_other _ ⟨w.heap.size + 1, 13 + k, none⟩ w.heap.size _ (by simp)).trans z2
          · rw [HV.out, HM.out, ← cv_set_mask _ _ lV2 k]
            exact heap_setCell_same _ _ _ _ _ _ k2
          · exact hb2.setCell (by simp) _
        · obtain rfl : k = 13 := by omega
          rw [layI_all BV hVl, layI_all BM hMl] at k1
          have lV1 : (nI BV).length = 13 := by rw [nI_len, hVl]
          have lM1 : (nI BM).length = 13 := by rw [nI_len, hMl]
          obtain ⟨V, hV⟩ : ∃ V, V = nI BV := ⟨_, rfl⟩
          obtain ⟨M, hM⟩ : ∃ M, M = nI BM := ⟨_, rfl⟩
          rw [← hV] at k1 CQ HT lV1
          rw [← hM] at k1 CQ HT lM1
          clear hV hM lV lM HE HL
          have hCl := (can_byt V M).1
          have eC : ∀ w, (Op.equalIn 10000 36 (.agg (cv (can V M) M)) (.agg (cv V M))).run Try.prog w = .ok (V == can V M) w := fun w => by
            rw [eqC (can V M) M V M hCl lM1 lV1 lM1]
            congr 1
            rw [beq_self_eq_true, Bool.and_true, Bool.eq_iff_iff, beq_iff_eq, beq_iff_eq]
            exact ⟨fun h => h.symm, fun h => h.symm⟩
          have eg : ∀ op x y (xs ys : Array Value) w, (eqGuard op 36 x y (.agg xs) (.agg ys)).run Try.prog w = .ok () w := egC
          go_wp2_with fail
          have ne1 := Later.ne wr
          have hsz := (Array.getElem?_eq_some_iff.1 k1).1
          refine wp_region_later (by kernel_rfl) (by kernel_rfl) ?_
          refine qlC rfl _ rfl (w.heap.size + 1) rfl V M k1 lV1 lM1 ?_
          simp only [Act.put, List.setIfInBounds_toArray, List.set_cons_succ, List.set_cons_zero]
          go_big_quiet_want; go_big_quiet_op
          refine ⟨_, fun u => Calls.later_of (CQ.out u.world), ?_⟩
          go_big_quiet_on
          refine qlC rfl _ rfl (w.heap.size + 1) rfl V M k1 lV1 lM1 ?_
          simp only [Act.put, List.setIfInBounds_toArray, List.set_cons_succ, List.set_cons_zero]
          repeat go_big_quiet_step (fail)
          refine wpQuiet_nil ?_
          rintro w4 ⟨u, hu⟩
          have m0 : w4.heap[w.heap.size]? = some (.cells zeroC 36 (0, 0)) := by rw [hu, u.below.block _ (by omega)]; exact k0
          have m1 : w4.heap[w.heap.size + 1]? = some (.cells (cv V M) 36 (0, 0)) := by rw [hu, u.below.block _ hsz]; exact k1
          have B4 : Below w.heap.size w w4 := by rw [hu]; exact hb.trans (u.below.mono hb.size)
          clear hu u k0 k1 hb eC eg
          by_cases hq : (V == can V M) = true
          · rw [if_pos hq] at HT
            obtain ⟨b, hb⟩ : ∃ b, b = (V == can V M) := ⟨_, rfl⟩
            rw [← hb] at hq ⊢
            subst hq
            clear hb
            go_wp2_with (first
              | (refine wl_loadC rfl _ rfl (w.heap.size + 1) rfl V M m1 lV1 lM1 ?_)
              | (refine wl_storeC rfl _ _ rfl w.heap.size V M rfl rfl _ m0 rfl lV1 lM1 _ rfl ?_))
            refine retCe (p := 4) (u := 5) rfl rfl w.heap.size rfl V M lV1 lM1 (setRow_heap _ _ _ _ _ _ m0) _ rfl ⟨?_, below_setRow B4 (Nat.le_refl _) _⟩
            rw [HT.out]; rfl
          · rw [if_neg hq] at HT
            have hq' : (V == can V M) = false := by simpa using hq
            obtain ⟨b, hb⟩ : ∃ b, b = (V == can V M) := ⟨_, rfl⟩
            rw [← hb] at hq' ⊢
            subst hq'
            clear hb hq
            go_wp2_with (first
              | (refine wl_zeroC rfl rfl ?_)
              | (refine wl_storeC rfl _ _ rfl w.heap.size Z Z rfl rfl _ m0 rfl hzl hzl _ rfl ?_))
            refine retCe (p := 4) (u := 5) rfl rfl w.heap.size rfl Z Z hzl hzl (setRow_heap _ _ _ _ _ _ m0) _ rfl ⟨?_, below_setRow B4 (Nat.le_refl _) _⟩
            rw [HT.out]; rfl
    · have HT : Hid (tcT L q = (Z, Z, 12)) := by show _ = _; unfold tcT; rw [if_pos h0, if_neg (by rw [← HN.out]; omega)]
      have hg : (n : Int) - 26 < q := by omega
      go_enter Try.func17, Try.ntmps17
      go_wp2_with (first
        | (refine wl_zeroC rfl rfl ?_)
        | (refine wl_storeC rfl _ _ rfl w.heap.size Z Z rfl rfl _ g0 rfl hzl hzl _ rfl ?_))
      refine retCe (p := 4) (u := 5) rfl rfl w.heap.size rfl Z Z hzl hzl (setRow_heap _ _ _ _ _ _ g0) _ rfl ⟨?_, below_setRow B0 (Nat.le_refl _) _⟩
      rw [HT.out]; rfl
  · have HT : Hid (tcT L p = (Z, Z, 1)) := by show _ = _; unfold tcT; rw [if_neg h0]
    have hp0 : p < 0 := by omega
    go_enter Try.func17, Try.ntmps17
    go_wp2_with (first
      | (refine wl_zeroC rfl rfl ?_)
      | (refine wl_storeC rfl _ _ rfl w.heap.size Z Z rfl rfl _ g0 rfl hzl hzl _ rfl ?_))
    refine retCe (p := 4) (u := 5) rfl rfl w.heap.size rfl Z Z hzl hzl (setRow_heap _ _ _ _ _ _ g0) _ rfl ⟨?_, below_setRow B0 (Nat.le_refl _) _⟩
    rw [HT.out]; rfl
end Go.Proofs.Ytfbphblodankmaa
