import Derived.Test.YthekoeinnillpabSame
namespace Go.Proofs.Ythekoeinnillpab
open Go Go.RowKit

theorem cnt_take (H : List Int) (C : List (List Int × List Int)) (k : Nat) (hk : k < C.length) : cnt H (C.take (k + 1)) = cnt H (C.take k) + if has C[k].1 C[k].2 H = true then 1 else 0 := by
  rw [List.take_succ_eq_append_getElem hk, cnt_append]
  rfl

set_option maxHeartbeats 4000000 in
theorem lawMinus_any (V M V' M' H : List Int) (hV : Byt V) (hM : Byt M) (hV' : Byt V') (hM' : Byt M') (hH : Byt H) (w : World) :
    Calls Try.prog 3 #[.agg (cv V M), .agg (cv V' M'), .agg (hv H)] w fun e w' => e = .returned (.bool true) ∧ Below w.heap.size w w' := by
  have hVl := hV.1
  have hMl := hM.1
  have hVl' := hV'.1
  have hMl' := hM'.1
  have hHl := hH.1
  obtain ⟨C, hC⟩ : ∃ C, C = minusC V M V' M' := ⟨_, rfl⟩
  have HBY : Hid (Byts C) := by show Byts C; rw [hC]; exact byts_minus V M V' M' hM
  have hle : C.length ≤ 104 := by rw [hC]; exact len_minus _ _ _ _
  have HCN : Hid (cnt H C = if (has V M H && !(has V' M' H)) = true then 1 else 0) := by show _ = _; rw [hC]; exact cnt_minus _ _ _ _ _
  have C1 : Hid (∀ W, Calls Try.prog 6 #[.agg (cv V M), .agg (cv V' M')] W fun e w' => ∃ v, e = .returned v ∧ w'.ownsRow W.heap.size 25 26 v C.length (ccells C) ∧ Below W.heap.size W w') := by rw [hC]; exact minus_any V M V' M' hV hM hV' hM'
  have C2 : Hid (∀ W, Calls Try.prog 9 #[.agg (cv V M), .agg (cv V' M')] W fun e w' => ∃ v, e = .returned v ∧ w'.ownsRow W.heap.size 25 26 v C.length (ccells C) ∧ Below W.heap.size W w') := by rw [hC]; exact rminus_any V M V' M' hV hM hV' hM'
  have CH : Hid (∀ U N : List Int, Byt U → Byt N → ∀ W, Calls Try.prog 7 #[.agg (cv U N), .agg (hv H)] W fun e w' => e = .returned (.bool (has U N H)) ∧ Below W.heap.size W w') := fun U N h1 h2 => has_any U N H h1 h2 hH
  have HV : Hid (Byt V ∧ Byt M ∧ Byt V' ∧ Byt M') := ⟨hV, hM, hV', hM'⟩
  clear hV hM hV' hM' hH hC
  go_enter Try.func3, Try.ntmps3
  go_wp2_with fail
  refine (awake_any _).mono ?_
  rintro e w1 ⟨rfl, hb1⟩
  have g0 : w1.heap[w.heap.size]? = some (.cells (cv V M) 25 (0, 0)) := by rw [hb1.block _ (by simp; omega)]; exact heap_past _ _ _ _ (heap_past _ _ _ _ (heap_new _ _ _ rfl))
  have g1 : w1.heap[w.heap.size + 1]? = some (.cells (cv V' M') 25 (0, 0)) := by rw [hb1.block _ (by simp)]; exact heap_past _ _ _ _ (heap_new _ _ _ (by simp))
  have g2 : w1.heap[w.heap.size + 2]? = some (.cells (hv H) 23 (0, 0)) := by rw [hb1.block _ (by simp)]; exact heap_new _ _ _ (by simp)
  have B1 : Below w.heap.size w w1 := ((((Below.refl _ _).alloc (Nat.le_refl _) _).alloc (by simp) _).alloc (by simp; omega) _).trans (hb1.mono (by simp; omega))
  have z1 : w.heap.size + 3 ≤ w1.heap.size := Nat.le_trans (by simp) hb1.size
  clear hb1
  go_wp2_with (first
    | (refine wl_loadC rfl _ rfl w.heap.size rfl V M g0 hVl hMl ?_)
    | (refine wl_loadC rfl _ rfl (w.heap.size + 1) rfl V' M' g1 hVl' hMl' ?_))
  refine (C1.out _).mono ?_
  rintro e w2 ⟨v, rfl, hown, hb2⟩
  have n0 : w2.heap[w.heap.size]? = some (.cells (cv V M) 25 (0, 0)) := by rw [hb2.block _ (by omega)]; exact g0
  have n1 : w2.heap[w.heap.size + 1]? = some (.cells (cv V' M') 25 (0, 0)) := by rw [hb2.block _ (by omega)]; exact g1
  have n2 : w2.heap[w.heap.size + 2]? = some (.cells (hv H) 23 (0, 0)) := by rw [hb2.block _ (by omega)]; exact g2
  have B2 := B1.trans (hb2.mono B1.size)
  have z2 : w.heap.size + 3 ≤ w2.heap.size := Nat.le_trans z1 hb2.size
  have hrow : Row w2 v C := row_of hown HBY.out
  have HROW : Hid (Row w2 v C) := hrow
  clear g0 g1 g2 B1 z1 hb2 C1 hown
  obtain ⟨o, cap, rfl, hrow⟩ := hrow
  have HR : Hid (∀ (i : Nat) (hi : i < C.length), ∃ g cur, o = some ⟨g, 0, none⟩ ∧ w2.heap[g]? = some (.cells cur 25 (0, 0)) ∧ ∀ j, j < 26 → cur[26 * i + j]? = (cv C[i].1 C[i].2)[j]?) := hrow
  obtain ⟨N0, hN0⟩ : ∃ n, n = C.length := ⟨_, rfl⟩
  have HN0 : Hid (N0 = C.length) := hN0
  rw [← hN0] at hle ⊢
  clear hrow hN0
  go_wp2_with fail
  go_loopw [8, 9] (fun n i wr => ∃ k : Nat, k ≤ N0 ∧ i = .int .i64 k ∧ n = .int .i64 ((cnt H (C.take k) : Nat) : Int) ∧ Below w2.heap.size w2 wr) (fun _ i _ => N0 - (intOf i).toNat)
  case atStart => exact ⟨0, Nat.zero_le _, rfl, rfl, Below.refl _ _⟩
  case round =>
    obtain ⟨k, hk, rfl, rfl, hbw⟩ := hrel
    have m0 : wr.heap[w.heap.size]? = some (.cells (cv V M) 25 (0, 0)) := (hbw.block _ (by omega)).trans n0
    have m1 : wr.heap[w.heap.size + 1]? = some (.cells (cv V' M') 25 (0, 0)) := (hbw.block _ (by omega)).trans n1
    have m2 : wr.heap[w.heap.size + 2]? = some (.cells (hv H) 23 (0, 0)) := (hbw.block _ (by omega)).trans n2
    have z3 : w.heap.size + 3 ≤ wr.heap.size := Nat.le_trans z2 hbw.size
    obtain ⟨n, hn⟩ : ∃ n, n = cnt H (C.take k) := ⟨_, rfl⟩
    have hnk : n ≤ k := by rw [hn]; exact Nat.le_trans (cnt_le H _) (by simp; omega)
    have HN : Hid (n = cnt H (C.take k)) := hn
    rw [← hn]
    clear hn
    by_cases hlt : k < N0
    · have hkC : k < C.length := by rw [← HN0.out]; exact hlt
      obtain ⟨g, cur, rfl, hg, hc⟩ := HR.out k hkC
      obtain ⟨U, N, hUN⟩ : ∃ U N, (U, N) = C[k] := ⟨_, _, rfl⟩
      have hby := HBY.out C[k] (List.getElem_mem _)
      have hct := cnt_take H C k hkC
      rw [← hUN] at hc hby hct
      have hUl : U.length = 13 := hby.1.1
      have hNl : N.length = 13 := hby.2.1
      have D1 : Hid (∀ W, Calls Try.prog 7 #[.agg (cv U N), .agg (hv H)] W fun e w' => e = .returned (.bool (has U N H)) ∧ Below W.heap.size W w') := CH.out U N hby.1 hby.2
      have hg' : wr.heap[g]? = some (.cells cur 25 (0, 0)) := (hbw.block g (Array.getElem?_eq_some_iff.1 hg).1).trans hg
      have HCE : Hid (∀ j, j < 26 → cur[k * 26 + j]? = (cv U N)[j]?) := fun j hj => by rw [Nat.mul_comm]; exact hc j hj
      rw [← HN.out] at hct
      have HCT : Hid (cnt H (C.take (k + 1)) = n + if has U N H = true then 1 else 0) := hct
      obtain ⟨b, hb⟩ : ∃ b, b = has U N H := ⟨_, rfl⟩
      rw [← hb] at D1 HCT
      clear hUN hby hg hc hct hb
      go_wp2_with fail
      have ne1 := Later.ne wr
      refine wp_region_later (by kernel_rfl) (by kernel_rfl) ?_
      go_big_quiet_step (fail)
      go_big_quiet_step (fail)
      go_big_quiet_step (fail)
      refine qlCat rfl _ rfl g (k * 26) rfl cur _ U N hUl hNl hg' HCE.out ?_
      simp only [Act.put, List.setIfInBounds_toArray, List.set_cons_succ, List.set_cons_zero]
      refine qlH rfl _ rfl (w.heap.size + 2) rfl H m2 hHl ?_
      simp only [Act.put, List.setIfInBounds_toArray, List.set_cons_succ, List.set_cons_zero]
      go_big_quiet_want; go_big_quiet_op
      refine ⟨_, fun u => Calls.later_of (D1.out u.world), ?_⟩
      go_big_quiet_on
      refine wpQuiet_nil ?_
      rintro w' ⟨u, rfl⟩
      have hbw2 := hbw.trans (u.below.mono hbw.size)
      clear ne1 D1 hbw m0 m1 m2 hg'
      cases b
      · go_wp2_with fail
        go_roundw
        case rel => exact ⟨k + 1, by omega, by go_num, by rw [HCT.out]; simp, hbw2⟩
        case measure => simp [intOf]; omega
      · go_wp2_with fail
        go_roundw
        case rel => exact ⟨k + 1, by omega, by go_num, by rw [HCT.out]; simp, hbw2⟩
        case measure => simp [intOf]; omega
    · obtain rfl : k = N0 := by omega
      have hn2 : n = if (has V M H && !(has V' M' H)) = true then 1 else 0 := by
        rw [HN.out, List.take_of_length_le (by rw [HN0.out]; exact Nat.le_refl _)]; exact HCN.out
      obtain ⟨x, hx⟩ : ∃ x, x = has V M H := ⟨_, rfl⟩
      obtain ⟨y, hy⟩ : ∃ y, y = has V' M' H := ⟨_, rfl⟩
      have DX : Hid (∀ W, Calls Try.prog 7 #[.agg (cv V M), .agg (hv H)] W fun e w' => e = .returned (.bool x) ∧ Below W.heap.size W w') := by rw [hx]; exact CH.out V M HV.out.1 HV.out.2.1
      have DY : Hid (∀ W, Calls Try.prog 7 #[.agg (cv V' M'), .agg (hv H)] W fun e w' => e = .returned (.bool y) ∧ Below W.heap.size W w') := by rw [hy]; exact CH.out V' M' HV.out.2.2.1 HV.out.2.2.2
      have ROW : Hid (Row wr (.slice o k cap) C) := by
        have := HROW.out.below hbw
        rw [← HN0.out] at this
        exact this
      have B3 := B2.trans (hbw.mono B2.size)
      rw [← hx, ← hy] at hn2
      have HN2 : Hid (n = if (x && !y) = true then 1 else 0) := hn2
      clear hn2 hx hy hbw HN HR HROW CH n0 n1 n2 B2
      go_wp2_with (first
        | (refine wl_loadC rfl _ rfl w.heap.size rfl V M m0 hVl hMl ?_)
        | (refine wl_load26 rfl _ rfl (w.heap.size + 2) rfl H m2 hHl ?_))
      refine (DX.out _).mono ?_
      rintro e w3 ⟨rfl, hb3⟩
      have p0 : w3.heap[w.heap.size]? = some (.cells (cv V M) 25 (0, 0)) := by rw [hb3.block _ (by omega)]; exact m0
      have p1 : w3.heap[w.heap.size + 1]? = some (.cells (cv V' M') 25 (0, 0)) := by rw [hb3.block _ (by omega)]; exact m1
      have p2 : w3.heap[w.heap.size + 2]? = some (.cells (hv H) 23 (0, 0)) := by rw [hb3.block _ (by omega)]; exact m2
      have B4 := B3.trans (hb3.mono B3.size)
      have z4 : w.heap.size + 3 ≤ w3.heap.size := Nat.le_trans z3 hb3.size
      have ROW3 : Hid (Row w3 (.slice o k cap) C) := ROW.out.below hb3
      clear m0 m1 m2 B3 hb3 ROW DX z3
      cases x
      · obtain rfl : n = 0 := by have := HN2.out; simpa using this
        clear HN2
        go_wp2_with (first
          | (refine wl_loadCg rfl _ rfl w.heap.size rfl V M p0 hVl hMl ?_)
          | (refine wl_loadCg rfl _ rfl (w.heap.size + 1) rfl V' M' p1 hVl' hMl' ?_))
        refine (C2.out _).mono ?_
        rintro e w6 ⟨v2, rfl, hown2, hb6⟩
        have B6 := B4.trans (hb6.mono B4.size)
        have R1 : Hid (Row w6 (.slice o k cap) C) := ROW3.out.below hb6
        have R2 : Hid (Row w6 v2 C) := row_of hown2 HBY.out
        clear hown2 hb6 p0 p1 B4 ROW3
        go_wp2_with fail
        refine (same_any C HBY.out (by rw [← HN0.out]; exact hle) _ _ _ R1.out R2.out).mono ?_
        rintro e w7 ⟨rfl, hb7⟩
        go_wp2_with fail
        go_ret
        exact ⟨rfl, B6.trans (hb7.mono B6.size)⟩
      · go_wp2_with (first
          | (refine wl_loadCg rfl _ rfl (w.heap.size + 1) rfl V' M' p1 hVl' hMl' ?_)
          | (refine wl_loadHg rfl _ rfl (w.heap.size + 2) rfl H p2 hHl ?_))
        refine (DY.out _).mono ?_
        rintro e w4 ⟨rfl, hb4⟩
        have q0 : w4.heap[w.heap.size]? = some (.cells (cv V M) 25 (0, 0)) := by rw [hb4.block _ (by omega)]; exact p0
        have q1 : w4.heap[w.heap.size + 1]? = some (.cells (cv V' M') 25 (0, 0)) := by rw [hb4.block _ (by omega)]; exact p1
        have B5 := B4.trans (hb4.mono B4.size)
        have z5 : w.heap.size + 3 ≤ w4.heap.size := Nat.le_trans z4 hb4.size
        have ROW4 : Hid (Row w4 (.slice o k cap) C) := ROW3.out.below hb4
        clear p0 p1 p2 B4 hb4 ROW3 DY z4
        cases y
        · obtain rfl : n = 1 := by have := HN2.out; simpa using this
          clear HN2
          go_wp2_with (first
            | (refine wl_loadCg rfl _ rfl w.heap.size rfl V M q0 hVl hMl ?_)
            | (refine wl_loadCg rfl _ rfl (w.heap.size + 1) rfl V' M' q1 hVl' hMl' ?_))
          refine (C2.out _).mono ?_
          rintro e w6 ⟨v2, rfl, hown2, hb6⟩
          have B6 := B5.trans (hb6.mono B5.size)
          have R1 : Hid (Row w6 (.slice o k cap) C) := ROW4.out.below hb6
          have R2 : Hid (Row w6 v2 C) := row_of hown2 HBY.out
          clear hown2 hb6 q0 q1 B5 ROW4
          go_wp2_with fail
          refine (same_any C HBY.out (by rw [← HN0.out]; exact hle) _ _ _ R1.out R2.out).mono ?_
          rintro e w7 ⟨rfl, hb7⟩
          go_wp2_with fail
          go_ret
          exact ⟨rfl, B6.trans (hb7.mono B6.size)⟩
        · obtain rfl : n = 0 := by have := HN2.out; simpa using this
          clear HN2
          go_wp2_with (first
            | (refine wl_loadCg rfl _ rfl w.heap.size rfl V M q0 hVl hMl ?_)
            | (refine wl_loadCg rfl _ rfl (w.heap.size + 1) rfl V' M' q1 hVl' hMl' ?_))
          refine (C2.out _).mono ?_
          rintro e w6 ⟨v2, rfl, hown2, hb6⟩
          have B6 := B5.trans (hb6.mono B5.size)
          have R1 : Hid (Row w6 (.slice o k cap) C) := ROW4.out.below hb6
          have R2 : Hid (Row w6 v2 C) := row_of hown2 HBY.out
          clear hown2 hb6 q0 q1 B5 ROW4
          go_wp2_with fail
          refine (same_any C HBY.out (by rw [← HN0.out]; exact hle) _ _ _ R1.out R2.out).mono ?_
          rintro e w7 ⟨rfl, hb7⟩
          go_wp2_with fail
          go_ret
          exact ⟨rfl, B6.trans (hb7.mono B6.size)⟩
end Go.Proofs.Ythekoeinnillpab
