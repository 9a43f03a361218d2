import Derived.Test.YthekoeinnillpabRefParse
namespace Go.Proofs.Ythekoeinnillpab
open Go Go.RowKit

theorem parse_any (s : ByteArray) (hm : s.size ≤ maxLen) (w : World) :
    Calls Try.prog 11 #[.string s] w fun e w' => e = .returned (parseR s.data.toList) ∧ Below w.heap.size w w' := by
  by_cases hs : s.size = 104
  · exact parse_long s hs w
  · rw [parseR_no _ fun h => hs (by simpa using h.1)]; exact parse_short s hs hm w
theorem rparse_any (s : ByteArray) (hm : s.size ≤ maxLen) (w : World) :
    Calls Try.prog 12 #[.string s] w fun e w' => e = .returned (parseR s.data.toList) ∧ Below w.heap.size w w' := by
  by_cases hs : s.size = 104
  · exact rparse_long s hs w
  · rw [parseR_no _ fun h => hs (by simpa using h.1)]; exact rparse_short s hs hm w
theorem parse_txt (V M : List Int) (hM : Byt M) : parseR (txt V M) = .tuple #[.agg (cv (can V M) M), .int .i64 0] := by
  have hg : ∀ i, i < 104 → (txt V M).getD i 0 = letter V M i := fun i hi => by unfold txt; simp [List.getD, hi]
  rw [parseR_yes _ (txt_length V M) fun i hi => by rw [hg i hi]; unfold okB letter; cases bt M i <;> cases bt V i <;> rfl]
  have e1 : mk (pV (txt V M)) = can V M := mk_ext _ _ fun i hi => by
    unfold pV; rw [hg i hi]; unfold letter; cases bt M i <;> cases bt V i <;> rfl
  have e2 : mk (pM (txt V M)) = M := (mk_eq M hM _ fun i hi => by
    unfold pM; rw [hg i hi]; unfold letter; cases bt M i <;> cases bt V i <;> rfl).symm
  rw [e1, e2]
theorem parseR_is (S : List UInt8) : ∃ (U N : List Int) (n : Int), Byt U ∧ Byt N ∧ parseR S = .tuple #[.agg (cv U N), .int .i64 n] := by
  unfold parseR
  split
  · exact ⟨_, _, _, mk_byt _, mk_byt _, rfl⟩
  · exact ⟨_, _, _, Z_byt, Z_byt, rfl⟩

set_option maxHeartbeats 4000000 in
theorem lawTexts_any (V M : List Int) (s : ByteArray) (hV : Byt V) (hM : Byt M) (hm : s.size ≤ maxLen) (w : World) :
    Calls Try.prog 4 #[.agg (cv V M), .string s] w fun e w' => e = .returned (.bool true) ∧ Below w.heap.size w w' := by
  have hVl := hV.1
  have hMl := hM.1
  have hCl := (can_byt V M).1
  obtain ⟨tb, htb⟩ : ∃ tb : ByteArray, tb = ⟨(txt V M).toArray⟩ := ⟨_, rfl⟩
  obtain ⟨U, N, n, hU, hN, hR⟩ := parseR_is s.data.toList
  have hUl := hU.1
  have hNl := hN.1
  have C1 : Hid (∀ W, Calls Try.prog 10 #[.agg (cv V M)] W fun e w' => e = .returned (.string tb) ∧ Below W.heap.size W w') := by rw [htb]; exact text_any V M hV hM
  have C2 : Hid (∀ W, Calls Try.prog 11 #[.string tb] W fun e w' => e = .returned (.tuple #[.agg (cv (can V M) M), .int .i64 0]) ∧ Below W.heap.size W w') := by
    have hsz : tb.size = 104 := by rw [htb]; show (txt V M).toArray.size = 104; simp [txt_length]
    have := parse_any tb (by rw [hsz]; unfold maxLen; omega)
    rwa [show tb.data.toList = txt V M by rw [htb], parse_txt V M hM] at this
  have C3 : Hid (∀ W, Calls Try.prog 11 #[.string s] W fun e w' => e = .returned (.tuple #[.agg (cv U N), .int .i64 n]) ∧ Below W.heap.size W w') := by rw [← hR]; exact parse_any s hm
  have C4 : Hid (∀ W, Calls Try.prog 12 #[.string s] W fun e w' => e = .returned (.tuple #[.agg (cv U N), .int .i64 n]) ∧ Below W.heap.size W w') := by rw [← hR]; exact rparse_any s hm
  have C5 : Hid (∀ W, Calls Try.prog 13 #[.agg (cv V M)] W fun e w' => e = .returned (.string tb) ∧ Below W.heap.size W w') := by rw [htb]; exact rtext_any V M hV hM
  have C6 : Hid (∀ W, Calls Try.prog 14 #[.agg (cv V M)] W fun e w' => e = .returned (.agg (cv (can V M) M)) ∧ Below W.heap.size W w') := rcanon_any V M hV hM
  have e1 : ∀ w, (Op.equalIn 10000 25 (.agg (cv (can V M) M)) (.agg (cv (can V M) M))).run Try.prog w = .ok true w := fun w => by rw [eqC _ _ _ _ hCl hMl hCl hMl]; simp
  have e2 : ∀ w, (Op.equalIn 10000 25 (.agg (cv U N)) (.agg (cv U N))).run Try.prog w = .ok true w := fun w => by rw [eqC _ _ _ _ hUl hNl hUl hNl]; simp
  have eg : ∀ op x y (xs ys : Array Value) w, (eqGuard op 25 x y (.agg xs) (.agg ys)).run Try.prog w = .ok () w := egC
  have hnn : (n == n) = true := by simp
  have htt : (tb.toList == tb.toList) = true := by simp
  clear hV hM hm htb hU hN hR
  go_enter Try.func4, Try.ntmps4
  go_wp2_with fail
  refine (awake_any _).mono ?_
  rintro e w1 ⟨rfl, hb1⟩
  have g0 : w1.heap[w.heap.size]? = some (.cells (cv V M) 25 (0, 0)) := by rw [hb1.block _ (by simp)]; exact heap_new _ _ _ rfl
  have B1 : Below w.heap.size w w1 := ((Below.refl _ _).alloc (Nat.le_refl _) _).trans (hb1.mono (by simp))
  have z1 : w.heap.size + 1 ≤ w1.heap.size := Nat.le_trans (by simp) hb1.size
  clear hb1
  go_wp2_with (first
    | (refine wl_loadC rfl _ rfl w.heap.size rfl V M g0 hVl hMl ?_))
  refine (C1.out _).mono ?_
  rintro e w2 ⟨rfl, hb2⟩
  have k0 : w2.heap[w.heap.size]? = some (.cells (cv V M) 25 (0, 0)) := by rw [hb2.block _ (by omega)]; exact g0
  have B2 := B1.trans (hb2.mono B1.size)
  have z2 : w.heap.size + 1 ≤ w2.heap.size := Nat.le_trans z1 hb2.size
  clear g0 B1 z1 hb2 C1
  go_wp2_with fail
  refine (C2.out _).mono ?_
  rintro e w3 ⟨rfl, hb3⟩
  have l0 : w3.heap[w.heap.size]? = some (.cells (cv V M) 25 (0, 0)) := by rw [hb3.block _ (by omega)]; exact k0
  have B3 := B2.trans (hb3.mono B2.size)
  have z3 : w.heap.size + 1 ≤ w3.heap.size := Nat.le_trans z2 hb3.size
  clear k0 B2 z2 hb3 C2
  have m0 := heap_past w3 (.cells (cv (can V M) M) 25) _ _ l0
  have m1 := heap_new w3 (.cells (cv (can V M) M) 25) _ rfl
  have B4 := B3.alloc B3.size (.cells (cv (can V M) M) 25)
  go_wp2_with (first
    | (refine wl_storeC rfl _ _ rfl w3.heap.size (can V M) M rfl rfl _ (heap_new _ _ _ rfl) rfl hCl hMl _ (setRow_new _ _ _ _ _ rfl) ?_))
  refine (C3.out _).mono ?_
  rintro e w4 ⟨rfl, hb4⟩
  have p0 : w4.heap[w.heap.size]? = some (.cells (cv V M) 25 (0, 0)) := by rw [hb4.block _ (by simp; omega)]; exact m0
  have p1 : w4.heap[w3.heap.size]? = some (.cells (cv (can V M) M) 25 (0, 0)) := by rw [hb4.block _ (by simp)]; exact m1
  have B5 := B4.trans (hb4.mono B4.size)
  have z5 : w3.heap.size + 1 ≤ w4.heap.size := Nat.le_trans (by simp) hb4.size
  clear l0 B3 m0 m1 B4 hb4 C3
  have q0 := heap_past w4 (.cells (cv U N) 25) _ _ p0
  have q1 := heap_past w4 (.cells (cv U N) 25) _ _ p1
  have q2 := heap_new w4 (.cells (cv U N) 25) _ rfl
  have B6 := B5.alloc B5.size (.cells (cv U N) 25)
  go_wp2_with (first
    | (refine wl_storeC rfl _ _ rfl w4.heap.size U N rfl rfl _ (heap_new _ _ _ rfl) rfl hUl hNl _ (setRow_new _ _ _ _ _ rfl) ?_))
  refine (C4.out _).mono ?_
  rintro e w5 ⟨rfl, hb5⟩
  have r0 : w5.heap[w.heap.size]? = some (.cells (cv V M) 25 (0, 0)) := by rw [hb5.block _ (by simp; omega)]; exact q0
  have r1 : w5.heap[w3.heap.size]? = some (.cells (cv (can V M) M) 25 (0, 0)) := by rw [hb5.block _ (by simp; omega)]; exact q1
  have r2 : w5.heap[w4.heap.size]? = some (.cells (cv U N) 25 (0, 0)) := by rw [hb5.block _ (by simp)]; exact q2
  have B7 := B6.trans (hb5.mono B6.size)
  clear p0 p1 B5 q0 q1 q2 B6 hb5 C4
  have n0 := heap_past w5 (.cells (cv U N) 25) _ _ r0
  have n1 := heap_past w5 (.cells (cv U N) 25) _ _ r1
  have n2 := heap_past w5 (.cells (cv U N) 25) _ _ r2
  have n3 := heap_new w5 (.cells (cv U N) 25) _ rfl
  have B8 := B7.alloc B7.size (.cells (cv U N) 25)
  obtain ⟨W, hW⟩ : ∃ W, W = w5.alloc (.cells (cv U N) 25) := ⟨_, rfl⟩
  go_wp2_with (first
    | (refine wl_storeC rfl _ _ rfl w5.heap.size U N rfl rfl _ (heap_new _ _ _ rfl) rfl hUl hNl _ (setRow_new _ _ _ _ _ rfl) ?_))
  rw [← hW] at n0 n1 n2 n3 B8 ⊢
  clear hW r0 r1 r2 B7
  have ne1 := Later.ne W
  refine wp_region_later (by kernel_rfl) (by kernel_rfl) ?_
  go_big_quiet_step (fail)
  refine qlC rfl _ rfl w.heap.size rfl V M n0 hVl hMl ?_
  simp only [Act.put, List.setIfInBounds_toArray, List.set_cons_succ, List.set_cons_zero]
  go_big_quiet_want; go_big_quiet_op
  refine ⟨_, fun u => Calls.later_of (C5.out u.world), ?_⟩
  go_big_quiet_on
  go_big_quiet_step (fail)
  go_big_quiet_step (fail)
  refine qlC rfl _ rfl w3.heap.size rfl (can V M) M n1 hCl hMl ?_
  simp only [Act.put, List.setIfInBounds_toArray, List.set_cons_succ, List.set_cons_zero]
  refine qlC rfl _ rfl w.heap.size rfl V M n0 hVl hMl ?_
  simp only [Act.put, List.setIfInBounds_toArray, List.set_cons_succ, List.set_cons_zero]
  go_big_quiet_want; go_big_quiet_op
  refine ⟨_, fun u => Calls.later_of (C6.out u.world), ?_⟩
  go_big_quiet_on
  go_big_quiet_step (fail)
  go_big_quiet_step (fail)
  go_big_quiet_step (fail)
  go_big_quiet_step (fail)
  go_big_quiet_step (fail)
  go_big_quiet_step (fail)
  go_big_quiet_step (fail)
  refine qlC rfl _ rfl w4.heap.size rfl U N n2 hUl hNl ?_
  simp only [Act.put, List.setIfInBounds_toArray, List.set_cons_succ, List.set_cons_zero]
  refine qlC rfl _ rfl w5.heap.size rfl U N n3 hUl hNl ?_
  simp only [Act.put, List.setIfInBounds_toArray, List.set_cons_succ, List.set_cons_zero]
  go_big_quiet_step (fail)
  go_big_quiet_step (fail)
  go_big_quiet_step (fail)
  go_big_quiet_step (fail)
  go_big_quiet_step (fail)
  go_big_quiet_step (fail)
  go_big_quiet_step (fail)
  go_big_quiet_step (fail)
  refine wpQuiet_nil ?_
  rintro w' ⟨u, rfl⟩
  go_wp2
  go_ret
  exact ⟨rfl, B8.trans (u.below.mono B8.size)⟩
end Go.Proofs.Ythekoeinnillpab
