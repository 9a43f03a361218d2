import Derived.Test.YtfbphblodankmaaWCubeM
namespace Go.Proofs.Ytfbphblodankmaa
open Go Go.RowKit
set_option maxRecDepth 20000

/-- What TakeCube answers. -/
def tcT (L : List UInt8) (p : Int) : List Int × List Int × Int :=
  if 0 ≤ p then
    if p + 26 ≤ L.length then
      if (nI ((L.drop p.toNat).take 13) == can (nI ((L.drop p.toNat).take 13)) (nI ((L.drop (p.toNat + 13)).take 13))) = true then (nI ((L.drop p.toNat).take 13), nI ((L.drop (p.toNat + 13)).take 13), 0) else (Z, Z, 12)
    else (Z, Z, 12)
  else (Z, Z, 1)

/-- Thirteen bytes are laid over the first, or the second, half of a cube. -/
theorem lay_val (V M : List Int) (B : List UInt8) (hV : V.length = 13) (hB : B.length = 13) : ((cv V M).toList.take 0 ++ (Lib.byteCells B ++ (cv V M).toList.drop (0 + (Lib.byteCells B).length))).toArray = cv (nI B) M := by
  have e : (Lib.byteCells B) = (nI B).map (Value.int .u8) := by unfold Lib.byteCells nI; rw [List.map_map]; rfl
  rw [List.take_zero, List.nil_append, Lib.byteCells_length, hB, e]
  unfold cv hv
  simp only [List.map_append]
  rw [List.drop_append_of_le_length (by simp; omega), List.drop_of_length_le (by simp; omega), List.nil_append]
theorem lay_mask (V M : List Int) (B : List UInt8) (hV : V.length = 13) (hM : M.length = 13) (hB : B.length = 13) : ((cv V M).toList.take 13 ++ (Lib.byteCells B ++ (cv V M).toList.drop (13 + (Lib.byteCells B).length))).toArray = cv V (nI B) := by
  have e : (Lib.byteCells B) = (nI B).map (Value.int .u8) := by unfold Lib.byteCells nI; rw [List.map_map]; rfl
  rw [Lib.byteCells_length, hB, e]
  unfold cv hv
  simp only [List.map_append]
  rw [List.drop_of_length_le (by simp; omega), List.append_nil, List.take_append_of_le_length (by simp; omega), List.take_of_length_le (by simp; omega)]
/-- A copy of bytes over a part of a cube's block. -/
theorem wl_copyW {ops : Array Oper} {rest : List Oper} {o : Oper} {a : Act} {w : World} {Q : Exit → Act → World → Prop} (hgd : o.guard = none) (d s : Operand) (ho : o.op = .call { callee := .builtin .copy, args := #[d, s], argTypes := #[22, 22] })
    (g off : Nat) (V M : List Int) (hV : V.length = 13) (hM : M.length = 13) (hoff : off = 0 ∨ off = 13) (hd : a.eval d = .slice (some ⟨g, off, none⟩) 13 13) (u : Value) (hs : a.eval s = u) (L : List UInt8) (hL : BSl w u L) (hl : 13 ≤ L.length) (hg : w.heap[g]? = some (.cells (cv V M) 36 (0, 0)))
    (h : wpList Try.prog ops Q rest (a.put o.dst (.int .i64 13)) (w.setRow g (if off = 0 then cv (nI (L.take 13)) M else cv V (nI (L.take 13))))) : wpList Try.prog ops Q (o :: rest) a w := by
  obtain ⟨oa, cap, rfl, h1, h2, h3, h4⟩ := hL
  have hB : (L.take 13).length = 13 := by simp; omega
  obtain ⟨gs, os, _, _, _, rfl, _⟩ := h4 0 (by omega)
  refine wpList_copy_own hgd d s 22 22 ho 5 Try.underlying22 (by kernel_rfl) g off 13 13 ⟨gs, os, none⟩ L.length cap hd hs (cv V M) 36 hg (Lib.byteCells (L.take 13)) ?_ ?_ ?_ ?_ ?_
  · rw [Lib.byteCells_length, hB]; exact (Nat.min_eq_right hl).symm
  · intro j v hj
    have hjl : j < 13 := by
      have := (List.getElem?_eq_some_iff.1 hj).1
      rw [Lib.byteCells_length, hB] at this
      exact this
    obtain ⟨g', off', cur, t, fr, e, h5, h6⟩ := h4 j (by omega)
    simp only [Option.some.injEq, Addr.mk.injEq, and_true] at e
    obtain ⟨rfl, rfl⟩ := e
    rw [add_form, cell_of_row _ _ _ _ _ _ h5, h6, ← hj, bcells_at _ j (by rw [hB]; exact hjl)]
    simp
  · rw [Lib.byteCells_length, hB, cv_size V M hV hM]; rcases hoff with rfl | rfl <;> omega
  · intro v hv
    unfold Lib.byteCells at hv
    obtain ⟨b, _, rfl⟩ := List.mem_map.1 hv
    rfl
  · rw [show goInt ((Lib.byteCells (L.take 13)).length : Nat) = .int .i64 13 by rw [Lib.byteCells_length, hB]; rfl]
    rcases hoff with rfl | rfl
    · rw [lay_val V M _ hV hB]; exact h
    · rw [lay_mask V M _ hV hM hB]; exact h

set_option maxHeartbeats 8000000 in
theorem takeCube_any (v : Value) (L : List UInt8) (p : Int) (w : World) (hL : BSl w v L) (hp : p ≤ 9223372036854775807) :
    Calls Try.prog 16 #[v, .int .i64 p] w fun e w' => e = .returned (.tuple #[.agg (cv (tcT L p).1 (tcT L p).2.1), .int .i64 (tcT L p).2.2]) ∧ Below w.heap.size w w' := by
  have HL : Hid (BSl w v L) := hL
  obtain ⟨ov, cx, hv, hc1, hc2⟩ := hL.slice
  subst hv
  clear hL
  obtain ⟨n, hn⟩ : ∃ n, n = L.length := ⟨_, rfl⟩
  have HN : Hid (n = L.length) := hn
  rw [← hn] at HL hc1 ⊢
  clear hn
  have hzl := Z_byt.1
  have g0 := heap_new w (.cells zeroC 36) _ rfl
  have B0 : Below w.heap.size w (w.alloc (.cells zeroC 36)) := (Below.refl _ _).alloc (Nat.le_refl _) _
  have hcm := hc2
  unfold maxLen at hc2
  by_cases h0 : 0 ≤ p
  · obtain ⟨k, rfl⟩ : ∃ k : Nat, p = k := ⟨p.toNat, by omega⟩
    have CR : Hid (∀ W, Calls Try.prog 28 #[.slice ov n cx, .int .i64 (k : Int), .int .i64 26] W fun e w' => e = .returned (.bool (decide ((26 : Int) ≤ (n : Int) - k))) ∧ w' = W) := reaches_any ov n cx (by omega) k 26 h0 hp
    by_cases hr : k + 26 ≤ n
    · have hd : decide ((26 : Int) ≤ (n : Int) - k) = true := by simp; omega
      rw [hd] at CR
      obtain ⟨g, off, c, rfl, _, _⟩ := HL.out.at k (by omega)
      obtain ⟨V, hV⟩ : ∃ V, V = nI ((L.drop k).take 13) := ⟨_, rfl⟩
      obtain ⟨M, hM⟩ : ∃ M, M = nI ((L.drop (k + 13)).take 13) := ⟨_, rfl⟩
      have hVb : Byt V := by rw [hV]; exact nI_byt _ (by simp; rw [← HN.out]; omega)
      have hMb : Byt M := by rw [hM]; exact nI_byt _ (by simp; rw [← HN.out]; omega)
      have HT : Hid (tcT L k = if (V == can V M) = true then (V, M, 0) else (Z, Z, 12)) := by
        show _ = _; unfold tcT; rw [if_pos h0, if_pos (by rw [← HN.out]; omega), hV, hM, Int.toNat_natCast]
      have HVM : Hid (V = nI ((L.drop k).take 13) ∧ M = nI ((L.drop (k + 13)).take 13)) := ⟨hV, hM⟩
      have CQ : Hid (∀ W, Calls Try.prog 31 #[.agg (cv V M)] W fun e w' => e = .returned (.bool (V == can V M)) ∧ Below W.heap.size W w') := wright_any V M hVb hMb
      have hVl := hVb.1
      have hMl := hMb.1
      have HP1 : Hid (∀ W, Below w.heap.size w W → BSl W (.slice (some ⟨g, off + k, none⟩) (n - k) (cx - k)) (L.drop k)) := fun W hW => by
        have := (HL.out.below hW).part g off k (n - k) (cx - k) rfl (by omega) (by omega) (by omega)
        rw [List.take_of_length_le (by rw [List.length_drop, ← HN.out]; exact Nat.le_refl _)] at this
        exact this
      have HP2 : Hid (∀ W, Below w.heap.size w W → BSl W (.slice (some ⟨g, off + (k + 13), none⟩) (n - (k + 13)) (cx - (k + 13))) (L.drop (k + 13))) := fun W hW => by
        have := (HL.out.below hW).part g off (k + 13) (n - (k + 13)) (cx - (k + 13)) rfl (by omega) (by omega) (by omega)
        rw [List.take_of_length_le (by rw [List.length_drop, ← HN.out]; exact Nat.le_refl _)] at this
        exact this
      clear hV hM hVb hMb hd hcm
      go_enter Try.func16, Try.ntmps16
      go_wp2_with (first
        | (go_at_call 28; refine (CR.out _).mono ?_; rintro e w1 ⟨rfl, rfl⟩))
      have B1 : Below w.heap.size w ((w.alloc (.cells zeroC 36)).alloc (.cells zeroC 36)) := B0.alloc B0.size _
      have k0 := heap_past (w.alloc (.cells zeroC 36)) (.cells zeroC 36) _ _ g0
      have k1 := heap_new (w.alloc (.cells zeroC 36)) (.cells zeroC 36) (w.heap.size + 1) (by simp)
      obtain ⟨W1, hW1⟩ : ∃ W, W = (w.alloc (.cells zeroC 36)).alloc (.cells zeroC 36) := ⟨_, rfl⟩
      rw [← hW1] at B1 k0 k1
      rw [zeroC_eq] at k1
      show Code.wp Try.prog _ _ _ ((w.alloc (.cells zeroC 36)).alloc (.cells zeroC 36))
      rw [← hW1]
      clear hW1 g0 B0
      refine region_cut (fun a a' w' => ∃ y15 y16 y17 y18 y19 y20, a' = ((((((a.put (some 15) y15).put (some 16) y16).put (some 17) y17).put (some 18) y18).put (some 19) y19).put (some 20) y20) ∧ w' = W1.drew.setRow (w.heap.size + 1) (cv V Z)) ?_ ?_
      · refine region_beginS (fun _ => True) 6 rfl (by kernel_rfl) ?_
        refine region_reads 0 5 1 rfl (by kernel_rfl) (by kernel_rfl) (by kernel_rfl) (by intro d v c a w h; exact absurd h.1 (by simp)) trivial ?_
        simp only [List.drop_zero, List.take_succ_cons, List.take_zero]
        go_big_quiet_step (fail)
        go_big_quiet_step (fail)
        go_big_quiet_step (fail)
        go_big_quiet_step (fail)
        go_big_quiet_step (fail)
        refine wpQuiet_nil ?_
        refine wpAnyH_all (rs := [5]) (by kernel_rfl) (by decide) ?_
        intro i hi
        obtain rfl := List.mem_singleton.1 hi
        refine wpOp_of_listW rfl ?_
        refine wl_copyW rfl _ _ rfl (w.heap.size + 1) 0 Z Z hzl hzl (.inl rfl) rfl (.slice (some ⟨g, off + k, none⟩) (n - k) (cx - k)) rfl (L.drop k) (HP1.out _ B1.drew) (by simp; rw [← HN.out]; omega) k1 ?_
        refine ⟨trivial, ?_⟩
        refine wpAnyH_done (by kernel_rfl) ?_ _
        rw [if_pos rfl, ← HVM.out.1]
        exact ⟨rfl, _, _, _, _, _, _, rfl, rfl⟩
      rintro a' w2 ⟨y15, y16, y17, y18, y19, y20, rfl, hw2⟩
      have B2 : Below w.heap.size w w2 := by rw [hw2]; exact below_setRow B1.drew (by omega) _
      have j0 : w2.heap[w.heap.size]? = some (.cells zeroC 36 (0, 0)) := by rw [hw2]; exact (setRow_other _ _ _ _ (by omega)).trans k0
      have j1 : w2.heap[w.heap.size + 1]? = some (.cells (cv V Z) 36 (0, 0)) := by rw [hw2]; exact setRow_heap _ _ _ _ _ _ k1
      clear hw2 k0 k1 B1
      simp only [Act.put, List.setIfInBounds_toArray, List.set_cons_succ, List.set_cons_zero]
      go_wp2_with fail
      refine region_cut (fun a a' w' => ∃ y21 y22 y23 y24 y25 y26 y27, a' = (((((((a.put (some 21) y21).put (some 22) y22).put (some 23) y23).put (some 24) y24).put (some 25) y25).put (some 26) y26).put (some 27) y27) ∧ w' = w2.drew.setRow (w.heap.size + 1) (cv V M)) ?_ ?_
      · refine region_beginS (fun _ => True) 7 rfl (by kernel_rfl) ?_
        refine region_reads 0 6 1 rfl (by kernel_rfl) (by kernel_rfl) (by kernel_rfl) (by intro d v c a w h; exact absurd h.1 (by simp)) trivial ?_
        simp only [List.drop_zero, List.take_succ_cons, List.take_zero]
        go_big_quiet_step (fail)
        go_big_quiet_step (fail)
        go_big_quiet_step (fail)
        go_big_quiet_step (fail)
        go_big_quiet_step (fail)
        go_big_quiet_step (fail)
        refine wpQuiet_nil ?_
        refine wpAnyH_all (rs := [6]) (by kernel_rfl) (by decide) ?_
        intro i hi
        obtain rfl := List.mem_singleton.1 hi
        refine wpOp_of_listW rfl ?_
        refine wl_copyW rfl _ _ rfl (w.heap.size + 1) 13 V Z hVl hzl (.inr rfl) rfl (.slice (some ⟨g, off + (k + 13), none⟩) (n - (k + 13)) (cx - (k + 13))) rfl (L.drop (k + 13)) (HP2.out _ B2.drew) (by simp; rw [← HN.out]; omega) j1 ?_
        refine ⟨trivial, ?_⟩
        refine wpAnyH_done (by kernel_rfl) ?_ _
        rw [if_neg (by decide), ← HVM.out.2]
        exact ⟨rfl, _, _, _, _, _, _, _, rfl, rfl⟩
      rintro a' w3 ⟨y21, y22, y23, y24, y25, y26, y27, rfl, hw3⟩
      have B3 : Below w.heap.size w w3 := by rw [hw3]; exact below_setRow B2.drew (by omega) _
      have l0 : w3.heap[w.heap.size]? = some (.cells zeroC 36 (0, 0)) := by rw [hw3]; exact (setRow_other _ _ _ _ (by omega)).trans j0
      have l1 : w3.heap[w.heap.size + 1]? = some (.cells (cv V M) 36 (0, 0)) := by rw [hw3]; exact setRow_heap _ _ _ _ _ _ j1
      have hsz := (Array.getElem?_eq_some_iff.1 l1).1
      clear hw3 j0 j1 B2
      simp only [Act.put, List.setIfInBounds_toArray, List.set_cons_succ, List.set_cons_zero]
      go_wp2_with (first
        | (refine wl_loadC rfl _ rfl (w.heap.size + 1) rfl V M l1 hVl hMl ?_))
      refine (CQ.out _).mono ?_
      rintro e w4 ⟨rfl, hb4⟩
      have m0 : w4.heap[w.heap.size]? = some (.cells zeroC 36 (0, 0)) := (hb4.block _ (by omega)).trans l0
      have m1 : w4.heap[w.heap.size + 1]? = some (.cells (cv V M) 36 (0, 0)) := (hb4.block _ hsz).trans l1
      have B4 : Below w.heap.size w w4 := B3.trans (hb4.mono B3.size)
      clear l0 l1 B3 hb4
      by_cases hq : (V == can V M) = true
      · rw [if_pos hq] at HT
        obtain ⟨b, hb⟩ : ∃ b, b = (V == can V M) := ⟨_, rfl⟩
        rw [← hb] at hq ⊢
        subst hq
        clear hb
        go_wp2_with (first
          | (refine wl_loadC rfl _ rfl (w.heap.size + 1) rfl V M m1 hVl hMl ?_)
          | (refine wl_storeC rfl _ _ rfl w.heap.size V M rfl rfl _ m0 rfl hVl hMl _ rfl ?_))
        refine retCe (p := 4) (u := 5) rfl rfl w.heap.size rfl V M hVl hMl (setRow_heap _ _ _ _ _ _ m0) _ rfl ⟨?_, below_setRow B4 (Nat.le_refl _) _⟩
        rw [HT.out]; rfl
      · rw [if_neg hq] at HT
        have hq' : (V == can V M) = false := by simpa using hq
        obtain ⟨b, hb⟩ : ∃ b, b = (V == can V M) := ⟨_, rfl⟩
        rw [← hb] at hq' ⊢
        subst hq'
        clear hb hq
        go_wp2_with (first
          | (refine wl_zeroC rfl rfl ?_)
          | (refine wl_storeC rfl _ _ rfl w.heap.size Z Z rfl rfl _ m0 rfl hzl hzl _ rfl ?_))
        refine retCe (p := 4) (u := 5) rfl rfl w.heap.size rfl Z Z hzl hzl (setRow_heap _ _ _ _ _ _ m0) _ rfl ⟨?_, below_setRow B4 (Nat.le_refl _) _⟩
        rw [HT.out]; rfl
    · have hd : decide ((26 : Int) ≤ (n : Int) - k) = false := by simp; omega
      rw [hd] at CR
      have HT : Hid (tcT L k = (Z, Z, 12)) := by show _ = _; unfold tcT; rw [if_pos h0, if_neg (by rw [← HN.out]; omega)]
      clear hd hcm
      go_enter Try.func16, Try.ntmps16
      go_wp2_with (first
        | (go_at_call 28; refine (CR.out _).mono ?_; rintro e w1 ⟨rfl, rfl⟩)
        | (refine wl_zeroC rfl rfl ?_)
        | (refine wl_storeC rfl _ _ rfl w.heap.size Z Z rfl rfl _ g0 rfl hzl hzl _ rfl ?_))
      refine retCe (p := 4) (u := 5) rfl rfl w.heap.size rfl Z Z hzl hzl (setRow_heap _ _ _ _ _ _ g0) _ rfl ⟨?_, below_setRow B0 (Nat.le_refl _) _⟩
      rw [HT.out]; rfl
  · have HT : Hid (tcT L p = (Z, Z, 1)) := by show _ = _; unfold tcT; rw [if_neg h0]
    have hp0 : p < 0 := by omega
    go_enter Try.func16, Try.ntmps16
    go_wp2_with (first
      | (refine wl_zeroC rfl rfl ?_)
      | (refine wl_storeC rfl _ _ rfl w.heap.size Z Z rfl rfl _ g0 rfl hzl hzl _ rfl ?_))
    refine retCe (p := 4) (u := 5) rfl rfl w.heap.size rfl Z Z hzl hzl (setRow_heap _ _ _ _ _ _ g0) _ rfl ⟨?_, below_setRow B0 (Nat.le_refl _) _⟩
    rw [HT.out]; rfl
end Go.Proofs.Ytfbphblodankmaa
